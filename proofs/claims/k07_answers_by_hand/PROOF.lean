import PyProof.Rows.All
import Wide.All
import OpenK.AllK
import Wide.FinOn
import Lean
import PyProof.EqAt
import PyProof.EqKinds
import PyProof.TupleCall
import KE.IntBitsLaws
import KE.KRevIter
import PySem.Challenge.RW_uprow_k07_answers_by_hand
set_option Elab.async false
set_option linter.all false
set_option maxRecDepth 100000
namespace L2
open PySem PySem.Spec PyProof.Rows
abbrev Key := Sum Int Str
def keyIs : Key → Value → Bool
  | .inl k, v => Value.isInt k v
  | .inr x, v => Value.isStrOf x v
def keyH (w : World) : Key → Int
  | .inl k => hashInt k
  | .inr x => hashStr w x
theorem keyIs_shape : ∀ {k : Key} {v : Value}, keyIs k v = true → (∃ i t, k = Sum.inl i ∧ v = Value.int i t) ∨ (∃ x t, k = Sum.inr x ∧ v = Value.str x t)
  | .inl i, v, h => by
    obtain ⟨t, e⟩ := Value.isInt_shape (k := i) (v := v) h
    exact .inl ⟨i, t, rfl, e⟩
  | .inr x, v, h => by
    obtain ⟨t, e⟩ := Value.isStrOf_shape (x := x) (v := v) h
    exact .inr ⟨x, t, rfl, e⟩
theorem key_ll (a b : Int) : decide ((Sum.inl a : Key) = Sum.inl b) = (a == b) := by
  by_cases e : a = b
  · subst e; simp
  · have h : ¬ (Sum.inl a : Key) = Sum.inl b := fun q => e (Sum.inl.inj q)
    rw [decide_eq_false h]
    exact (beq_eq_false_iff_ne.mpr e).symm
theorem key_rr (a b : Str) : decide ((Sum.inr a : Key) = Sum.inr b) = decide (a = b) := by
  by_cases e : a = b
  · subst e; simp
  · have h : ¬ (Sum.inr a : Key) = Sum.inr b := fun q => e (Sum.inr.inj q)
    rw [decide_eq_false h, decide_eq_false e]
theorem key_lr (a : Int) (b : Str) : decide ((Sum.inl a : Key) = Sum.inr b) = false := decide_eq_false (fun q => nomatch q)
theorem key_rl (a : Str) (b : Int) : decide ((Sum.inr a : Key) = Sum.inl b) = false := decide_eq_false (fun q => nomatch q)
def mixKind (prog : Program) (w : World) : PySem.KeyKind prog w Key where
  is := keyIs
  hash := keyH w
  inj := fun v a b ha hb => by
    rcases keyIs_shape ha with ⟨i, t, rfl, rfl⟩ | ⟨x, t, rfl, rfl⟩
    · rcases keyIs_shape hb with ⟨j, u, rfl, e⟩ | ⟨y, u, rfl, e⟩
      · injection e with e1 _; rw [e1]
      · exact nomatch e
    · rcases keyIs_shape hb with ⟨j, u, rfl, e⟩ | ⟨y, u, rfl, e⟩
      · exact nomatch e
      · injection e with e1 _; rw [e1]
  byValue := fun k v h => by
    rcases keyIs_shape h with ⟨i, t, rfl, rfl⟩ | ⟨x, t, rfl, rfl⟩ <;> rfl
  pyHash := fun hv h => by
    rcases keyIs_shape hv with ⟨i, t, rfl, rfl⟩ | ⟨x, t, rfl, rfl⟩
    · exact wpAny_pyHash_int h
    · exact wpAny_pyHash_str h
  eqBool := fun hu hv h => by
    rcases keyIs_shape hu with ⟨i, t, rfl, rfl⟩ | ⟨x, t, rfl, rfl⟩
    · rcases keyIs_shape hv with ⟨j, u, rfl, rfl⟩ | ⟨y, u, rfl, rfl⟩
      · rw [key_ll] at h; exact wpAny_eqBool_int h
      · rw [key_lr] at h; exact SeqAt.EqAt.int_str i t y u _ _ _ _ h
    · rcases keyIs_shape hv with ⟨j, u, rfl, rfl⟩ | ⟨y, u, rfl, rfl⟩
      · rw [key_rl] at h; exact SeqAt.EqAt.str_int x t j u _ _ _ _ h
      · rw [key_rr] at h; exact wpAny_eqBool_str h
  «strs» := fun k x t v h => by
    rcases keyIs_shape h with ⟨i, u, rfl, e⟩ | ⟨y, u, rfl, e⟩
    · exact nomatch e
    · injection e with e1 _
      subst e1
      cases v <;> rfl
end L2
namespace L2
open PySem PySem.Spec PyProof.Rows
inductive V where
  | non | bl (b : Bool) | int (i : Int) | str (x : Str) | byt (b : Array UInt8) | flt (b : UInt64) | ref (a : Addr) | ty (n : String)
  deriving DecidableEq
def RelV : V → Value → Prop
  | .non, u => u = Value.none
  | .bl b, u => u = Value.bool b
  | .int i, u => ∃ t, u = Value.int i t
  | .str x, u => ∃ t, u = Value.str x t
  | .byt b, u => ∃ t, u = Value.bytes b t
  | .flt b, u => ∃ t, u = Value.float b t
  | .ref a, u => u = Value.ref a
  | .ty n, u => u = Value.type n
abbrev Vals : List V → List Value → Prop := Paired RelV
theorem Vals.length {xs : List V} {us : List Value} (r : Vals xs us) : xs.length = us.length := Paired.length r
theorem Vals.get : ∀ {xs : List V} {us : List Value} {i : Nat} {x : V}, Vals xs us → xs[i]? = some x → ∃ u, us[i]? = some u ∧ RelV x u
  | _, _, _, _, .nil, e => by simp at e
  | _, _, 0, _, .cons r _, e => by simp at e; subst e; exact ⟨_, rfl, r⟩
  | _, _, i + 1, x, .cons _ t, e => by
    obtain ⟨u, h1, h2⟩ := Vals.get (i := i) (x := x) t (by simpa using e)
    exact ⟨u, by simpa using h1, h2⟩
theorem Vals.set {x : V} {u : Value} (r : RelV x u) : ∀ {xs : List V} {us : List Value} (i : Nat), Vals xs us → Vals (xs.set i x) (us.set i u)
  | _, _, _, .nil => .nil
  | _, _, 0, .cons _ t => .cons r t
  | _, _, i + 1, .cons q t => .cons q (Vals.set r i t)
theorem Vals.append : ∀ {xs ys : List V} {us ws : List Value}, Vals xs us → Vals ys ws → Vals (xs ++ ys) (us ++ ws)
  | _, _, _, _, .nil, s => s
  | _, _, _, _, .cons r t, s => .cons r (Vals.append t s)
theorem Vals.take : ∀ {xs : List V} {us : List Value} (n : Nat), Vals xs us → Vals (xs.take n) (us.take n)
  | _, _, 0, _ => .nil
  | _, _, _ + 1, .nil => .nil
  | _, _, n + 1, .cons r t => .cons r (Vals.take n t)
theorem Vals.drop : ∀ {xs : List V} {us : List Value} (n : Nat), Vals xs us → Vals (xs.drop n) (us.drop n)
  | _, _, 0, r => r
  | _, _, _ + 1, .nil => .nil
  | _, _, n + 1, .cons _ t => Vals.drop n t
def RelO : Option V → Option Value → Prop
  | some v, some u => RelV v u
  | none, none => True
  | _, _ => False
def KV {κ : Type} : List (κ × V) → List (κ × Value) → Prop := Paired fun (p : κ × V) (q : κ × Value) => p.1 = q.1 ∧ RelV p.2 q.2
def kV : Key → V
  | .inl i => .int i
  | .inr x => .str x
inductive HO where
    | lst (xs : List V)
    | tup (xs : List V)
    | dK (kvs : List (Key × V)) | dT (kvs : List (List Key × V))
    | set (S : Int → Bool) (n : Nat)
    | ins (C dx : Addr) (fs : List (Str × V))
    | own (x : Addr)
    | xd (fs : List (Str × V))
    | met (f x : Addr)
    | rng (lo hi : Int)
    | frz (o : Obj) (u : HO)
    | tbl (ps : Array Value)
    | ext (φ : Heap → Prop)
abbrev Hp := Addr → Option HO
def upd (H : Hp) (a : Addr) (o : HO) : Hp := fun b => if b = a then some o else H b
theorem upd_same {H : Hp} {a : Addr} {o : HO} : upd H a o a = some o := by unfold upd; rw [if_pos rfl]
theorem upd_ne {H : Hp} {a b : Addr} {o : HO} (h : b ≠ a) : upd H a o b = H b := by unfold upd; rw [if_neg h]
theorem ne_of {H : Hp} {a b : Addr} {o u : HO} (h : H a = some o) (h' : H b = some u) (d : o ≠ u) : a ≠ b := by
  intro e; subst e; rw [h] at h'; exact d (Option.some.inj h')
theorem ne_of_none {H : Hp} {a b : Addr} {o : HO} (h : H a = some o) (h' : H b = none) : a ≠ b := by
  intro e; subst e; rw [h] at h'; cases h'
section
variable (P : Program) (w : World)
def ObjOk (H : Hp) (h : Heap) (a : Addr) : HO → Prop
  | .lst xs => xs.length ≤ sizeLine ∧ ∃ (its : List Value) (n : Nat), Vals xs its ∧ h.get? a = some { cls := .type "list", data := .seq its.toArray n }
  | .tup xs => xs.length ≤ sizeLine ∧ ∃ its : List Value, Vals xs its ∧ IsTup h a its.toArray
  | .dK kvs => kvs.length ≤ sizeLine ∧ (a == sysModules) = false ∧ ∃ vs, KV kvs vs ∧ h.DictOf (mixKind P w) a vs
  | .dT kvs => kvs.length ≤ sizeLine ∧ (a == sysModules) = false ∧ ∃ xs : List (List Key × Addr × Value),
      Paired (fun (p : List Key × V) (q : List Key × Addr × Value) => p.1 = q.1 ∧ H q.2.1 = some (.tup (p.1.map kV)) ∧ RelV p.2 q.2.2) kvs xs ∧
      ∃ o es ep, h.get? a = some o ∧ o.ExactDict ∧ o.data = .dict es ep ∧ es.toList = xs.map (entryOfKey (tupleKind (mixKind P w))) ∧ (xs.map (·.1)).Nodup
  | .set S n => h.SetOf (intKind P w) a S n
  | .ins C dx fs => H dx = some (.own a) ∧ fs.length ≤ 1000 ∧ dx ≠ a ∧ h.get? a = some (PySem.W.instObj C dx) ∧
      ∃ mA, h.Ns1 dx mA ∧ (∀ f, RelO (fs.lookup f) (mA f)) ∧ PySem.Within mA (fs.map (·.1))
  | .own _ => ∃ o, h.get? a = some o
  | .xd fs => ∃ mA, h.Ns1 a mA ∧ ∀ f, RelO (fs.lookup f) (mA f)
  | .rng lo hi => ∃ t u v, h.get? a = some { cls := .type "range", data := .fields #[.int lo t, .int hi u, .int 1 v] }
  | .frz o u => h.get? a = some o ∧ ObjOk H h a u
  | .tbl ps => h.get? a = some { cls := .none, data := .fields ps }
  | .met f x => h.get? a = some (PySem.W.methodObj (.ref f) (.ref x))
  | .ext φ => φ h ∧ (∃ o, h.get? a = some o) ∧ ∀ h1 h2 : Heap, φ h1 → (∀ o, h1.get? a = some o → h2.get? a = some o) → φ h2
def HOk (H : Hp) (h : Heap) : Prop := ∀ a o, H a = some o → ObjOk P w H h a o
end
section
variable {P : Program} {w : World} {H H' : Hp} {h h' : Heap} {a : Addr} {o : HO}
theorem ObjOk.lt (x : ObjOk P w H h a o) : a < h.objs.size := by
  cases o with
  | lst xs => obtain ⟨_, _, _, _, e⟩ := x; exact Heap.lt_size e
  | tup xs => obtain ⟨_, _, _, p⟩ := x; exact p.lt
  | dK kvs => obtain ⟨_, _, _, _, o, _, _, e, _⟩ := x; exact Heap.lt_size e
  | dT kvs => obtain ⟨_, _, _, _, o, _, _, e, _⟩ := x; exact Heap.lt_size e
  | set S n => obtain ⟨o, _, _, _, e, _⟩ := x; exact Heap.lt_size e
  | ins C dx fs => obtain ⟨_, _, _, e, _⟩ := x; exact Heap.lt_size e
  | own y => obtain ⟨_, e⟩ := x; exact Heap.lt_size e
  | xd fs => obtain ⟨_, ⟨_, _, _, e, _⟩, _⟩ := x; exact Heap.lt_size e
  | rng lo hi => obtain ⟨_, _, _, e⟩ := x; exact Heap.lt_size e
  | frz ob u => obtain ⟨e, _⟩ := x; exact Heap.lt_size e
  | tbl ps => exact Heap.lt_size (show h.get? a = some _ from x)
  | met f y => exact Heap.lt_size (show h.get? a = some _ from x)
  | ext φ => obtain ⟨_, ⟨_, e⟩, _⟩ := x; exact Heap.lt_size e
theorem Paired.mapP {α β : Type} {F G : α → β → Prop} : ∀ {l₁ : List α} {l₂ : List β}, Paired F l₁ l₂ → (∀ a b, F a b → G a b) → Paired G l₁ l₂
  | _, _, .nil, _ => .nil
  | _, _, .cons r t, f => .cons (f _ _ r) (Paired.mapP t f)
theorem ObjOk.stay (x : ObjOk P w H h a o) (k : ∀ b u, (b = a ∨ H b = some (.own a)) → h.get? b = some u → h'.get? b = some u)
    (ho : ∀ b, H b = some (.own a) → H' b = some (.own a)) (ht : ∀ b xs, H b = some (.tup xs) → H' b = some (.tup xs)) : ObjOk P w H' h' a o := by
  induction o with
  | lst xs => obtain ⟨z, its, n, r, e⟩ := x; exact ⟨z, its, n, r, k _ _ (.inl rfl) e⟩
  | tup xs => obtain ⟨z, its, r, ob, e, c⟩ := x; exact ⟨z, its, r, ob, k _ _ (.inl rfl) e, c⟩
  | dK kvs => obtain ⟨z, y, vs, r, ob, es, ep, e, c⟩ := x; exact ⟨z, y, vs, r, ob, es, ep, k _ _ (.inl rfl) e, c⟩
  | dT kvs =>
    obtain ⟨z, y, xs, r, ob, es, ep, e, c⟩ := x
    exact ⟨z, y, xs, Paired.mapP r fun p q z => ⟨z.1, ht _ _ z.2.1, z.2.2⟩, ob, es, ep, k _ _ (.inl rfl) e, c⟩
  | set S n => obtain ⟨ob, es, ep, t, e, c⟩ := x; exact ⟨ob, es, ep, t, k _ _ (.inl rfl) e, c⟩
  | ins C dx fs =>
    obtain ⟨d, z, ne, e, mA, ⟨od, es, ep, e2, c⟩, r⟩ := x
    exact ⟨ho _ d, z, ne, k _ _ (.inl rfl) e, mA, ⟨od, es, ep, k _ _ (.inr d) e2, c⟩, r⟩
  | own y => obtain ⟨ob, e⟩ := x; exact ⟨ob, k _ _ (.inl rfl) e⟩
  | xd fs => obtain ⟨mA, ⟨od, es, ep, e, c⟩, r⟩ := x; exact ⟨mA, ⟨od, es, ep, k _ _ (.inl rfl) e, c⟩, r⟩
  | rng lo hi => obtain ⟨t, u, v, e⟩ := x; exact ⟨t, u, v, k _ _ (.inl rfl) e⟩
  | frz ob u ih => obtain ⟨e, q⟩ := x; exact ⟨k _ _ (.inl rfl) e, ih q⟩
  | tbl ps =>
    have e : h.get? a = some { cls := .none, data := .fields ps } := x
    show h'.get? a = some { cls := .none, data := .fields ps }
    exact k a _ (.inl rfl) e
  | met f y =>
    have e : h.get? a = some (PySem.W.methodObj (.ref f) (.ref y)) := x
    show h'.get? a = some (PySem.W.methodObj (.ref f) (.ref y))
    exact k a _ (.inl rfl) e
  | ext φ => obtain ⟨p, ⟨o, e⟩, st⟩ := x; exact ⟨st _ _ p fun o q => k _ _ (.inl rfl) q, ⟨o, k _ _ (.inl rfl) e⟩, st⟩
theorem HOk.lt (x : HOk P w H h) (e : H a = some o) : a < h.objs.size := (x a o e).lt
theorem HOk.fresh (x : HOk P w H h) (e : h.objs.size ≤ a) : H a = none := by
  cases q : H a with
  | none => rfl
  | some u => exact absurd (Nat.lt_of_lt_of_le (x.lt q) e) (Nat.lt_irrefl _)
theorem HOk.kept (x : HOk P w H h) (k : ∀ b u, h.get? b = some u → h'.get? b = some u) : HOk P w H h' := fun a o e =>
  (x a o e).stay (fun b u _ q => k b u q) (fun _ q => q) fun _ _ q => q
theorem HOk.laid (x : HOk P w H h) (k : ∀ b u, h.get? b = some u → h'.get? b = some u) (hp : h.objs.size ≤ a) (new : ObjOk P w (upd H a o) h' a o) : HOk P w (upd H a o) h' := fun b u e => by
  have hn := x.fresh hp
  by_cases hb : b = a
  · subst hb; rw [upd_same] at e; cases e; exact new
  · rw [upd_ne hb] at e
    exact (x b u e).stay (fun c v _ q => k c v q) (fun c q => by rw [upd_ne (ne_of_none q hn)]; exact q) fun c xs q => by rw [upd_ne (ne_of_none q hn)]; exact q
end
def Rd (H : Hp) (a : Addr) (u : HO) : Prop := H a = some u ∨ ∃ o, H a = some (.frz o u)
theorem Rd.ok {P : Program} {w : World} {H : Hp} {h : Heap} {a : Addr} {u : HO} (r : Rd H a u) (x : HOk P w H h) : ObjOk P w H h a u := by
  rcases r with r | ⟨o, r⟩
  · exact x a u r
  · obtain ⟨_, q⟩ := x a _ r
    exact q
def Mut : Option HO → Prop
  | some (.lst _) => True
  | some (.dK _) => True
  | some (.dT _) => True
  | some (.set _ _) => True
  | some (.ins _ _ _) => True
  | some (.ext _) => True
  | _ => False
section
variable {P : Program} {w : World} {H : Hp} {h h' : Heap} {x e : Addr} {o' : HO}
theorem HOk.write (ok : HOk P w H h) (mu : Mut (H x)) (he : e = x ∨ H e = some (.own x)) (k : ∀ b u, b ≠ e → h.get? b = some u → h'.get? b = some u) (heo : ∃ u, h'.get? e = some u)
    (new : ObjOk P w (upd H x o') h' x o') : HOk P w (upd H x o') h' := fun b u q => by
  have nown : ∀ c y, H c = some (.own y) → c ≠ x := fun c y r z => by subst z; rw [r] at mu; exact mu
  have ntup : ∀ c xs, H c = some (.tup xs) → c ≠ x := fun c xs r z => by subst z; rw [r] at mu; exact mu
  by_cases hb : b = x
  · subst hb; rw [upd_same] at q; cases q; exact new
  · rw [upd_ne hb] at q
    by_cases hbe : b = e
    · have q' : H b = some (.own x) := by
        rcases he with z | z
        · exact absurd (hbe.trans z) hb
        · rw [hbe]; exact z
      rw [q] at q'; cases q'
      obtain ⟨v, hv⟩ := heo
      exact ⟨v, by rw [hbe]; exact hv⟩
    · refine (ok b u q).stay (fun c v hc r => k c v ?_ r) (fun c r => by rw [upd_ne (nown c b r)]; exact r) fun c xs r => by rw [upd_ne (ntup c xs r)]; exact r
      rcases hc with rfl | hc
      · exact hbe
      · rintro rfl
        rcases he with z | z
        · exact nown c b hc z
        · rw [hc] at z; cases z; exact hb rfl
end
structure Un (fs ex : List Addr) (H H' : Hp) (h h' : Heap) : Prop where
  keep : ∀ b o, h.get? b = some o → H b = none → b ∉ fs → b ∉ ex → h'.get? b = some o
  slot : ∀ b o, h.get? b = some o → H b = none → b ∈ fs → b ∉ ex → ∃ sl, h'.get? b = some { o with slots := sl }
  free : ∀ b o, h.get? b = some o → H b = none → b ∉ ex → H' b = none
  there : ∀ b o, h.get? b = some o → b ∉ ex → ∃ o', h'.get? b = some o'
  tups : ∀ b xs, H b = some (.tup xs) → H' b = some (.tup xs)
  frzs : ∀ b o u, H b = some (.frz o u) → H' b = some (.frz o u)
  tbls : ∀ b ps, H b = some (.tbl ps) → ∃ more, H' b = some (.tbl (ps ++ more))
section
variable {fs fs' ex ex' : List Addr} {H H1 H2 : Hp} {h h1 h2 h' : Heap} {a x e : Addr} {o : HO}
theorem Un.any (u : Un fs ex H H1 h h1) {b : Addr} {ob : Obj} (q : h.get? b = some ob) (n : H b = none) (hx : b ∉ ex) : ∃ sl, h1.get? b = some { ob with slots := sl } := by
  by_cases hb : b ∈ fs
  · exact u.slot b ob q n hb hx
  · exact ⟨ob.slots, u.keep b ob q n hb hx⟩
theorem Un.kept (k : ∀ b u, h.get? b = some u → h'.get? b = some u) : Un fs ex H H h h' :=
  ⟨fun b ob q _ _ _ => k b ob q, fun b ob q _ _ _ => ⟨ob.slots, k b ob q⟩, fun _ _ _ n _ => n, fun b ob q _ => ⟨ob, k b ob q⟩, fun _ _ q => q, fun _ _ _ q => q, fun _ ps q => ⟨#[], by rw [q]; simp⟩⟩
theorem Un.refl : Un fs ex H H h h := Un.kept fun _ _ q => q
theorem Un.laid (k : ∀ b u, h.get? b = some u → h'.get? b = some u) (hp : h.objs.size ≤ a) (hn : H a = none) : Un fs ex H (upd H a o) h h' where
  keep := fun b u q _ _ _ => k b u q
  slot := fun b u q _ _ _ => ⟨u.slots, k b u q⟩
  free := fun b u q n _ => by rw [upd_ne (Nat.ne_of_lt (Nat.lt_of_lt_of_le (Heap.lt_size q) hp))]; exact n
  there := fun b u q _ => ⟨u, k b u q⟩
  tups := fun b xs q => by rw [upd_ne (ne_of_none q hn)]; exact q
  frzs := fun b u xs q => by rw [upd_ne (ne_of_none q hn)]; exact q
  tbls := fun b ps q => ⟨#[], by rw [upd_ne (ne_of_none q hn), q]; simp⟩
theorem Un.write (mu : Mut (H x)) (he : e = x ∨ H e = some (.own x)) (k : ∀ b u, b ≠ e → h.get? b = some u → h'.get? b = some u) (heo : ∃ u, h'.get? e = some u) : Un fs ex H (upd H x o) h h' := by
  have hx : ∀ b, H b = none → b ≠ x := fun b n z => by subst z; rw [n] at mu; exact mu
  have hb : ∀ b, H b = none → b ≠ e := fun b n z => by
    subst z
    rcases he with r | r
    · exact hx b n r
    · rw [n] at r; cases r
  have hm : ∀ b u, H b = some u → ¬ Mut (some u) → b ≠ x := fun b u q nm z => by subst z; rw [q] at mu; exact nm mu
  refine ⟨fun b u q n _ _ => k b u (hb b n) q, fun b u q n _ _ => ⟨u.slots, k b u (hb b n) q⟩, fun b u q n _ => by rw [upd_ne (hx b n)]; exact n, fun b u q _ => ?_,
    fun b xs q => by rw [upd_ne (hm b _ q fun z => z)]; exact q, fun b u xs q => by rw [upd_ne (hm b _ q fun z => z)]; exact q, fun b ps q => ⟨#[], by rw [upd_ne (hm b _ q fun z => z), q]; simp⟩⟩
  by_cases hbe : b = e
  · subst hbe; exact heo
  · exact ⟨u, k b u hbe q⟩
end
def trk (h : Heap) (H : Hp) : List Addr := (List.range h.objs.size).filter fun a => (H a).isSome
def hidT (h : Heap) (H : Hp) : Heap := PySem.W.hideAll h (trk h H)
theorem hidT_size (h : Heap) (H : Hp) : (hidT h H).objs.size = h.objs.size := PySem.W.hideAll_size _ _
theorem hidT_get {h : Heap} {H : Hp} {b : Addr} {o : Obj} (e : h.get? b = some o) (n : H b = none) : (hidT h H).get? b = some o :=
  PySem.W.hideAll_get _ e fun hm => by
    have q : (H b).isSome = true := (List.mem_filter.mp hm).2
    rw [n] at q; simp at q
theorem of_hidT {h : Heap} {H : Hp} {b : Addr} {o : Obj} (e : (hidT h H).get? b = some o) : h.get? b = some o ∧ H b = none := by
  have e' : h.get? b = some o := PySem.W.of_hideAll (trk h H) e
  refine ⟨e', ?_⟩
  cases q : H b with
  | none => rfl
  | some x =>
    have hm : b ∈ trk h H := List.mem_filter.mpr ⟨List.mem_range.mpr (Heap.lt_size e'), by simp [q]⟩
    have z : (hidT h H).get? b = none := PySem.W.hideAll_none (trk h H) hm
    rw [z] at e; cases e
def allNews (g h : Heap) (L : Addr) : List (Addr × Obj) := (List.range h.objs.size).filterMap fun a => if a = L ∨ (g.get? a).isSome = true then none else (h.get? a).map fun o => (a, o)
def rest (g h : Heap) (L d : Addr) : List (Addr × Obj) := (allNews g h L).filter fun p => decide (p.1 ≠ d)
end L2
namespace L2
open PySem PySem.Spec PyProof.Rows
structure Mod (K : PySem.W.Frag) (mg : Str → Option Value) (base : Heap) : Prop where
  kin : K.In base
  glob : base.Ns mainGlobals mg
  blt : ∃ mb, base.Ns builtinsNs mb ∧ ∀ x : Str, x ≠ "__name__" → mb x = bootBuiltins x
  nolimit : base.NoLimit
structure Cx where
  prog : Program
  w : World
  K : PySem.W.Frag
  mg : Str → Option Value
  base : Heap
  A : Around
  N : List Str
  s₀ : Shared
  H₀ : Hp
  env : Env
  outer : List Env
  stack : List Env
  ex : List Addr
  fn : Str → Bool
  calm : Bool
  pn : List (Addr × Obj)
  xe : Value → Shared → Prop
def frs (l : List Env) : List Addr := l.filterMap (·.frame)
abbrev Cx.fs (X : Cx) : List Addr := frs X.outer
def Vis (sc : Scope) (x : Str) : Prop := sc.names.lookup x = some .local ∨ sc.names.lookup x = some .cell ∨ sc.names.lookup x = some .free
def Loc (sc : Scope) (x : Str) : Prop := sc.names.lookup x = some .local ∨ sc.names.lookup x = some .cell
def Look (env : Env) (h : Heap) (m : Str → Option Value) (x : Str) (u : Value) : Prop :=
  (env.kindOf x = some .local ∧ m x = some u) ∨ ((env.kindOf x = some .cell ∨ env.kindOf x = some .free) ∧ ∃ c, env.cells.lookup x = some c ∧ h.IsCell c (some u))
structure Cx.Ok (X : Cx) : Prop where
  mod : Mod X.K X.mg X.base
  kind : X.env.scope.kind = .function
  glob : X.env.globals = mainGlobals
  blt : X.env.builtins = builtinsNs
  above : X.s₀.heap.objs.size ≤ X.env.locals
  inj : ∀ x y c, X.env.cells.lookup x = some c → X.env.cells.lookup y = some c → x = y
  has : ∀ x, (X.env.kindOf x = some .cell ∨ X.env.kindOf x = some .free) → ∃ c, X.env.cells.lookup x = some c
  cab : ∀ x c, X.fn x = true → X.env.cells.lookup x = some c → X.s₀.heap.objs.size ≤ c
  hd : X.calm = true → X.A.handled = none
  frames : X.A.frames = some X.stack
  stk : X.stack = X.outer ∨ (X.stack = X.env :: X.outer ∧ X.env.frame = some X.env.locals)
  exf : ∀ b ∈ X.ex, b ≠ X.env.locals ∧ ∀ x c, X.env.cells.lookup x = some c → c ≠ b
  bs : ∀ b o, X.base.get? b = some o → X.s₀.heap.get? b = some o ∧ X.H₀ b = none
  bsz : X.base.objs.size ≤ X.s₀.heap.objs.size
  noex : ∀ b o, X.base.get? b = some o → b ∉ X.ex
  exfs : ∀ b ∈ X.ex, b ∉ X.fs
  funs : X.s₀.heap.FunFrames X.base X.outer
  frf : ∀ b ∈ X.fs, X.H₀ b = none
structure Inv (X : Cx) (pins : List (Addr × Obj)) (σ : List (Option V)) (H : Hp) (s : Shared) : Prop where
  ok : X.Ok
  os : s.os = X.s₀.os
  bare : AllBare s.gens
  base : Un X.fs X.ex X.H₀ H X.s₀.heap s.heap
  loc : ∃ m, s.heap.Ns X.env.locals m ∧ ∀ (i : Nat) (x : Str) (v : V), X.N[i]? = some x → σ[i]? = some (some v) → Vis X.env.scope x → ∃ u, RelV v u ∧ Look X.env s.heap m x u
  cell : ∀ x c, X.env.cells.lookup x = some c → ∃ v, s.heap.IsCell c v
  free : H X.env.locals = none
  freeC : ∀ x c, X.env.cells.lookup x = some c → H c = none
  pin : ∀ p ∈ X.pn ++ pins, s.heap.get? p.1 = some p.2 ∧ H p.1 = none ∧ p.1 ≠ X.env.locals ∧ p.1 ∉ X.fs ∧ ∀ v, p.2.data ≠ .cell v
  hok : HOk X.prog X.w H s.heap
  len : σ.length = X.N.length
section
variable {X : Cx} {pins : List (Addr × Obj)} {σ : List (Option V)} {H H' : Hp} {s : Shared} {h' : Heap}
theorem Cx.Ok.nofr (ok : X.Ok) {b : Addr} {o : Obj} (e : X.base.get? b = some o) : b ∉ X.fs := fun hb => by
  have := (ok.funs.mem hb).1
  rw [e] at this; cases this
theorem Inv.bs (I : Inv X pins σ H s) : ∀ b o, X.base.get? b = some o → s.heap.get? b = some o ∧ H b = none := fun b o e =>
  ⟨I.base.keep b o (I.ok.bs b o e).1 (I.ok.bs b o e).2 (I.ok.nofr e) (I.ok.noex b o e), I.base.free b o (I.ok.bs b o e).1 (I.ok.bs b o e).2 (I.ok.noex b o e)⟩
theorem Inv.bk (I : Inv X pins σ H s) : ∀ b o, X.base.get? b = some o → s.heap.get? b = some o := fun b o e => (I.bs b o e).1
theorem Inv.mod (I : Inv X pins σ H s) : Mod X.K X.mg X.base := I.ok.mod
theorem Inv.kIn (I : Inv X pins σ H s) : X.K.In s.heap := I.ok.mod.kin.keeps I.bk
theorem Inv.lt (I : Inv X pins σ H s) : X.env.locals < s.heap.objs.size := let ⟨_, hn, _⟩ := I.loc; hn.lt
theorem Inv.sz (I : Inv X pins σ H s) : X.s₀.heap.objs.size ≤ s.heap.objs.size := Nat.le_trans I.ok.above (Nat.le_of_lt I.lt)
theorem Inv.nofs (I : Inv X pins σ H s) {a : Addr} (h : s.heap.objs.size ≤ a) : a ∉ X.fs := fun hb => by
  obtain ⟨_, o, ho, _⟩ := I.ok.funs.mem hb
  exact absurd (Nat.lt_of_lt_of_le (Heap.lt_size ho) (Nat.le_trans I.sz h)) (Nat.lt_irrefl _)
theorem Inv.cne (I : Inv X pins σ H s) : ∀ x c, X.env.cells.lookup x = some c → c ≠ X.env.locals := fun x c e z => by
  obtain ⟨v, o, ho, hd⟩ := I.cell x c e
  obtain ⟨m, ⟨o', es, ep, ho', hd', _⟩, _⟩ := I.loc
  rw [z, ho'] at ho; cases ho; rw [hd'] at hd; cases hd
theorem Inv.funs (I : Inv X pins σ H s) : s.heap.FunFrames X.base X.outer := by
  have all : ∀ (l : List Env), (∀ b ∈ frs l, b ∈ X.fs) → X.s₀.heap.FunFrames X.base l → s.heap.FunFrames X.base l := by
    intro l
    induction l with
    | nil => intro _ _; trivial
    | cons env r ih =>
      intro hs hl
      obtain ⟨hk, ⟨L, o, hf, hn, ho, hd⟩, hr⟩ := hl
      have hL : L ∈ X.fs := hs L (by unfold frs; rw [List.filterMap_cons, hf]; exact List.mem_cons_self)
      obtain ⟨sl, e⟩ := I.base.slot L o ho (I.ok.frf L hL) hL fun z => I.ok.exfs L z hL
      exact ⟨hk, ⟨L, _, hf, hn, e, hd⟩, ih (fun b hb => hs b (by unfold frs; rw [List.filterMap_cons, hf]; exact List.mem_cons_of_mem _ hb)) hr⟩
  exact all X.outer (fun _ hb => hb) I.ok.funs
theorem Inv.stack (I : Inv X pins σ H s) : s.heap.FunFrames X.base X.stack := by
  rcases I.ok.stk with e | ⟨e, hf⟩
  · rw [e]; exact I.funs
  · rw [e]
    obtain ⟨m, hn, _⟩ := I.loc
    refine .cons (by rw [I.ok.kind]; decide) hf hn ?_ I.funs
    exact Heap.get?_none_of_le (Nat.le_trans I.ok.bsz I.ok.above)
theorem Inv.stkSub (I : Inv X pins σ H s) : ∀ b ∈ frs X.stack, b ∈ X.env.locals :: X.fs := fun b hb => by
  rcases I.ok.stk with e | ⟨e, hf⟩
  · rw [e] at hb; exact List.mem_cons_of_mem _ hb
  · rw [e] at hb
    unfold frs at hb
    rw [List.filterMap_cons, hf] at hb
    exact hb
theorem Inv.stkFree (I : Inv X pins σ H s) : ∀ b ∈ frs X.stack, H b = none := fun b hb => by
  rcases List.mem_cons.mp (I.stkSub b hb) with e | hb
  · rw [e]; exact I.free
  · obtain ⟨_, o, ho, _⟩ := I.ok.funs.mem hb
    exact I.base.free b o ho (I.ok.frf b hb) fun z => I.ok.exfs b z hb
theorem Inv.step {g' : Array GenState} {t' : Nat} {d' : Drawn} {ch : List Addr} (I : Inv X pins σ H s)
    (hch : ∀ b ∈ ch, (b ∈ X.ex ∨ X.s₀.heap.objs.size ≤ b) ∧ b ≠ X.env.locals ∧ (∀ x c, X.env.cells.lookup x = some c → c ≠ b) ∧ ∀ p ∈ X.pn ++ pins, p.1 ≠ b)
    (keep : ∀ b o, b ≠ X.env.locals → b ∉ X.fs → b ∉ ch → s.heap.get? b = some o → H b = none → h'.get? b = some o)
    (slot : ∀ b o, b ≠ X.env.locals → b ∈ X.fs → b ∉ ch → s.heap.get? b = some o → H b = none → ∃ sl, h'.get? b = some { o with slots := sl }) (free : ∀ b o, b ∉ ch → s.heap.get? b = some o → H b = none → H' b = none)
    (there : ∀ b o, b ∉ ch → s.heap.get? b = some o → ∃ o', h'.get? b = some o')
    (tups : ∀ b xs, H b = some (.tup xs) → H' b = some (.tup xs)) (frzs : ∀ b o u, H b = some (.frz o u) → H' b = some (.frz o u)) (tbls : ∀ b ps, H b = some (.tbl ps) → ∃ more, H' b = some (.tbl (ps ++ more)))
    (ns : ∀ m, s.heap.Ns X.env.locals m → h'.Ns X.env.locals m) (hok : HOk X.prog X.w H' h') (hg : AllBare g') :
    Inv X pins σ H' { s with heap := h', gens := g', drawn := d', toks := t' } := by
  have neL : ∀ b o, X.s₀.heap.get? b = some o → b ≠ X.env.locals := fun b o e => Nat.ne_of_lt (Nat.lt_of_lt_of_le (Heap.lt_size e) I.ok.above)
  have neC : ∀ b o, X.s₀.heap.get? b = some o → b ∉ X.ex → b ∉ ch := fun b o e hx hb => by
    rcases (hch b hb).1 with z | z
    · exact hx z
    · exact absurd (Nat.lt_of_lt_of_le (Heap.lt_size e) z) (Nat.lt_irrefl _)
  have cellK : ∀ x c, X.env.cells.lookup x = some c → ∀ v, s.heap.IsCell c v → h'.IsCell c v := fun x c e v ⟨o, ho, hd⟩ => by
    have nch : c ∉ ch := fun z => (hch c z).2.2.1 x c e rfl
    by_cases hc : c ∈ X.fs
    · obtain ⟨sl, q⟩ := slot c o (I.cne x c e) hc nch ho (I.freeC x c e)
      exact ⟨_, q, hd⟩
    · exact ⟨o, keep c o (I.cne x c e) hc nch ho (I.freeC x c e), hd⟩
  refine ⟨I.ok, I.os, hg, ⟨fun b o e n hb hx => ?_, fun b o e n hb hx => ?_, fun b o e n hx => ?_, fun b o e hx => ?_, fun b xs e => tups b xs (I.base.tups b xs e), fun b o xs e => frzs b o xs (I.base.frzs b o xs e), fun b ps e => ?_⟩, ?_, fun x c e => ?_, ?_, fun x c e => ?_, fun p hp => ?_, hok, I.len⟩
  · exact keep b o (neL b o e) hb (neC b o e hx) (I.base.keep b o e n hb hx) (I.base.free b o e n hx)
  · obtain ⟨sl, e1⟩ := I.base.slot b o e n hb hx
    obtain ⟨sl', e2⟩ := slot b _ (neL b o e) hb (neC b o e hx) e1 (I.base.free b o e n hx)
    exact ⟨sl', e2⟩
  · obtain ⟨o', e1⟩ := I.base.there b o e hx
    exact free b o' (neC b o e hx) e1 (I.base.free b o e n hx)
  · obtain ⟨o', e1⟩ := I.base.there b o e hx
    exact there b o' (neC b o e hx) e1
  · obtain ⟨m1, e1⟩ := I.base.tbls b ps e
    obtain ⟨m2, e2⟩ := tbls b _ e1
    exact ⟨m1 ++ m2, by rw [e2, Array.append_assoc]⟩
  · obtain ⟨m, hn, hl⟩ := I.loc
    refine ⟨m, ns m hn, fun i x v e1 e2 e3 => ?_⟩
    obtain ⟨u, r, l⟩ := hl i x v e1 e2 e3
    refine ⟨u, r, ?_⟩
    rcases l with l | ⟨k, c, e, z⟩
    · exact .inl l
    · exact .inr ⟨k, c, e, cellK x c e _ z⟩
  · obtain ⟨v, z⟩ := I.cell x c e
    exact ⟨v, cellK x c e v z⟩
  · obtain ⟨m, ⟨o, _, _, ho, _⟩, _⟩ := I.loc
    exact free _ o (fun z => (hch _ z).2.1 rfl) ho I.free
  · obtain ⟨v, o, ho, hd⟩ := I.cell x c e
    exact free c o (fun z => (hch c z).2.2.1 x c e rfl) ho (I.freeC x c e)
  · obtain ⟨e, n, ne, nf, d⟩ := I.pin p hp
    have nch : p.1 ∉ ch := fun z => (hch p.1 z).2.2.2 p hp rfl
    exact ⟨keep p.1 p.2 ne nf nch e n, free p.1 p.2 nch e n, ne, nf, d⟩
theorem Inv.un {t' : Nat} (I : Inv X pins σ H s) (u : Un X.fs [] H H' s.heap h') (hok : HOk X.prog X.w H' h') : Inv X pins σ H' { s with heap := h', toks := t' } := by
  obtain ⟨m, ⟨o, es, ep, ho, r⟩, _⟩ := id I.loc
  obtain ⟨sl, hL⟩ := u.any ho I.free (by simp)
  exact I.step (g' := s.gens) (d' := s.drawn) (ch := []) (fun _ z => nomatch z) (fun b o _ hb _ e n => u.keep b o e n hb (by simp)) (fun b o _ hb _ e n => u.slot b o e n hb (by simp)) (fun b o _ e n => u.free b o e n (by simp)) (fun b o _ e => u.there b o e (by simp)) u.tups u.frzs u.tbls (fun m' hm => by
    obtain ⟨o', es', ep', ho', r'⟩ := hm
    rw [ho] at ho'; cases ho'
    exact ⟨_, es', ep', hL, r'⟩) hok I.bare
theorem Inv.call {g' : Array GenState} {t' : Nat} {d' : Drawn} {ch : List Addr} (I : Inv X pins σ H s) (u : Un (frs X.stack) ch H H' s.heap h') (hok : HOk X.prog X.w H' h') (hg : AllBare g')
    (hch : ∀ b ∈ ch, (b ∈ X.ex ∨ X.s₀.heap.objs.size ≤ b) ∧ b ≠ X.env.locals ∧ (∀ x c, X.env.cells.lookup x = some c → c ≠ b) ∧ ∀ p ∈ X.pn ++ pins, p.1 ≠ b) :
    Inv X pins σ H' { s with heap := h', gens := g', drawn := d', toks := t' } := by
  obtain ⟨m, ⟨o, es, ep, ho, r⟩, _⟩ := id I.loc
  obtain ⟨sl, hL⟩ := u.any ho I.free fun z => (hch _ z).2.1 rfl
  exact I.step (ch := ch) hch (fun b o hL hb hc e n => u.keep b o e n (fun z => (List.mem_cons.mp (I.stkSub b z)).elim hL hb) hc) (fun b o _ _ hc e n => u.any e n hc) (fun b o hc e n => u.free b o e n hc) (fun b o hc e => u.there b o e hc) u.tups u.frzs u.tbls (fun m' hm => by
    obtain ⟨o', es', ep', ho', r'⟩ := hm
    rw [ho] at ho'; cases ho'
    exact ⟨_, es', ep', hL, r'⟩) hok hg
theorem Inv.turned {t' : Nat} {it : Addr} (I : Inv X pins σ H s) (k : ∀ b o, b ≠ it → s.heap.get? b = some o → h'.get? b = some o) (hn : H it = none) (hL : it ≠ X.env.locals)
    (h1 : it ∈ X.ex ∨ X.s₀.heap.objs.size ≤ it) (h2 : ∀ x c, X.env.cells.lookup x = some c → c ≠ it) (h3 : ∀ p ∈ X.pn ++ pins, p.1 ≠ it) : Inv X pins σ H { s with heap := h', toks := t' } := by
  have nit : ∀ b u, H b = some u → b ≠ it := fun b u e z => by rw [z, hn] at e; cases e
  refine I.step (g' := s.gens) (d' := s.drawn) (ch := [it]) (fun b hb => ?_) (fun b o _ _ hc e _ => k b o (fun z => hc (by simp [z])) e) (fun b o _ _ hc e _ => ⟨o.slots, k b o (fun z => hc (by simp [z])) e⟩) (fun _ _ _ _ n => n)
    (fun b o hc e => ⟨o, k b o (fun z => hc (by simp [z])) e⟩) (fun _ _ e => e) (fun _ _ _ e => e) (fun b ps e => ⟨#[], by rw [e]; simp⟩) (fun m hm => ?_) (fun b u e => ?_) I.bare
  · have e : b = it := by simpa using hb
    subst e
    exact ⟨h1, hL, h2, h3⟩
  · obtain ⟨o, es, ep, ho, r⟩ := hm
    exact ⟨o, es, ep, k _ o (Ne.symm hL) ho, r⟩
  · refine (I.hok b u e).stay (fun c v hc q => k c v ?_ q) (fun _ q => q) fun _ _ q => q
    rcases hc with z | z
    · rw [z]; exact nit b u e
    · exact nit c _ z
theorem Inv.tok (I : Inv X pins σ H s) (t : Nat) : Inv X pins σ H { s with toks := t } := I.un (h' := s.heap) (t' := t) Un.refl I.hok
theorem Inv.kept {t' : Nat} (I : Inv X pins σ H s) (k : ∀ b u, s.heap.get? b = some u → h'.get? b = some u) : Inv X pins σ H { s with heap := h', toks := t' } := I.un (Un.kept k) (I.hok.kept k)
theorem Inv.laid {a : Addr} {o : HO} {t' : Nat} (I : Inv X pins σ H s) (k : ∀ b u, s.heap.get? b = some u → h'.get? b = some u) (hp : s.heap.objs.size ≤ a) (new : ObjOk X.prog X.w (upd H a o) h' a o) :
    Inv X pins σ (upd H a o) { s with heap := h', toks := t' } := I.un (Un.laid k hp (I.hok.fresh hp)) (I.hok.laid k hp new)
theorem Inv.write {x e : Addr} {o : HO} {t' : Nat} (I : Inv X pins σ H s) (mu : Mut (H x)) (he : e = x ∨ H e = some (.own x)) (k : ∀ b u, b ≠ e → s.heap.get? b = some u → h'.get? b = some u) (heo : ∃ u, h'.get? e = some u)
    (new : ObjOk X.prog X.w (upd H x o) h' x o) : Inv X pins σ (upd H x o) { s with heap := h', toks := t' } := I.un (Un.write mu he k heo) (I.hok.write mu he k heo new)
theorem Inv.weak {σ' : List (Option V)} (I : Inv X pins σ H s) (hl : σ'.length = σ.length) (w : ∀ (i : Nat) v, σ'[i]? = some (some v) → σ[i]? = some (some v)) : Inv X pins σ' H s :=
  ⟨I.ok, I.os, I.bare, I.base, let ⟨m, hn, hl'⟩ := I.loc; ⟨m, hn, fun i x v e1 e2 e3 => hl' i x v e1 (w i v e2) e3⟩, I.cell, I.free, I.freeC, I.pin, I.hok, hl.trans I.len⟩
theorem Inv.pins_of {pins' : List (Addr × Obj)} (I : Inv X pins σ H s) (h : ∀ p ∈ pins', s.heap.get? p.1 = some p.2 ∧ H p.1 = none ∧ p.1 ≠ X.env.locals ∧ p.1 ∉ X.fs ∧ ∀ v, p.2.data ≠ .cell v) : Inv X pins' σ H s :=
  ⟨I.ok, I.os, I.bare, I.base, I.loc, I.cell, I.free, I.freeC, fun p hp => (List.mem_append.mp hp).elim (fun z => I.pin p (List.mem_append_left _ z)) (h p), I.hok, I.len⟩
theorem nodup_ix {N : List Str} (hN : N.Nodup) {i j : Nat} {x : Str} (a : N[i]? = some x) (b : N[j]? = some x) : i = j := by
  obtain ⟨h1, e1⟩ := List.getElem?_eq_some_iff.mp a
  obtain ⟨h2, e2⟩ := List.getElem?_eq_some_iff.mp b
  exact (List.getElem_inj hN).mp (e1.trans e2.symm)
theorem store_ok2 {M : Model} {A : Around} {E : Value → Shared → Prop} {i : Nat} {x : Str} {v : V} {u : Value} {Q : Unit → Shared → Prop} (I : Inv X pins σ H s) (hN : X.N.Nodup) (hi : X.N[i]? = some x) (hx : Loc X.env.scope x) (r : RelV v u)
    (h : ∀ s', Inv X pins (σ.set i (some v)) H s' → (∃ a, Heap.SameBut a s.heap s'.heap ∧ (a = X.env.locals ∨ X.env.cells.lookup x = some a)) → Q () s') (hf : X.fn x = true ∨ X.env.scope.names.lookup x = some .local := by first | exact .inl rfl | exact .inr rfl | assumption) : wpAny M A (storeName X.env x u) Q E s := by
  obtain ⟨m, hn, hl⟩ := id I.loc
  have hcls : (X.env.scope.kind == .class || (X.env.scope.kind == .module && X.env.locals != X.env.globals)) = false := by rw [I.ok.kind]; rfl
  have hiσ : i < σ.length := by rw [I.len]; exact (List.getElem?_eq_some_iff.mp hi).1
  have cne := I.cne
  have tracked : ∀ {a : Addr} {h' : Heap}, (∃ o, s.heap.get? a = some o ∧ H a = none) → Heap.SameBut a s.heap h' → HOk X.prog X.w H h' := fun {a h'} ha hs b ob e => by
    obtain ⟨_, _, hfree⟩ := ha
    refine (I.hok b ob e).stay (fun c w' hc q => (hs.2 c ?_).trans q) (fun _ q => q) fun _ _ q => q
    rintro rfl
    rcases hc with rfl | hc
    · rw [hfree] at e; cases e
    · rw [hfree] at hc; cases hc
  rcases hx with hk | hk
  · refine wpAny_storeName_local hk hn (fun h' hn' hs => ?_) hcls
    obtain ⟨oL, _, _, hoL, _⟩ := id hn
    refine h _ ⟨I.ok, I.os, I.bare, ⟨fun b o e n hb hx => ?_, fun b o e n hb hx => ?_, I.base.free, fun b o e hx => ?_, I.base.tups, I.base.frzs, I.base.tbls⟩, ⟨_, hn', fun j y v' e1 e2 e3 => ?_⟩, fun y c e => ?_, I.free, I.freeC, fun p hp => ?_, tracked ⟨oL, hoL, I.free⟩ hs, by simpa using I.len⟩ ⟨_, hs, .inl rfl⟩
    · exact (hs.2 b (Nat.ne_of_lt (Nat.lt_of_lt_of_le (Heap.lt_size e) I.ok.above))).trans (I.base.keep b o e n hb hx)
    · obtain ⟨sl, e1⟩ := I.base.slot b o e n hb hx
      exact ⟨sl, (hs.2 b (Nat.ne_of_lt (Nat.lt_of_lt_of_le (Heap.lt_size e) I.ok.above))).trans e1⟩
    · obtain ⟨o', e1⟩ := I.base.there b o e hx
      exact ⟨o', (hs.2 b (Nat.ne_of_lt (Nat.lt_of_lt_of_le (Heap.lt_size e) I.ok.above))).trans e1⟩
    · by_cases hj : j = i
      · subst hj
        rw [hi] at e1; cases e1
        rw [List.getElem?_set_self hiσ] at e2
        cases e2
        exact ⟨u, r, .inl ⟨hk, by simp⟩⟩
      · rw [List.getElem?_set_ne (Ne.symm hj)] at e2
        obtain ⟨u', r', q⟩ := hl j y v' e1 e2 e3
        refine ⟨u', r', ?_⟩
        rcases q with ⟨k, e⟩ | ⟨k, c, e, z⟩
        · refine .inl ⟨k, ?_⟩
          have : y ≠ x := fun e => hj (nodup_ix hN e1 (e ▸ hi))
          simp [this, e]
        · exact .inr ⟨k, c, e, z.sameBut hs (cne y c e)⟩
    · obtain ⟨w', z⟩ := I.cell y c e
      exact ⟨w', z.sameBut hs (cne y c e)⟩
    · obtain ⟨e, n, ne, nf, d⟩ := I.pin p hp
      exact ⟨(hs.2 p.1 ne).trans e, n, ne, nf, d⟩
  · have hfn : X.fn x = true := by
      rcases hf with z | z
      · exact z
      · rw [z] at hk; cases hk
    obtain ⟨c, hc⟩ := I.ok.has x (.inl hk)
    obtain ⟨w', z⟩ := I.cell x c hc
    refine wpAny_storeName_cell I.ok.kind hk hc z (fun h' hc' hs => ?_)
    obtain ⟨oc, hoc, hocd⟩ := id z
    refine h { s with heap := h' } ⟨I.ok, I.os, I.bare, ⟨fun b o e n hb hx => ?_, fun b o e n hb hx => ?_, I.base.free, fun b o e hx => ?_, I.base.tups, I.base.frzs, I.base.tbls⟩, ⟨m, hn.sameBut hs (Ne.symm (cne x c hc)), fun j y v' e1 e2 e3 => ?_⟩, fun y c' e => ?_, I.free, I.freeC, fun p hp => ?_, tracked ⟨oc, hoc, I.freeC x c hc⟩ hs, by simpa using I.len⟩ ⟨c, hs, .inr hc⟩
    · exact (hs.2 b (Nat.ne_of_lt (Nat.lt_of_lt_of_le (Heap.lt_size e) (I.ok.cab x c hfn hc)))).trans (I.base.keep b o e n hb hx)
    · obtain ⟨sl, e1⟩ := I.base.slot b o e n hb hx
      exact ⟨sl, (hs.2 b (Nat.ne_of_lt (Nat.lt_of_lt_of_le (Heap.lt_size e) (I.ok.cab x c hfn hc)))).trans e1⟩
    · obtain ⟨o', e1⟩ := I.base.there b o e hx
      exact ⟨o', (hs.2 b (Nat.ne_of_lt (Nat.lt_of_lt_of_le (Heap.lt_size e) (I.ok.cab x c hfn hc)))).trans e1⟩
    · by_cases hj : j = i
      · subst hj
        rw [hi] at e1; cases e1
        rw [List.getElem?_set_self hiσ] at e2
        cases e2
        exact ⟨u, r, .inr ⟨.inl hk, c, hc, hc'⟩⟩
      · rw [List.getElem?_set_ne (Ne.symm hj)] at e2
        obtain ⟨u', r', q⟩ := hl j y v' e1 e2 e3
        refine ⟨u', r', ?_⟩
        rcases q with q | ⟨k, c', e, z'⟩
        · exact .inl q
        · refine .inr ⟨k, c', e, z'.sameBut hs ?_⟩
          rintro rfl
          exact hj (nodup_ix hN e1 (I.ok.inj _ _ _ e hc ▸ hi))
    · by_cases hcc : c' = c
      · subst hcc; exact ⟨_, hc'⟩
      · obtain ⟨w2, z2⟩ := I.cell y c' e
        exact ⟨w2, z2.sameBut hs hcc⟩
    · obtain ⟨e, n, ne, nf, d⟩ := I.pin p hp
      refine ⟨(hs.2 p.1 ?_).trans e, n, ne, nf, d⟩
      intro q
      rw [q, hoc] at e
      have q' : oc = p.2 := Option.some.inj e
      exact d w' (by rw [← q']; exact hocd)
theorem store_ok {M : Model} {A : Around} {E : Value → Shared → Prop} {i : Nat} {x : Str} {v : V} {u : Value} {Q : Unit → Shared → Prop} (I : Inv X pins σ H s) (hN : X.N.Nodup) (hi : X.N[i]? = some x) (hx : Loc X.env.scope x) (r : RelV v u)
    (h : ∀ s', Inv X pins (σ.set i (some v)) H s' → Q () s') (hf : X.fn x = true ∨ X.env.scope.names.lookup x = some .local := by first | exact .inl rfl | exact .inr rfl | assumption) : wpAny M A (storeName X.env x u) Q E s :=
  store_ok2 I hN hi hx r (fun s' I' _ => h s' I') hf
theorem Inv.call' {s' : Shared} {ch : List Addr} (I : Inv X pins σ H s) (ho : s'.os = s.os) (u : Un (frs X.stack) ch H H' s.heap s'.heap) (hok : HOk X.prog X.w H' s'.heap) (hg : AllBare s'.gens)
    (hch : ∀ b ∈ ch, (b ∈ X.ex ∨ X.s₀.heap.objs.size ≤ b) ∧ b ≠ X.env.locals ∧ (∀ x c, X.env.cells.lookup x = some c → c ≠ b) ∧ ∀ p ∈ X.pn ++ pins, p.1 ≠ b) : Inv X pins σ H' s' := by
  obtain ⟨h', g', d', t', o'⟩ := s'
  have e : o' = s.os := ho
  subst e
  exact I.call (g' := g') (t' := t') (d' := d') u hok hg hch
end
abbrev XK := Value → Option Addr → Hp → Prop
abbrev St := List (Option V)
abbrev VK := V → Hp → Prop
abbrev TE := St → Hp → VK → Prop
abbrev TT := St → Hp → (Bool → Hp → Prop) → Prop
abbrev TA := St → Hp → (List V → Hp → Prop) → Prop
structure Ends where
  nx : St → Hp → Prop
  rt : VK
  bk : St → Hp → Prop := fun _ _ => False
  ct : St → Hp → Prop := fun _ _ => False
abbrev TS := Ends → St → Hp → Prop
def EP (X : Cx) (pins : List (Addr × Obj)) (σ : St) (Q : VK) (u : Value) (s' : Shared) : Prop := ∃ v H', Inv X pins σ H' s' ∧ RelV v u ∧ Q v H'
def TP (X : Cx) (pins : List (Addr × Obj)) (σ : St) (Q : Bool → Hp → Prop) (b : Bool) (s' : Shared) : Prop := ∃ H', Inv X pins σ H' s' ∧ Q b H'
def AP (X : Cx) (pins : List (Addr × Obj)) (σ : St) (Q : List V → Hp → Prop) (us : List Value) (s' : Shared) : Prop := ∃ vs H', Inv X pins σ H' s' ∧ Vals vs us ∧ Q vs H'
def SP (X : Cx) (pins : List (Addr × Obj)) (D : Ends) (f : Flow) (s' : Shared) : Prop :=
  match f with
  | .next => ∃ σ' H', Inv X pins σ' H' s' ∧ D.nx σ' H'
  | .brk => ∃ σ' H', Inv X pins σ' H' s' ∧ D.bk σ' H'
  | .cont => ∃ σ' H', Inv X pins σ' H' s' ∧ D.ct σ' H'
  | .ret u => ∃ v σ' H', Inv X pins σ' H' s' ∧ RelV v u ∧ D.rt v H'
def PE (X : Cx) (e : Expr) (t : TE) : Prop :=
  ∀ (pins : List (Addr × Obj)) (s : Shared) (σ : St) (H : Hp) (Q : VK), Inv X pins σ H s → t σ H Q → wpAny (model X.prog X.w) X.A (eval e X.env) (EP X pins σ Q) X.xe s
def PT (X : Cx) (e : Expr) (t : TT) : Prop :=
  ∀ (pins : List (Addr × Obj)) (s : Shared) (σ : St) (H : Hp) (Q : Bool → Hp → Prop), Inv X pins σ H s → t σ H Q → wpAny (model X.prog X.w) X.A (isTrue e X.env (eval e X.env)) (TP X pins σ Q) X.xe s
def PW (X : Cx) (e : Expr) (t : TT) : Prop :=
  ∀ (whole : Sem Value) (pins : List (Addr × Obj)) (s : Shared) (σ : St) (H : Hp) (Q : Bool → Hp → Prop), Inv X pins σ H s → t σ H Q → wpAny (model X.prog X.w) X.A (isTrue e X.env whole) (TP X pins σ Q) X.xe s
theorem PW.pt {X : Cx} {e : Expr} {t : TT} (h : PW X e t) : PT X e t := h _
def PA (X : Cx) (es : List Expr) (t : TA) : Prop :=
  ∀ (pos : Pos) (pins : List (Addr × Obj)) (s : Shared) (σ : St) (H : Hp) (Q : List V → Hp → Prop), Inv X pins σ H s → t σ H Q → wpAny (model X.prog X.w) X.A (spliced (backTo pos (starEach es X.env))) (AP X pins σ Q) X.xe s
def PS (X : Cx) (st : Stmt) (t : TS) : Prop :=
  ∀ (pins : List (Addr × Obj)) (s : Shared) (σ : St) (H : Hp) (D : Ends), Inv X pins σ H s → t D σ H → wpAny (model X.prog X.w) X.A (exec st X.env) (SP X pins D) X.xe s
def PSs (X : Cx) (st : List Stmt) (t : TS) : Prop :=
  ∀ (pins : List (Addr × Obj)) (s : Shared) (σ : St) (H : Hp) (D : Ends), Inv X pins σ H s → t D σ H → wpAny (model X.prog X.w) X.A (execs st X.env) (SP X pins D) X.xe s
theorem thn {α : Type} {t : Sem α} {Q Q' : α → Shared → Prop} {M : Model} {A : Around} {E : Value → Shared → Prop} {s : Shared} (h : wpAny M A t Q E s) (hQ : ∀ a s, Q a s → Q' a s) : wpAny M A t Q' E s := wpAny_mono h hQ fun _ _ x => x
end L2
namespace L2
open PySem PySem.Spec PyProof.Rows
section
variable {X : Cx}
def tVar (i : Nat) : TE := fun σ H Q => ∃ v, σ[i]? = some (some v) ∧ Q v H
def tC (v : V) : TE := fun _ H Q => Q v H
theorem pe_var {i : Nat} {x : Str} {pos : Pos} (hN : X.N[i]? = some x) (hv : Vis X.env.scope x) (hd : (x == ("__debug__" : Str)) = false := by decide) (hcd : (x == ("__classdict__" : Str)) = false := by decide) : PE X (.Name x pos) (tVar i) := by
  intro pins s σ H Q I h
  obtain ⟨v, e, h⟩ := h
  obtain ⟨m, hn, hl⟩ := I.loc
  obtain ⟨u, r, l⟩ := hl i x v hN e hv
  have fin : EP X pins σ Q u s := ⟨v, H, I, r, h⟩
  rcases l with ⟨hk, hm⟩ | ⟨hk, c, hc, hcell⟩
  · exact wpAny_Name (wpAny_loadName_local I.ok.kind hk hn hm fin) hd
  · rcases hk with hk | hk
    · exact wpAny_Name (wpAny_loadName_cell I.ok.kind hk hc hcell fin) hd
    · exact wpAny_Name (wpAny_loadName_free I.ok.kind hk hc hcell fin hcd) hd
theorem pe_int {i j pos} : PE X (.Constant (.int i) j pos) (tC (.int i)) := fun _ _ _ H _ I h => wpAny_Constant_int ⟨.int i, H, I.tok _, ⟨_, rfl⟩, h⟩
theorem pe_bl {b j pos} : PE X (.Constant (.bool b) j pos) (tC (.bl b)) := fun _ _ _ H _ I h => Constant_bool ⟨.bl b, H, I, rfl, h⟩
def Gl (X : Cx) (x : Str) : Prop := X.env.kindOf x = some .globalImplicit
theorem ld_glob {E : Value → Shared → Prop} {pins : List (Addr × Obj)} {s : Shared} {σ : St} {H : Hp} {x : Str} {u : Value} {pos : Pos} {Q : Value → Shared → Prop} (I : Inv X pins σ H s) (hg : Gl X x) (hm : X.mg x = some u) (h : Q u s)
    (hd : (x == ("__debug__" : Str)) = false := by decide) : wpAny (model X.prog X.w) X.A (eval (.Name x pos) X.env) Q E s :=
  Calls.Name_function_global I.ok.kind hg (Calls.loadGlobal_global (by rw [I.ok.glob]; exact I.mod.glob.keeps I.bk) hm h) hd
theorem ld_blt {E : Value → Shared → Prop} {pins : List (Addr × Obj)} {s : Shared} {σ : St} {H : Hp} {x : Str} {u : Value} {pos : Pos} {Q : Value → Shared → Prop} (I : Inv X pins σ H s) (hg : Gl X x) (hm : X.mg x = none) (hv : bootBuiltins x = some u) (h : Q u s)
    (hn : x ≠ "__name__" := by decide) (hd : (x == ("__debug__" : Str)) = false := by decide) : wpAny (model X.prog X.w) X.A (eval (.Name x pos) X.env) Q E s := by
  obtain ⟨mb, h1, h2⟩ := I.mod.blt
  exact Calls.Name_function_global I.ok.kind hg (Calls.loadGlobal_builtin (by rw [I.ok.glob]; exact I.mod.glob.keeps I.bk) hm (by rw [I.ok.blt]; exact h1.keeps I.bk) ((h2 x hn).trans hv) h) hd
theorem pe_bltn {x : Str} {v : V} {u : Value} {pos : Pos} (hg : Gl X x) (hm : X.mg x = none) (hv : bootBuiltins x = some u) (r : RelV v u) (hn : x ≠ "__name__" := by decide) (hd : (x == ("__debug__" : Str)) = false := by decide) : PE X (.Name x pos) (tC v) :=
  fun _ _ _ H _ I h => ld_blt I hg hm hv ⟨v, H, I, r, h⟩ hn hd
variable {a b : Expr} {ta tb : TE} {pos : Pos}
def tB (t : TE) : TT := fun σ H Q => t σ H fun x H1 => ∃ c, x = .bl c ∧ Q c H1
theorem pt_val {e : Expr} {t : TE} (h : PE X e t) (he : ∀ whole, isTrue e X.env whole = (do let v ← whole; standAt e.pos; holding [v] (truthy v)) := by intro _; rfl) : PT X e (tB t) := by
  intro pins s σ H Q I hw
  refine isTrue_plain (thn (h pins s σ H _ I hw) fun v s1 ⟨x, H1, I1, r1, q1⟩ => ?_) (he _)
  obtain ⟨d, rfl, q⟩ := q1
  cases r1
  exact wpAny_truthy_bool ⟨H1, I1, q⟩
variable {tA tB' : TT} {rest : List Expr}
def tAnd (t u : TT) : TT := fun σ H Q => t σ H fun c H1 => if c = true then u σ H1 Q else Q false H1
def tOr (t u : TT) : TT := fun σ H Q => t σ H fun c H1 => if c = true then Q true H1 else u σ H1 Q
def tNot (t : TT) : TT := fun σ H Q => t σ H fun c H1 => Q (!c) H1
theorem pw_and1 (ha : PT X a tA) : PW X (.BoolOp .And [a] pos) tA := by
  intro wh pins s σ H Q I h
  refine isTrue_and (thn (ha pins s σ H Q I h) fun c s1 e => ?_)
  cases c with
  | true => exact isTrue_and_nil e
  | false => exact e
theorem pw_or1 (ha : PT X a tA) : PW X (.BoolOp .Or [a] pos) tA := by
  intro wh pins s σ H Q I h
  refine isTrue_or (thn (ha pins s σ H Q I h) fun c s1 e => ?_)
  cases c with
  | false => exact isTrue_or_nil e
  | true => exact e
theorem pw_and (ha : PT X a tA) (hb : PW X (.BoolOp .And (b :: rest) pos) tB') : PW X (.BoolOp .And (a :: b :: rest) pos) (tAnd tA tB') := by
  intro wh pins s σ H Q I h
  refine isTrue_and (thn (ha pins s σ H _ I h) fun c s1 ⟨H1, I1, q1⟩ => ?_)
  cases c with
  | true => exact hb wh pins s1 σ H1 Q I1 q1
  | false => exact ⟨H1, I1, q1⟩
theorem pw_or (ha : PT X a tA) (hb : PW X (.BoolOp .Or (b :: rest) pos) tB') : PW X (.BoolOp .Or (a :: b :: rest) pos) (tOr tA tB') := by
  intro wh pins s σ H Q I h
  refine isTrue_or (thn (ha pins s σ H _ I h) fun c s1 ⟨H1, I1, q1⟩ => ?_)
  cases c with
  | true => exact ⟨H1, I1, q1⟩
  | false => exact hb wh pins s1 σ H1 Q I1 q1
theorem pt_not (ha : PT X a tA) : PT X (.UnaryOp .Not a pos) (tNot tA) := by
  intro pins s σ H Q I h
  exact isTrue_not (ha pins s σ H (fun c H1 => Q (!c) H1) I h)
def tAndV (ta tb : TE) : TE := fun σ H Q => ta σ H fun x H1 => ∃ c, x = .bl c ∧ if c = true then tb σ H1 Q else Q (.bl false) H1
def tOrV (ta tb : TE) : TE := fun σ H Q => ta σ H fun x H1 => ∃ c, x = .bl c ∧ if c = true then Q (.bl true) H1 else tb σ H1 Q
def tNotV (ta : TE) : TE := fun σ H Q => ta σ H fun x H1 => ∃ c, x = .bl c ∧ Q (.bl (!c)) H1
theorem pe_one {op} {t : TE} (h : PE X a t) : PE X (.BoolOp op [a] pos) t := fun pins s σ H Q I hw => BoolOp_one (h pins s σ H Q I hw)
theorem pe_and (ha : PE X a ta) (hb : PE X (.BoolOp .And (b :: rest) pos) tb) : PE X (.BoolOp .And (a :: b :: rest) pos) (tAndV ta tb) := by
  intro pins s σ H Q I h
  refine BoolOp_and (thn (ha pins s σ H _ I h) fun v s1 ⟨x, H1, I1, r1, q1⟩ => ?_)
  obtain ⟨c, rfl, q1⟩ := q1
  cases r1
  refine wpAny_truthy_bool ?_
  cases c with
  | true => exact hb pins s1 σ H1 Q I1 q1
  | false => exact ⟨.bl false, H1, I1, rfl, q1⟩
theorem pe_or (ha : PE X a ta) (hb : PE X (.BoolOp .Or (b :: rest) pos) tb) : PE X (.BoolOp .Or (a :: b :: rest) pos) (tOrV ta tb) := by
  intro pins s σ H Q I h
  refine BoolOp_or (thn (ha pins s σ H _ I h) fun v s1 ⟨x, H1, I1, r1, q1⟩ => ?_)
  obtain ⟨c, rfl, q1⟩ := q1
  cases r1
  refine wpAny_truthy_bool ?_
  cases c with
  | false => exact hb pins s1 σ H1 Q I1 q1
  | true => exact ⟨.bl true, H1, I1, rfl, q1⟩
theorem pe_not (ha : PE X a ta) : PE X (.UnaryOp .Not a pos) (tNotV ta) := by
  intro pins s σ H Q I h
  refine UnaryOp_ (thn (ha pins s σ H _ I h) fun v s1 ⟨x, H1, I1, r1, q1⟩ => ?_)
  obtain ⟨c, rfl, q1⟩ := q1
  cases r1
  exact not_of (wpAny_truthy_bool ⟨.bl (!c), H1, I1, rfl, q1⟩)
def tIf (t : TT) (ta tb : TE) : TE := fun σ H Q => t σ H fun c H1 => if c = true then ta σ H1 Q else tb σ H1 Q
theorem pe_ifExp {c : Expr} (hc : PT X c tA) (ha : PE X a ta) (hb : PE X b tb) : PE X (.IfExp c a b pos) (tIf tA ta tb) := by
  intro pins s σ H Q I h
  refine wpAny_IfExp (thn (hc pins s σ H _ I h) fun d s1 ⟨H1, I1, q1⟩ => ?_)
  cases d with
  | true => exact ha pins s1 σ H1 Q I1 q1
  | false => exact hb pins s1 σ H1 Q I1 q1
end
end L2
namespace L2
open PySem PySem.Spec PyProof.Rows
def SqL (K : PySem.W.Frag) (H : Hp) (a : Addr) (xs : List V) : Prop :=
  Rd H a (.lst xs) ∨
    ∃ (o : Obj) (its : Array Value) (n : Nat), K.lookup a = some o ∧ o.cls = .type "list" ∧ o.dict = none ∧ o.data = .seq its n ∧ its.size ≤ sizeLine ∧ Vals xs its.toList
def SqT (K : PySem.W.Frag) (H : Hp) (a : Addr) (xs : List V) : Prop :=
  Rd H a (.tup xs) ∨
    ∃ (o : Obj) (its : Array Value) (n : Nat), K.lookup a = some o ∧ o.cls = .type "tuple" ∧ o.data = .seq its n ∧ its.size ≤ sizeLine ∧ Vals xs its.toList
def absV : Value → Option V
  | .none => some .non
  | .bool b => some (.bl b)
  | .int i _ => some (.int i)
  | .str x _ => some (.str x)
  | .bytes b _ => some (.byt b)
  | .float b _ => some (.flt b)
  | .ref a => some (.ref a)
  | .type n => some (.ty n)
  | _ => none
theorem RelV.abs {x : V} {u : Value} (r : RelV x u) : absV u = some x := by
  cases x with
  | non => cases r; rfl
  | bl _ => cases r; rfl
  | int _ => obtain ⟨t, rfl⟩ := r; rfl
  | str _ => obtain ⟨t, rfl⟩ := r; rfl
  | byt _ => obtain ⟨t, rfl⟩ := r; rfl
  | flt _ => obtain ⟨t, rfl⟩ := r; rfl
  | ref _ => cases r; rfl
  | ty _ => cases r; rfl
theorem RelV.inj {x y : V} {u : Value} (r : RelV x u) (q : RelV y u) : x = y := Option.some.inj (r.abs.symm.trans q.abs)
theorem Vals.inj : ∀ {xs ys : List V} {us : List Value}, Vals xs us → Vals ys us → xs = ys
  | _, _, _, .nil, .nil => rfl
  | _, _, _, .cons r t, .cons r' t' => by rw [r.inj r', Vals.inj t t']
section
variable {X : Cx} {pins : List (Addr × Obj)} {σ : St} {H : Hp} {s : Shared} {a : Addr} {xs ys : List V}
theorem SqL.of {K : PySem.W.Frag} (h : H a = some (.lst xs)) : SqL K H a xs := .inl (.inl h)
theorem SqT.of {K : PySem.W.Frag} (h : H a = some (.tup xs)) : SqT K H a xs := .inl (.inl h)
theorem Inv.list (I : Inv X pins σ H s) (h : SqL X.K H a xs) : ∃ its : List Value, Vals xs its ∧ PlainL s.heap a its.toArray ∧ xs.length ≤ sizeLine := by
  rcases h with h | ⟨o, its, n, hk, hc, hd, hs, hz, r⟩
  · obtain ⟨z, its, n, r, e⟩ := h.ok I.hok
    exact ⟨its, r, ⟨_, n, e, rfl, rfl, rfl⟩, z⟩
  · refine ⟨its.toList, r, ⟨o, n, I.kIn a o hk, hc, hd, by simpa using hs⟩, ?_⟩
    have e := r.length
    simp only [Array.length_toList] at e
    omega
theorem Inv.tuple (I : Inv X pins σ H s) (h : SqT X.K H a xs) : ∃ its : List Value, Vals xs its ∧ IsTup s.heap a its.toArray ∧ xs.length ≤ sizeLine := by
  rcases h with h | ⟨o, its, n, hk, hc, hs, hz, r⟩
  · obtain ⟨z, its, r, p⟩ := h.ok I.hok
    exact ⟨its, r, p, z⟩
  · refine ⟨its.toList, r, ⟨o, I.kIn a o hk, hc, n, by simpa using hs⟩, ?_⟩
    have e := r.length
    simp only [Array.length_toList] at e
    omega
theorem Inv.list_inj (I : Inv X pins σ H s) (h : SqL X.K H a xs) (h' : SqL X.K H a ys) : xs = ys := by
  obtain ⟨its, r, ⟨o, n, e, _, _, d⟩, _⟩ := I.list h
  obtain ⟨its', r', ⟨o', n', e', _, _, d'⟩, _⟩ := I.list h'
  rw [e] at e'; cases e'
  rw [d] at d'
  injection d' with d1 _
  have : its = its' := by simpa using congrArg Array.toList d1
  subst this
  exact r.inj r'
end
abbrev Cx.wish (X : Cx) (E : Value → Shared → Prop) : Cx := { X with xe := E }
abbrev Cx.nox (X : Cx) : Cx := X.wish fun _ _ => False
theorem Cx.Ok.wish {X : Cx} (ok : X.Ok) (E : Value → Shared → Prop) : (X.wish E).Ok :=
  ⟨ok.mod, ok.kind, ok.glob, ok.blt, ok.above, ok.inj, ok.has, ok.cab, ok.hd, ok.frames, ok.stk, ok.exf, ok.bs, ok.bsz, ok.noex, ok.exfs, ok.funs, ok.frf⟩
theorem Cx.Ok.unwish {X : Cx} {E : Value → Shared → Prop} (ok : (X.wish E).Ok) : X.Ok :=
  ⟨ok.mod, ok.kind, ok.glob, ok.blt, ok.above, ok.inj, ok.has, ok.cab, ok.hd, ok.frames, ok.stk, ok.exf, ok.bs, ok.bsz, ok.noex, ok.exfs, ok.funs, ok.frf⟩
section
variable {X : Cx} {pins : List (Addr × Obj)} {σ : St} {H : Hp} {s : Shared} {E : Value → Shared → Prop}
theorem Inv.wish (I : Inv X pins σ H s) (E : Value → Shared → Prop) : Inv (X.wish E) pins σ H s := ⟨I.ok.wish E, I.os, I.bare, I.base, I.loc, I.cell, I.free, I.freeC, I.pin, I.hok, I.len⟩
theorem Inv.unwish (I : Inv (X.wish E) pins σ H s) : Inv X pins σ H s := ⟨I.ok.unwish, I.os, I.bare, I.base, I.loc, I.cell, I.free, I.freeC, I.pin, I.hok, I.len⟩
theorem SP.unwish {D : Ends} {f : Flow} {s' : Shared} (h : SP (X.wish E) pins D f s') : SP X pins D f s' := by
  cases f with
  | next => obtain ⟨σ', H', I, q⟩ := h; exact ⟨σ', H', I.unwish, q⟩
  | brk => obtain ⟨σ', H', I, q⟩ := h; exact ⟨σ', H', I.unwish, q⟩
  | cont => obtain ⟨σ', H', I, q⟩ := h; exact ⟨σ', H', I.unwish, q⟩
  | ret u => obtain ⟨v, σ', H', I, r, q⟩ := h; exact ⟨v, σ', H', I.unwish, r, q⟩
theorem PSs.nox {st : List Stmt} {t : TS} (h : PSs X.nox st t) : PSs X st t := fun pins s σ H D I hw =>
  wpAny_mono (h pins s σ H D (I.wish _) hw) (fun _ _ q => q.unwish) fun _ _ z => False.elim z
end
section
variable {X : Cx} {st : Stmt} {rest : List Stmt} {t u : TS} {e : Expr} {te : TE} {pos : Pos}
def tNext : TS := fun D σ H => D.nx σ H
def tSeq (t u : TS) : TS := fun D σ H => t { D with nx := u D } σ H
theorem pss_nil : PSs X [] tNext := fun _ _ σ H _ I h => wpAny_execs_nil ⟨σ, H, I, h⟩
theorem pss_cons (h1 : PS X st t) (h2 : PSs X rest u) : PSs X (st :: rest) (tSeq t u) := by
  intro pins s σ H D I h
  refine wpAny_execs_cons (thn (h1 pins s σ H { D with nx := u D } I h) fun f s1 q => ?_)
  cases f with
  | next =>
    obtain ⟨σ', H', I', q⟩ := q
    exact h2 pins s1 σ' H' D I' q
  | ret v => exact q
  | brk => exact q
  | cont => exact q
theorem pss_one (h1 : PS X st t) : PSs X [st] t := by
  intro pins s σ H D I h
  refine wpAny_execs_cons (thn (h1 pins s σ H D I h) fun f s1 q => ?_)
  cases f with
  | next => exact wpAny_execs_nil q
  | ret v => exact q
  | brk => exact q
  | cont => exact q
theorem Inv.quiet {pins : List (Addr × Obj)} {σ : St} {H : Hp} {s : Shared} (I : Inv X pins σ H s) : interactive X.env = false := by simp [interactive, I.ok.kind]
def tDrop (te : TE) : TS := fun D σ H => te σ H fun _ H1 => D.nx σ H1
theorem ps_expr (he : PE X e te) (hs : swapsWith e none pos.line X.env = pure false := by rfl) : PS X (.Expr e pos) (tDrop te) := by
  intro pins s σ H D I h
  exact wpAny_Expr_any (thn (he pins s σ H _ I h) fun v s1 ⟨x, H1, I1, r1, q1⟩ => ⟨σ, H1, I1, q1⟩) I.quiet hs
def tRet (te : TE) : TS := fun D σ H => te σ H D.rt
theorem ps_ret (he : PE X e te) : PS X (.Return (some e) pos) (tRet te) := by
  intro pins s σ H D I h
  exact wpAny_Return_some (thn (he pins s σ H _ I h) fun v s1 ⟨x, H1, I1, r1, q1⟩ => ⟨x, σ, H1, I1, r1, q1⟩)
def tRetN : TS := fun D _ H => D.rt .non H
theorem ps_retN : PS X (.Return none pos) tRetN := fun _ _ σ H _ I h => wpAny_Return_none ⟨.non, σ, H, I, rfl, h⟩
def tIfS (c : TT) (t u : TS) : TS := fun D σ H => c σ H fun b H1 => if b = true then t D σ H1 else u D σ H1
theorem ps_if {c : Expr} {a b : List Stmt} {tc : TT} (hc : PT X c tc) (ha : PSs X a t) (hb : PSs X b u) : PS X (.If c a b pos) (tIfS tc t u) := by
  intro pins s σ H D I h
  refine wpAny_If (thn (hc pins s σ H _ I h) fun d s1 ⟨H1, I1, q1⟩ => ?_)
  cases d with
  | true => exact ha pins s1 σ H1 D I1 q1
  | false => exact hb pins s1 σ H1 D I1 q1
def tNever : TS := fun _ _ _ => False
theorem ps_never : PS X st tNever := fun _ _ _ _ _ _ h => h.elim
end
abbrev TG := V → St → Hp → (St → Hp → Prop) → Prop
abbrev TGs := List V → St → Hp → (St → Hp → Prop) → Prop
def PG (X : Cx) (target : Expr) (t : TG) : Prop :=
  ∀ (pins : List (Addr × Obj)) (s : Shared) (σ : St) (H : Hp) (v : V) (u : Value) (Q : St → Hp → Prop), Inv X pins σ H s → RelV v u → t v σ H Q →
    wpAny (model X.prog X.w) X.A (assign target X.env u) (fun _ s' => ∃ σ' H', Inv X pins σ' H' s' ∧ Q σ' H') X.xe s
def PGs (X : Cx) (ts : List Expr) (t : TGs) : Prop :=
  ∀ (pins : List (Addr × Obj)) (s : Shared) (σ : St) (H : Hp) (vs : List V) (us : List Value) (Q : St → Hp → Prop), Inv X pins σ H s → Vals vs us → t vs σ H Q →
    wpAny (model X.prog X.w) X.A (assignInOrder ((assignEach ts X.env).map (·.2)) us) (fun _ s' => ∃ σ' H', Inv X pins σ' H' s' ∧ Q σ' H') X.xe s
abbrev TSet := V → V → V → Hp → (Hp → Prop) → Prop
def PSet (X : Cx) (t : TSet) : Prop :=
  ∀ (pins : List (Addr × Obj)) (s : Shared) (σ : St) (H : Hp) (o i v : V) (ov iv u : Value) (Q : Hp → Prop), Inv X pins σ H s → RelV o ov → RelV i iv → RelV v u → t o i v H Q →
    wpAny (model X.prog X.w) X.A (setItem ov iv u) (fun _ s' => ∃ H', Inv X pins σ H' s' ∧ Q H') X.xe s
abbrev TIp := V → V → Hp → VK → Prop
def PIp (X : Cx) (op : Operator) (t : TIp) : Prop :=
  ∀ (pins : List (Addr × Obj)) (s : Shared) (σ : St) (H : Hp) (x y : V) (v u : Value) (Q : VK), Inv X pins σ H s → RelV x v → RelV y u → t x y H Q →
    wpAny (model X.prog X.w) X.A (inplaceOp op v u) (EP X pins σ Q) X.xe s
section
variable {X : Cx} {pos : Pos}
def gName (i : Nat) : TG := fun v σ H Q => Q (σ.set i (some v)) H
theorem pg_name {i : Nat} {x : Str} (hN : X.N.Nodup) (hi : X.N[i]? = some x) (hx : Loc X.env.scope x) (hf : X.fn x = true ∨ X.env.scope.names.lookup x = some .local := by first | exact .inl rfl | exact .inr rfl | assumption) : PG X (.Name x pos) (gName i) := by
  intro pins s σ H v u Q I r h
  exact wpAny_assign_Name (store_ok I hN hi hx r (fun s' I' => ⟨_, H, I', h⟩) hf)
def gNil : TGs := fun vs σ H Q => vs = [] ∧ Q σ H
def gCons (t : TG) (u : TGs) : TGs := fun vs σ H Q => ∃ v r, vs = v :: r ∧ t v σ H fun σ' H' => u r σ' H' Q
theorem pgs_nil : PGs X [] gNil := by
  intro pins s σ H vs us Q I r h
  obtain ⟨e, h⟩ := h
  subst e
  cases r
  exact assignInOrder_nil ⟨σ, H, I, h⟩
theorem pgs_cons {e : Expr} {es : List Expr} {t : TG} {u : TGs} (h1 : PG X e t) (h2 : PGs X es u)
    (hs : (assignEach (e :: es) X.env).map (·.2) = assign e X.env :: (assignEach es X.env).map (·.2) := by rfl) : PGs X (e :: es) (gCons t u) := by
  intro pins s σ H vs us Q I r h
  obtain ⟨v, vr, e1, h⟩ := h
  subst e1
  cases r with
  | cons r rr =>
    rw [hs]
    refine assignInOrder_cons (thn (h1 pins s σ H _ _ _ I r h) fun _ s1 ⟨σ1, H1, I1, q1⟩ => ?_)
    exact h2 pins s1 σ1 H1 _ _ Q I1 rr q1
def gTup (K : PySem.W.Frag) (n : Nat) (t : TGs) : TG := fun v σ H Q => ∃ a xs, v = .ref a ∧ SqT K H a xs ∧ xs.length = n ∧ t xs σ H Q
theorem pg_tup {es : List Expr} {k : Nat} {t : TGs} {n : Nat} (hc : X.calm = true) (h : PGs X es t)
    (hn : (assignEach es X.env).length = n := by rfl) (hst : (assignEach es X.env).findIdx? (·.1) = none := by rfl) : PG X (.Tuple es k pos) (gTup X.K n t) := by
  intro pins s σ H v u Q I r hw
  obtain ⟨a, xs, e1, hq, hl, hw⟩ := hw
  subst e1
  cases r
  obtain ⟨its, rv, ht, hz⟩ := I.tuple hq
  refine assign_Tuple_tuple (I.ok.hd hc) ht (by simp [hn, ← hl, rv.length]) hst fun h' hx => ?_
  have I1 : Inv X pins σ H { s with heap := h' } := I.kept (t' := s.toks) fun b o e => hx b o (Nat.ne_of_lt (Heap.lt_size e)) e
  exact h pins _ σ H xs _ Q I1 (by simpa using rv) hw
def gSub (to ti : TE) (t : TSet) : TG := fun v σ H Q => to σ H fun o H1 => ti σ H1 fun i H2 => t o i v H2 fun H3 => Q σ H3
theorem pg_sub {o i : Expr} {to ti : TE} {t : TSet} (ho : PE X o to) (hi : PE X i ti) (hs : PSet X t)
    (ha : ∀ v, assign (.Subscript o i pos) X.env v = (do
      let ov ← holding [v] (eval o X.env)
      let iv ← holding [v, ov] (eval i X.env)
      standAt pos
      holding [v, ov, iv] (setItem ov iv v)
      release [v, ov, iv] []) := by intro _; rfl) : PG X (.Subscript o i pos) (gSub to ti t) := by
  intro pins s σ H v u Q I r h
  rw [ha]
  refine wpAny_bind (wpAny_holding (thn (ho pins s σ H _ I h) fun ov s1 ⟨x, H1, I1, r1, q1⟩ => ?_))
  refine wpAny_bind (wpAny_holding (thn (hi pins s1 σ H1 _ I1 q1) fun iv s2 ⟨y, H2, I2, r2, q2⟩ => ?_))
  refine wpAny_bind (wpAny_standAt (wpAny_bind (wpAny_holding (thn (hs pins s2 σ H2 x y v ov iv u _ I2 r1 r2 r q2) fun _ s3 ⟨H3, I3, q3⟩ => ?_))))
  exact wpAny_release ⟨σ, H3, I3, q3⟩
def tAsg (te : TE) (g : TG) : TS := fun D σ H => te σ H fun x H1 => g x σ H1 D.nx
theorem ps_asg {tg e : Expr} {te : TE} {g : TG} (he : PE X e te) (hg : PG X tg g) (hs : swapsWithSole [tg] e pos.line X.env = pure false := by rfl) (hw : swappedStores [tg] e X.env = pure none := by rfl)
    (h1 : (assignEach [tg] X.env).map (·.2) = [assign tg X.env] := by rfl) : PS X (.Assign [tg] e pos) (tAsg te g) := by
  intro pins s σ H D I h
  refine wpAny_Assign_stores (thn (he pins s σ H _ I h) fun v s1 ⟨x, H1, I1, r1, q1⟩ => ?_) hs hw
  rw [h1]
  exact thn (hg pins s1 σ H1 x v _ I1 r1 q1) fun _ s2 q => q
theorem ps_set {i : Nat} {x : Str} {e : Expr} {te : TE} {pos' : Pos} (hN : X.N.Nodup) (hi : X.N[i]? = some x) (hx : Loc X.env.scope x) (he : PE X e te) (hs : swapsWith e (some (.Name x pos')) pos.line X.env = pure false := by rfl) (hf : X.fn x = true ∨ X.env.scope.names.lookup x = some .local := by first | exact .inl rfl | exact .inr rfl | assumption) :
    PS X (.Assign [.Name x pos'] e pos) (tAsg te (gName i)) := by
  intro pins s σ H D I h
  refine wpAny_Assign_Name (thn (he pins s σ H _ I h) fun v s1 ⟨y, H1, I1, r1, q1⟩ => ?_) hs
  exact store_ok I1 hN hi hx r1 (fun s2 I2 => ⟨_, H1, I2, q1⟩) hf
def tPar (i j : Nat) (ta : TA) : TS := fun D σ H => ta σ H fun vs H1 => ∃ v w, vs = [v, w] ∧ D.nx ((σ.set i (some v)).set j (some w)) H1
theorem ps_par {i j : Nat} {x y : Str} {a b : Expr} {ta : TA} {px py pt : Pos} {kt k2 pt2} (hc : X.calm = true) (hN : X.N.Nodup) (hi : X.N[i]? = some x) (hj : X.N[j]? = some y) (hij : i ≠ j)
    (hx : X.env.scope.names.lookup x = some .local) (hy : X.env.scope.names.lookup y = some .local) (ha : PA X [a, b] ta)
    (hw : swappedStores [.Tuple [.Name x px, .Name y py] kt pt] (.Tuple [a, b] k2 pt2) X.env = pure (some [x, y]))
    (hs : swapsWithSole [.Tuple [.Name x px, .Name y py] kt pt] (.Tuple [a, b] k2 pt2) pos.line X.env = pure false := by rfl) :
    PS X (.Assign [.Tuple [.Name x px, .Name y py] kt pt] (.Tuple [a, b] k2 pt2) pos) (tPar i j ta) := by
  intro pins s σ H D I h
  rw [exec_Assign_arm]
  refine wpAny_bind (wpAny_standAt ?_)
  rw [hs]
  refine wpAny_bind (wpAny_pure ?_)
  rw [if_neg (by decide)]
  refine wpAny_bind (Tuple_ (thn (ha _ pins s σ H _ I h) fun us s1 ⟨vs, H1, I1, r1, q1⟩ => ?_))
  obtain ⟨v, w, e1, q1⟩ := q1
  subst e1
  obtain ⟨u1, u2, rfl, rv, rw'⟩ : ∃ u1 u2, us = [u1, u2] ∧ RelV v u1 ∧ RelV w u2 := by
    cases r1 with
    | cons p q =>
      cases q with
      | cons p' q' =>
        cases q'
        exact ⟨_, _, rfl, p, p'⟩
  refine wpAny_newObj_type ?_ (by show 2 ≤ sizeLine; decide)
  have I2 : Inv X pins σ H1 { s1 with heap := s1.heap.push { cls := .type "tuple", data := .seq [u1, u2].toArray } } := I1.kept (t' := s1.toks) fun b o e => Heap.get?_push_of_some _ e
  rw [hw]
  refine wpAny_bind (wpAny_pure ?_)
  show wpAny (model X.prog X.w) X.A (do rule "assign.swapped-stores"; let items ← unpackItems (.ref s1.heap.objs.size) 2 none; assignInOrder [fun v => bindName X.env y v, fun v => bindName X.env x v] items.reverse; pure Flow.next) _ _ _
  refine wpAny_bind (wpAny_rule (wpAny_bind (unpackItems_tuple (items := #[u1, u2]) (I.ok.hd hc) (IsTup.new s1.heap _) fun h' hx' => ?_)))
  have I3 := I2.kept (h' := h') (t' := s1.toks) fun b o e => hx' b o (Nat.ne_of_lt (Heap.lt_size e)) e
  show wpAny _ _ (assignInOrder [fun v => bindName X.env y v, fun v => bindName X.env x v] [u2, u1] >>= fun _ => pure Flow.next) _ _ _
  refine wpAny_bind (assignInOrder_cons (wpAny_bindName (store_ok I3 hN hj (.inl hy) rw' (fun s2 I4 => ?_) (.inr hy))))
  refine assignInOrder_cons (wpAny_bindName (store_ok I4 hN hi (.inl hx) rv (fun s3 I5 => assignInOrder_nil (wpAny_pure ?_)) (.inr hx)))
  rw [List.set_comm _ _ (Ne.symm hij)] at I5
  exact ⟨_, H1, I5, q1⟩
def tAug (i : Nat) (te : TE) (ti : TIp) : TS := fun D σ H => ∃ x, σ[i]? = some (some x) ∧ te σ H fun y H1 => ti x y H1 fun z H2 => D.nx (σ.set i (some z)) H2
theorem ps_aug {i : Nat} {x : Str} {e : Expr} {te : TE} {op : Operator} {ti : TIp} {pos' : Pos} (hN : X.N.Nodup) (hi : X.N[i]? = some x) (hx : Loc X.env.scope x) (he : PE X e te) (ho : PIp X op ti) (hf : X.fn x = true ∨ X.env.scope.names.lookup x = some .local := by first | exact .inl rfl | exact .inr rfl | assumption) :
    PS X (.AugAssign (.Name x pos') op e pos) (tAug i te ti) := by
  intro pins s σ H D I h
  obtain ⟨v, e1, h⟩ := h
  obtain ⟨m, hn, hl⟩ := I.loc
  have vis : Vis X.env.scope x := by rcases hx with k | k; exact .inl k; exact .inr (.inl k)
  obtain ⟨u, r, l⟩ := hl i x v hi e1 vis
  refine wpAny_AugAssign_Name ?_
  have go : wpAny (model X.prog X.w) X.A (eval e X.env) (fun w s₂ => wpAny (model X.prog X.w) X.A (inplaceOp op u w) (fun r s₃ => wpAny (model X.prog X.w) X.A (storeName X.env x r) (fun _ => SP X pins D .next) X.xe s₃) X.xe s₂) X.xe s := by
    refine thn (he pins s σ H _ I h) fun w s1 ⟨y, H1, I1, r1, q1⟩ => ?_
    refine thn (ho pins s1 σ H1 v y u w _ I1 r r1 q1) fun z s2 ⟨zv, H2, I2, r2, q2⟩ => ?_
    exact store_ok I2 hN hi hx r2 (fun s3 I3 => ⟨_, H2, I3, q2⟩) hf
  rcases l with ⟨hk, hm⟩ | ⟨hk, c, hc, hcell⟩
  · exact wpAny_loadName_local I.ok.kind hk hn hm go
  · rcases hk with hk | hk
    · exact wpAny_loadName_cell I.ok.kind hk hc hcell go
    · rcases hx with k | k
      · have : X.env.scope.names.lookup x = some .free := hk
        rw [k] at this; cases this
      · have : X.env.scope.names.lookup x = some .free := hk
        rw [k] at this; cases this
def ipI (f : Int → Int → Int) : TIp := fun x y H Q => ∃ i j, x = .int i ∧ y = .int j ∧ Q (.int (f i j)) H
theorem ip_add : PIp X .Add (ipI fun i j => i + j) := by
  intro pins s σ H x y v u Q I r1 r2 h
  obtain ⟨i, j, e1, e2, q⟩ := h
  subst e1; subst e2
  obtain ⟨t, rfl⟩ := r1
  obtain ⟨t', rfl⟩ := r2
  exact iadd_int ⟨.int _, H, I.tok _, ⟨_, rfl⟩, q⟩
theorem ip_sub : PIp X .Sub (ipI fun i j => i - j) := by
  intro pins s σ H x y v u Q I r1 r2 h
  obtain ⟨i, j, e1, e2, q⟩ := h
  subst e1; subst e2
  obtain ⟨t, rfl⟩ := r1
  obtain ⟨t', rfl⟩ := r2
  exact isub_int ⟨.int _, H, I.tok _, ⟨_, rfl⟩, q⟩
end
section
variable {X : Cx} {pos : Pos}
def tWhile (c : TT) (tb : TS) : TS := fun D σ H => ∃ W : Nat → St → Hp → Prop, (∃ m, W m σ H) ∧ ∀ m σ H, W m σ H →
  c σ H fun b H1 => if b = true then ∃ N : St → Hp → Prop, (∀ σ' H', N σ' H' → ∃ m', m' < m ∧ W m' σ' H') ∧ tb { D with nx := N, ct := N, bk := D.nx } σ H1 else D.nx σ H1
theorem ps_while {c : Expr} {body : List Stmt} {tc : TT} {tb : TS} (hp : PassesOwn (model X.prog X.w) X.A X.env X.xe) (hc : PT X c tc) (hb : PSs X body tb) : PS X (.While c body [] pos) (tWhile tc tb) := by
  intro pins s σ H D I h
  obtain ⟨W, ⟨m0, w0⟩, turn⟩ := h
  refine wpAny_While (codeAny_whileLoop (fun n s' => ∃ σ' H', Inv X pins σ' H' s' ∧ W n σ' H') ?_ m0 ⟨σ, H, I, w0⟩)
  rintro n s1 ⟨σ1, H1, I1, w1⟩
  refine wpAny_passesOwn hp (thn (hc pins s1 σ1 H1 _ I1 (turn n σ1 H1 w1)) fun b s2 ⟨H2, I2, q2⟩ => ?_)
  cases b with
  | true =>
    obtain ⟨N, hN, q2⟩ := q2
    rw [if_pos rfl]
    refine wpAny_passesOwn hp (thn (hb pins s2 σ1 H2 _ I2 q2) fun f s3 q3 => ?_)
    cases f with
    | next =>
      obtain ⟨σ3, H3, I3, n3⟩ := q3
      obtain ⟨m', hm, w3⟩ := hN σ3 H3 n3
      exact ⟨m', hm, σ3, H3, I3, w3⟩
    | cont =>
      obtain ⟨σ3, H3, I3, n3⟩ := q3
      obtain ⟨m', hm, w3⟩ := hN σ3 H3 n3
      exact ⟨m', hm, σ3, H3, I3, w3⟩
    | brk => exact q3
    | ret v => exact q3
  | false =>
    rw [if_neg Bool.false_ne_true]
    exact wpAny_execs_nil ⟨σ1, H2, I2, q2⟩
end
structure It where
  go : Nat → Hp → Prop
  yld : Nat → Hp → V → Hp → Prop
  stop : Nat → Hp → Prop
def FpOk (X : Cx) (pins : List (Addr × Obj)) (H : Hp) (b : Addr) : Prop :=
  H b = none ∧ b ≠ X.env.locals ∧ b ∉ X.fs ∧ (b ∈ X.ex ∨ X.s₀.heap.objs.size ≤ b) ∧ (∀ x c, X.env.cells.lookup x = some c → c ≠ b) ∧ ∀ p ∈ X.pn ++ pins, p.1 ≠ b
theorem Inv.fpOk {X : Cx} {pins : List (Addr × Obj)} {σ : St} {H H' : Hp} {s : Shared} {b : Addr} (I : Inv X pins σ H s) (hb : s.heap.objs.size ≤ b) (hn : H' b = none) : FpOk X pins H' b := by
  refine ⟨hn, Nat.ne_of_gt (Nat.lt_of_lt_of_le I.lt hb), I.nofs hb, .inr (Nat.le_trans I.sz hb), fun x c e z => ?_, fun p hp z => ?_⟩
  · obtain ⟨v, q⟩ := I.cell x c e
    exact absurd (Nat.lt_of_lt_of_le q.lt (by rw [z]; exact hb)) (Nat.lt_irrefl _)
  · exact absurd (Nat.lt_of_lt_of_le (Heap.lt_size (I.pin p hp).1) (by rw [z]; exact hb)) (Nat.lt_irrefl _)
structure Turn (P : Program) (w : World) (K : PySem.W.Frag) (tg : Expr) (J : It) (fp : List Addr) (it : Addr) (tn : Nat → Heap → Prop) : Prop where
  mem : it ∈ fp
  obj : ∀ i h, tn i h → ∀ b ∈ fp, ∃ o, h.get? b = some o ∧ ∀ v, o.data ≠ .cell v
  keep : ∀ i h h', tn i h → (∀ b ∈ fp, ∀ o, h.get? b = some o → h'.get? b = some o) → tn i h'
  item : ∀ (X : Cx), X.prog = P → X.w = w → X.K = K → X.calm = true → ∀ (i : Nat) (pins : List (Addr × Obj)) (s : Shared) (σ : St) (H : Hp) (E : Value → Shared → Prop), Inv X pins σ H s → (∀ b ∈ fp, FpOk X pins H b) → tn i s.heap → J.go i H →
    wpAny (model P w) X.A (pyNext (.ref it)) (fun r s1 => ∃ u, r = some u ∧
      wpAny (model P w) X.A (letOwnedTupleGo tg (.ref it) u) (fun _ s2 => ∃ x H', Inv X pins σ H' s2 ∧ RelV x u ∧ J.yld i H x H' ∧ tn (i + 1) s2.heap ∧ ∀ b ∈ fp, H' b = none) E s1) E s
  done : ∀ (X : Cx), X.prog = P → X.w = w → X.K = K → X.calm = true → ∀ (i : Nat) (pins : List (Addr × Obj)) (s : Shared) (σ : St) (H : Hp) (E : Value → Shared → Prop), Inv X pins σ H s → (∀ b ∈ fp, FpOk X pins H b) → tn i s.heap → J.stop i H →
    wpAny (model P w) X.A (pyNext (.ref it)) (fun r s1 => r = none ∧ Inv X pins σ H s1) E s
  self : ∀ (A : Around) (i : Nat) (s : Shared) (Q : Value → Shared → Prop) (E : Value → Shared → Prop), tn i s.heap → Q (.ref it) s → wpAny (model P w) A (pyIter (.ref it)) Q E s
abbrev TI := St → Hp → (It → Hp → Prop) → Prop
def PIE (X : Cx) (pins : List (Addr × Obj)) (σ : St) (tg : Expr) (R : It → Hp → Prop) (itv : Value) (s2 : Shared) : Prop :=
  ∃ (it : Addr) (fp : List Addr) (tn : Nat → Heap → Prop) (J : It) (H' : Hp), itv = .ref it ∧ Inv X pins σ H' s2 ∧ Turn X.prog X.w X.K tg J fp it tn ∧ tn 0 s2.heap ∧ (∀ b ∈ fp, FpOk X pins H' b) ∧ R J H'
def PI (X : Cx) (tg iter : Expr) (wi : TI) : Prop :=
  ∀ (pins : List (Addr × Obj)) (s : Shared) (σ : St) (H : Hp) (R : It → Hp → Prop), Inv X pins σ H s → wi σ H R →
    wpAny (model X.prog X.w) X.A (eval iter X.env) (fun v s1 => wpAny (model X.prog X.w) X.A (pyIter v) (PIE X pins σ tg R) X.xe s1) X.xe s
theorem go_of {M : Model} {A : Around} {E : Value → Shared → Prop} {s : Shared} {tg : Expr} {it : Addr} {u : Value} {o : Obj} {n : String} {vs : Array Value} {Q : Unit → Shared → Prop} (ho : s.heap.get? it = some o) (hc : o.cls = .type n) (hd : o.data = .fields vs)
    (hn : ["enumerate", "zip", "dict_itemiterator", "dict_reverseitemiterator", "odict_iterator", "itertools.zip_longest", "itertools.pairwise"].contains n = false) (hQ : Q () s) : wpAny M A (letOwnedTupleGo tg (.ref it) u) Q E s := by
  unfold letOwnedTupleGo
  cases tg <;> first
    | exact wpAny_pure hQ
    | (cases u <;> first
        | exact wpAny_pure hQ
        | (refine wpAny_bind (wpAny_load ho ?_)
           rw [hc, hd]
           show wpAny M A (if (["enumerate", "zip", "dict_itemiterator", "dict_reverseitemiterator", "odict_iterator", "itertools.zip_longest", "itertools.pairwise"].contains n && vs[0]? == some (rawInt _)) = true then _ else _) Q E s
           rw [if_neg (by intro h; rw [hn, Bool.false_and] at h; cases h)]
           exact wpAny_pure hQ))
def Itl (K : PySem.W.Frag) (a : Addr) : It :=
  ⟨fun i H => ∃ xs x, SqL K H a xs ∧ xs[i]? = some x, fun i H x H' => H' = H ∧ ∀ xs, SqL K H a xs → xs[i]? = some x, fun i H => ∃ xs, SqL K H a xs ∧ xs.length ≤ i⟩
def Itr (lo : Int) (n : Nat) : It := ⟨fun i _ => i < n, fun i H x H' => H' = H ∧ x = .int (lo + i), fun i _ => n ≤ i⟩
theorem turn_list {P : Program} {w : World} {K : PySem.W.Frag} {tg : Expr} (a it : Addr) : Turn P w K tg (Itl K a) [it] it (fun i h => h.IsListIter it a i) where
  mem := by simp
  obj := fun i h st b hb => by
    have e : b = it := by simpa using hb
    subst e
    obtain ⟨o, e, c, d⟩ := st
    exact ⟨o, e, fun v z => by rw [d] at z; cases z⟩
  keep := fun i h h' st k => st.at fun o e => k it (by simp) o e
  item := by
    intro X hP hw hK hc i pins s σ H E I hf st hg
    subst hP hw hK
    obtain ⟨xs, x, hq, hx⟩ := hg
    obtain ⟨its, rv, p, hz⟩ := I.list hq
    obtain ⟨u, hu, ru⟩ := rv.get hx
    obtain ⟨f0, f1, f2, f3, f4, f5⟩ := hf it (by simp)
    refine wpAny_pyNext_list_item st p.isList (x := u) (by simpa using hu) fun h' st' sb => ?_
    have I1 : Inv X pins σ H { s with heap := h' } := I.turned (t' := s.toks) (fun b o hb e => (sb.2 b hb).trans e) f0 f1 f3 f4 f5
    obtain ⟨o, e, c, d⟩ := id st'
    exact ⟨u, rfl, go_of (s := { s with heap := h' }) e c d (by decide) ⟨x, H, I1, ru, ⟨rfl, fun ys hy => by rw [I.list_inj hy hq]; exact hx⟩, st', fun b hb => (hf b hb).1⟩⟩
  done := by
    intro X hP hw hK hc i pins s σ H E I hf st hg
    subst hP hw hK
    obtain ⟨xs, hq, hx⟩ := hg
    obtain ⟨its, rv, p, hz⟩ := I.list hq
    obtain ⟨f0, f1, f2, f3, f4, f5⟩ := hf it (by simp)
    have hl := rv.length
    exact wpAny_pyNext_list_end (I.ok.hd hc) st p.isList (by simp; omega) fun h' eb => ⟨rfl, I.turned (t' := s.toks) (fun b o hb e => eb b o hb e) f0 f1 f3 f4 f5⟩
  self := fun _ _ _ _ _ st h => wpAny_pyIter_listiter st h
theorem turn_range {P : Program} {w : World} {K : PySem.W.Frag} {tg : Expr} (it : Addr) (lo : Int) (n : Nat) : Turn P w K tg (Itr lo n) [it] it (fun i h => IsRangeIter h it (lo + (i : Nat) * 1) ((n : Int) - (i : Nat)) 1) where
  mem := by simp
  obj := fun i h st b hb => by
    have e : b = it := by simpa using hb
    subst e
    exact ⟨_, st, fun v z => by
      have z' : Data.fields _ = Data.cell v := z
      cases z'⟩
  keep := fun i h h' st k => k it (by simp) _ st
  item := by
    intro X hP hw hK hc i pins s σ H E I hf st hg
    subst hP hw hK
    obtain ⟨f0, f1, f2, f3, f4, f5⟩ := hf it (by simp)
    have W := Walks.range (prog := X.prog) (w := X.w) (I.ok.hd hc) it lo 1 n
    refine W.item i s _ _ hg st fun v h' tk hv st' kk => ?_
    obtain ⟨t, rfl⟩ := hv
    have I1 : Inv X pins σ H { s with heap := h', toks := tk } := I.turned (fun b o hb e => kk b o (by simpa using hb) e) f0 f1 f3 f4 f5
    refine ⟨_, rfl, go_of (s := { s with heap := h', toks := tk }) (n := "range_iterator") st' rfl rfl (by decide) ⟨.int (lo + i), H, I1, ⟨t, ?_⟩, ⟨rfl, rfl⟩, st', fun b hb => (hf b hb).1⟩⟩
    rw [Int.mul_one]
  done := by
    intro X hP hw hK hc i pins s σ H E I hf st hg
    subst hP hw hK
    obtain ⟨f0, f1, f2, f3, f4, f5⟩ := hf it (by simp)
    exact wpAny_pyNext_range_end (I.ok.hd hc) st (by have : n ≤ i := hg; omega) fun h' eb => ⟨rfl, I.turned (t' := s.toks) (fun b o hb e => eb b o hb e) f0 f1 f3 f4 f5⟩
  self := fun _ _ _ _ _ st h => wpAny_pyIter_rangeiter st h
end L2
namespace L2
open PySem PySem.Spec PyProof.Rows
section
variable {X : Cx} {tg : Expr}
def iList (K : PySem.W.Frag) (tl : TE) : TI := fun σ H R => tl σ H fun x H1 => ∃ a, x = .ref a ∧ (∃ xs, SqL K H1 a xs) ∧ R (Itl K a) H1
theorem pi_list {l : Expr} {tl : TE} (hl : PE X l tl) : PI X tg l (iList X.K tl) := by
  intro pins s σ H R I h
  refine thn (hl pins s σ H _ I h) fun v s1 ⟨x, H1, I1, r1, q1⟩ => ?_
  obtain ⟨a, e, ⟨xs, hq⟩, q⟩ := q1
  subst e
  cases r1
  obtain ⟨its, rv, p, hz⟩ := I1.list hq
  refine wpAny_pyIter_list p.isList ?_
  refine ⟨s1.heap.objs.size, [s1.heap.objs.size], _, _, H1, rfl, I1.kept (t' := s1.toks) fun b o e => Heap.get?_push_of_some _ e, turn_list a _, ⟨_, Heap.get?_push_size _ rfl, rfl, rfl⟩, fun b hb => ?_, q⟩
  have e : b = s1.heap.objs.size := by simpa using hb
  subst e
  exact I1.fpOk (Nat.le_refl _) (I1.hok.fresh (Nat.le_refl _))
theorem range_it {pins : List (Addr × Obj)} {σ : St} {H : Hp} {s : Shared} {R : It → Hp → Prop} {E : Value → Shared → Prop} {lo hi : Int} {t u v : Tok} {tk : Nat} (I : Inv X pins σ H s) (h1 : -(2 ^ 62) ≤ lo) (h2 : lo < 2 ^ 62) (h3 : -(2 ^ 62) ≤ hi) (h4 : hi < 2 ^ 62)
    (q : R (Itr lo (hi - lo).toNat) H) : wpAny (model X.prog X.w) X.A (pyIter (.ref s.heap.objs.size)) (PIE X pins σ tg R) E { s with heap := s.heap.push { cls := .type "range", data := .fields #[.int lo t, .int hi u, .int 1 v] }, toks := tk } := by
  refine wpAny_pyIter_range (IsRange.new ..) (small_one h1 h2 h3 h4) ?_
  have I1 : Inv X pins σ H { s with heap := s.heap.push { cls := .type "range", data := .fields #[.int lo t, .int hi u, .int 1 v] }, toks := tk } := I.kept fun b o e => Heap.get?_push_of_some _ e
  refine ⟨(s.heap.push { cls := .type "range", data := .fields #[.int lo t, .int hi u, .int 1 v] }).objs.size, [(s.heap.push { cls := .type "range", data := .fields #[.int lo t, .int hi u, .int 1 v] }).objs.size], _, _, H, rfl,
    I1.kept (t' := tk) fun b o e => Heap.get?_push_of_some _ e, turn_range _ lo (hi - lo).toNat, ?_, fun b hb => ?_, q⟩
  · have e1 : lo + ((0 : Nat) : Int) * 1 = lo := by simp
    have e2 : (((hi - lo).toNat : Nat) : Int) - ((0 : Nat) : Int) = Builtin.Range.rangeSize lo hi 1 := by rw [rangeSize_one]; split <;> omega
    show IsRangeIter _ _ (lo + ((0 : Nat) : Int) * 1) ((((hi - lo).toNat : Nat) : Int) - ((0 : Nat) : Int)) 1
    rw [e1, e2]
    exact Heap.get?_push_size _ rfl
  · have e : b = (s.heap.push { cls := .type "range", data := .fields #[.int lo t, .int hi u, .int 1 v] }).objs.size := by simpa using hb
    subst e
    exact I1.fpOk (Nat.le_refl _) (I1.hok.fresh (Nat.le_refl _))
def iRng1 (ta : TA) : TI := fun σ H R => ta σ H fun vs H1 => ∃ j : Int, vs = [.int j] ∧ -(2 ^ 62) ≤ j ∧ j < 2 ^ 62 ∧ R (Itr 0 j.toNat) H1
def iRng2 (ta : TA) : TI := fun σ H R => ta σ H fun vs H1 => ∃ i j : Int, vs = [.int i, .int j] ∧ (-(2 ^ 62) ≤ i ∧ i < 2 ^ 62 ∧ -(2 ^ 62) ≤ j ∧ j < 2 ^ 62) ∧ R (Itr i (j - i).toNat) H1
theorem pi_range1 {a : Expr} {ta : TA} {p pos : Pos} (hg : Gl X "range") (hm : X.mg "range" = none) (ha : PA X [a] ta) (hs : starEach [a] X.env = [(false, eval a X.env)] := by rfl) : PI X tg (.Call (.Name "range" p) [a] [] pos) (iRng1 ta) := by
  intro pins s σ H R I h
  refine Call_ (ld_blt I hg hm boot_range (PyProof.Rows.callWith_type1 (thn (ha pos pins s σ H _ I h) fun us s1 ⟨vs, H1, I1, r1, q1⟩ => ?_) hs rfl))
  obtain ⟨j, e, q1, q2, q⟩ := q1
  subst e
  cases r1 with
  | cons r rr =>
    cases rr
    obtain ⟨t, rfl⟩ := r
    exact call_range_1 (range_it I1 (by omega) (by omega) q1 q2 (by simpa using q))
theorem pi_range2 {a b : Expr} {ta : TA} {p pos : Pos} (hg : Gl X "range") (hm : X.mg "range" = none) (ha : PA X [a, b] ta) (hs : starEach [a, b] X.env = [(false, eval a X.env), (false, eval b X.env)] := by rfl) (hs2 : starEach [b] X.env = [(false, eval b X.env)] := by rfl) :
    PI X tg (.Call (.Name "range" p) [a, b] [] pos) (iRng2 ta) := by
  intro pins s σ H R I h
  refine Call_ (ld_blt I hg hm boot_range (PyProof.Rows.callWith_type1 (thn (ha pos pins s σ H _ I h) fun us s1 ⟨vs, H1, I1, r1, q1⟩ => ?_) (by rw [hs, hs2]) (by rw [hs2]; rfl)))
  obtain ⟨i, j, e, ⟨q1, q2, q3, q4⟩, q⟩ := q1
  subst e
  cases r1 with
  | cons r rr =>
    cases rr with
    | cons r' rr =>
      cases rr
      obtain ⟨t, rfl⟩ := r
      obtain ⟨t', rfl⟩ := r'
      exact call_range_2 (range_it I1 q1 q2 q3 q4 q)
def tFor (wi : TI) (g : TG) (tb : TS) : TS := fun D σ H => wi σ H fun J H1 => ∃ W : Nat → Nat → St → Hp → Prop, (∃ m, W 0 m σ H1) ∧ ∀ i m σ H, W i m σ H →
  (J.stop i H ∧ D.nx σ H) ∨ (J.go i H ∧ ∃ N : St → Hp → Prop, (∀ σ' H', N σ' H' → ∃ m', m' < m ∧ W (i + 1) m' σ' H') ∧ ∀ x H', J.yld i H x H' → g x σ H' fun σ2 H2 => tb { D with nx := N, ct := N, bk := D.nx } σ2 H2)
def pinsAt (fp : List Addr) (h : Heap) : List (Addr × Obj) := fp.filterMap fun b => (h.get? b).map fun o => (b, o)
theorem mem_pinsAt {fp : List Addr} {h : Heap} {b : Addr} {o : Obj} (hb : b ∈ fp) (e : h.get? b = some o) : (b, o) ∈ pinsAt fp h := List.mem_filterMap.mpr ⟨b, hb, by rw [e]; rfl⟩
theorem of_pinsAt {fp : List Addr} {h : Heap} {p : Addr × Obj} (hp : p ∈ pinsAt fp h) : p.1 ∈ fp ∧ h.get? p.1 = some p.2 := by
  obtain ⟨b, hb, e⟩ := List.mem_filterMap.mp hp
  cases q : h.get? b with
  | none => rw [q] at e; cases e
  | some o =>
    rw [q] at e
    have e' : (b, o) = p := Option.some.inj e
    subst e'
    exact ⟨hb, q⟩
theorem Inv.pinned {pins : List (Addr × Obj)} {σ : St} {H : Hp} {s : Shared} {fp : List Addr} (I : Inv X pins σ H s) (hf : ∀ b ∈ fp, FpOk X pins H b) (ho : ∀ b ∈ fp, ∃ o, s.heap.get? b = some o ∧ ∀ v, o.data ≠ .cell v) : Inv X (pins ++ pinsAt fp s.heap) σ H s :=
  I.pins_of fun p hp => (List.mem_append.mp hp).elim (fun z => I.pin p (List.mem_append_right _ z)) fun z => by
    obtain ⟨hb, e⟩ := of_pinsAt z
    obtain ⟨f0, f1, f2, _⟩ := hf p.1 hb
    obtain ⟨o, e', d⟩ := ho p.1 hb
    rw [e] at e'; cases e'
    exact ⟨e, f0, f1, f2, d⟩
theorem Inv.unpinned {pins pl : List (Addr × Obj)} {σ : St} {H : Hp} {s : Shared} (I : Inv X (pins ++ pl) σ H s) : Inv X pins σ H s := I.pins_of fun p hp => I.pin p (List.mem_append_right _ (List.mem_append_left _ hp))
theorem ps_for {iter : Expr} {body : List Stmt} {wi : TI} {g : TG} {tb : TS} {pos : Pos} (hp : PassesOwn (model X.prog X.w) X.A X.env X.xe) (hc : X.calm = true) (hi : PI X tg iter wi) (hg : PG X tg g) (hb : PSs X body tb)
    (hs : ∀ x, foldedSetIterable iter X.env x = pure x := by intro _; rfl) : PS X (.For tg iter body [] pos) (tFor wi g tb) := by
  intro pins s σ H D I h
  refine wpAny_For (thn (hi pins s σ H _ I h) fun v s1 h1 => thn h1 fun itv s2 h2 => ?_) hs
  obtain ⟨it, fp, tn, J, H2, e, I2, T, st2, f2, W, ⟨m0, w0⟩, turn⟩ := h2
  subst e
  have stat : ∀ {H' : Hp}, (∀ b ∈ fp, H' b = none) → ∀ b ∈ fp, FpOk X pins H' b := fun hn b hb => ⟨hn b hb, (f2 b hb).2⟩
  refine codeAny_forLoop_any (fun n s' => ∃ i σ' H', Inv X pins σ' H' s' ∧ tn i s'.heap ∧ (∀ b ∈ fp, H' b = none) ∧ W i n σ' H') ?_ m0 ⟨0, σ, H2, I2, st2, fun b hb => (f2 b hb).1, w0⟩
  rintro n s3 ⟨i, σ3, H3, I3, st3, fr3, w3⟩
  rcases turn i n σ3 H3 w3 with ⟨stop, qn⟩ | ⟨go, N, hN, step⟩
  · refine wpAny_passesOwn hp (thn (T.done X rfl rfl rfl hc i pins s3 σ3 H3 X.xe I3 (stat fr3) st3 stop) fun r s4 ⟨hr, I4⟩ => ?_)
    subst hr
    exact wpAny_execs_nil ⟨σ3, H3, I4, qn⟩
  · refine wpAny_passesOwn hp (thn (T.item X rfl rfl rfl hc i pins s3 σ3 H3 X.xe I3 (stat fr3) st3 go) fun r s4 ⟨u, hr, h4⟩ => ?_)
    subst hr
    refine wpAny_passesOwn hp (thn h4 fun _ s5 ⟨x, H5, I5, r5, y5, st5, fr5⟩ => ?_)
    have I5' := I5.pinned (stat fr5) (T.obj _ _ st5)
    refine wpAny_passesOwn hp (thn (hg _ s5 σ3 H5 x u _ I5' r5 (step x H5 y5)) fun _ s6 ⟨σ6, H6, I6, q6⟩ => ?_)
    refine wpAny_passesOwn hp (thn (hb _ s6 σ6 H6 _ I6 q6) fun f s7 q7 => ?_)
    have again : ∀ {σ7 : St} {H7 : Hp}, Inv X (pins ++ pinsAt fp s5.heap) σ7 H7 s7 → N σ7 H7 → ∃ m, m < n ∧ ∃ i σ' H', Inv X pins σ' H' s7 ∧ tn i s7.heap ∧ (∀ b ∈ fp, H' b = none) ∧ W i m σ' H' := fun {σ7 H7} I7 n7 => by
      obtain ⟨m', hm, w7⟩ := hN σ7 H7 n7
      refine ⟨m', hm, i + 1, σ7, H7, I7.unpinned, T.keep _ _ _ st5 fun b hb o e => (I7.pin (b, o) (List.mem_append_right _ (List.mem_append_right _ (mem_pinsAt hb e)))).1, fun b hb => ?_, w7⟩
      obtain ⟨o, e, d⟩ := T.obj _ _ st5 b hb
      exact (I7.pin (b, o) (List.mem_append_right _ (List.mem_append_right _ (mem_pinsAt hb e)))).2.1
    cases f with
    | next => obtain ⟨σ7, H7, I7, n7⟩ := q7; exact again I7 n7
    | cont => obtain ⟨σ7, H7, I7, n7⟩ := q7; exact again I7 n7
    | brk => obtain ⟨σ7, H7, I7, q7⟩ := q7; exact ⟨σ7, H7, I7.unpinned, q7⟩
    | ret v => obtain ⟨x7, σ7, H7, I7, r7, q7⟩ := q7; exact ⟨x7, σ7, H7, I7.unpinned, r7, q7⟩
end
theorem for_list {K : PySem.W.Frag} {a : Addr} {xs : List V} {g : TG} {tb : TS} {D : Ends} {σ : St} {H : Hp} (Pv : Nat → St → Hp → Prop) (h0 : Pv 0 σ H) (hl : ∀ i σ H, i ≤ xs.length → Pv i σ H → SqL K H a xs)
    (hs : ∀ i x σ H, xs[i]? = some x → Pv i σ H → g x σ H fun σ2 H2 => tb { D with nx := Pv (i + 1), ct := Pv (i + 1), bk := D.nx } σ2 H2) (hd : ∀ σ H, Pv xs.length σ H → D.nx σ H) :
    ∃ W : Nat → Nat → St → Hp → Prop, (∃ m, W 0 m σ H) ∧ ∀ i m σ H, W i m σ H →
      ((Itl K a).stop i H ∧ D.nx σ H) ∨ ((Itl K a).go i H ∧ ∃ N : St → Hp → Prop, (∀ σ' H', N σ' H' → ∃ m', m' < m ∧ W (i + 1) m' σ' H') ∧ ∀ x H', (Itl K a).yld i H x H' → g x σ H' fun σ2 H2 => tb { D with nx := N, ct := N, bk := D.nx } σ2 H2) := by
  refine ⟨fun i m σ H => m = xs.length - i ∧ i ≤ xs.length ∧ Pv i σ H, ⟨xs.length, by simp, Nat.zero_le _, h0⟩, ?_⟩
  rintro i m σ H ⟨rfl, hi, p⟩
  have q := hl i σ H hi p
  by_cases hlt : i < xs.length
  · refine .inr ⟨⟨xs, xs[i], q, by simp [hlt]⟩, Pv (i + 1), fun σ' H' p' => ⟨xs.length - (i + 1), by omega, rfl, hlt, p'⟩, fun x H' y => ?_⟩
    obtain ⟨e, y⟩ := y
    subst e
    exact hs i x σ _ (y xs q) p
  · have e : i = xs.length := by omega
    subst e
    exact .inl ⟨⟨xs, q, Nat.le_refl _⟩, hd σ H p⟩
theorem for_range {lo : Int} {n : Nat} {g : TG} {tb : TS} {D : Ends} {σ : St} {H : Hp} (Pv : Nat → St → Hp → Prop) (h0 : Pv 0 σ H)
    (hs : ∀ i σ H, i < n → Pv i σ H → g (.int (lo + i)) σ H fun σ2 H2 => tb { D with nx := Pv (i + 1), ct := Pv (i + 1), bk := D.nx } σ2 H2) (hd : ∀ σ H, Pv n σ H → D.nx σ H) :
    ∃ W : Nat → Nat → St → Hp → Prop, (∃ m, W 0 m σ H) ∧ ∀ i m σ H, W i m σ H →
      ((Itr lo n).stop i H ∧ D.nx σ H) ∨ ((Itr lo n).go i H ∧ ∃ N : St → Hp → Prop, (∀ σ' H', N σ' H' → ∃ m', m' < m ∧ W (i + 1) m' σ' H') ∧ ∀ x H', (Itr lo n).yld i H x H' → g x σ H' fun σ2 H2 => tb { D with nx := N, ct := N, bk := D.nx } σ2 H2) := by
  refine ⟨fun i m σ H => m = n - i ∧ i ≤ n ∧ Pv i σ H, ⟨n, by simp, Nat.zero_le _, h0⟩, ?_⟩
  rintro i m σ H ⟨rfl, hi, p⟩
  by_cases hlt : i < n
  · refine .inr ⟨hlt, Pv (i + 1), fun σ' H' p' => ⟨n - (i + 1), by omega, rfl, hlt, p'⟩, fun x H' y => ?_⟩
    obtain ⟨e, y⟩ := y
    subst e y
    exact hs i σ _ hlt p
  · have e : i = n := by omega
    subst e
    exact .inl ⟨Nat.le_refl _, hd σ H p⟩
theorem while_by {c : TT} {tb : TS} {D : Ends} {σ : St} {H : Hp} (Pv : St → Hp → Prop) (μ : St → Hp → Nat) (h0 : Pv σ H)
    (hs : ∀ σ H, Pv σ H → c σ H fun b H1 => if b = true then tb { D with nx := fun σ' H' => Pv σ' H' ∧ μ σ' H' < μ σ H, ct := fun σ' H' => Pv σ' H' ∧ μ σ' H' < μ σ H, bk := D.nx } σ H1 else D.nx σ H1)
    (mono : ∀ σ H Q Q', (∀ b H1, Q b H1 → Q' b H1) → c σ H Q → c σ H Q') : tWhile c tb D σ H := by
  refine ⟨fun m σ H => m = μ σ H ∧ Pv σ H, ⟨_, rfl, h0⟩, ?_⟩
  rintro m σ H ⟨rfl, p⟩
  refine mono σ H _ _ (fun b H1 q => ?_) (hs σ H p)
  cases b with
  | true => exact ⟨_, fun σ' H' ⟨p', l⟩ => ⟨_, l, rfl, p'⟩, q⟩
  | false => exact q
end L2
namespace L2
open PySem PySem.Spec PyProof.Rows
abbrev R2 := V → V → Hp → VK → Prop
def OpR (X : Cx) (f : Value → Value → Sem Value) (r : R2) : Prop :=
  ∀ (pins : List (Addr × Obj)) (s : Shared) (σ : St) (H : Hp) (x y : V) (v u : Value) (Q : VK), Inv X pins σ H s → RelV x v → RelV y u → r x y H Q →
    wpAny (model X.prog X.w) X.A (f v u) (EP X pins σ Q) X.xe s
def UnR (X : Cx) (f : Value → Sem Value) (r : V → Hp → VK → Prop) : Prop :=
  ∀ (pins : List (Addr × Obj)) (s : Shared) (σ : St) (H : Hp) (x : V) (v : Value) (Q : VK), Inv X pins σ H s → RelV x v → r x H Q →
    wpAny (model X.prog X.w) X.A (f v) (EP X pins σ Q) X.xe s
def CallR (X : Cx) (f : Value) (r : List V → Hp → VK → Prop) : Prop :=
  ∀ (pins : List (Addr × Obj)) (s : Shared) (σ : St) (H : Hp) (xs : List V) (us : List Value) (Q : VK), Inv X pins σ H s → Vals xs us → r xs H Q →
    wpAny (model X.prog X.w) X.A (call f us) (EP X pins σ Q) X.xe s
def tOp (r : R2) (ta tb : TE) : TE := fun σ H Q => ta σ H fun x H1 => tb σ H1 fun y H2 => r x y H2 Q
def tUn (r : V → Hp → VK → Prop) (ta : TE) : TE := fun σ H Q => ta σ H fun x H1 => r x H1 Q
def rI (C : Int → Int → Prop) (g : Int → Int → V) : R2 := fun x y H Q => ∃ i j, x = .int i ∧ y = .int j ∧ C i j ∧ Q (g i j) H
def rI0 (g : Int → Int → V) : R2 := fun x y H Q => ∃ i j, x = .int i ∧ y = .int j ∧ Q (g i j) H
def rU (g : Int → V) : V → Hp → VK → Prop := fun x H Q => ∃ i, x = .int i ∧ Q (g i) H
section
variable {X : Cx} {a b c : Expr} {ta tb tc : TE} {pos : Pos}
theorem binT (ha : PE X a ta) (hb : PE X b tb) {pins : List (Addr × Obj)} {s : Shared} {σ : St} {H : Hp} {R : V → V → Hp → Prop} (I : Inv X pins σ H s)
    (h : ta σ H fun x H1 => tb σ H1 fun y H2 => R x y H2) {Q : Value → Shared → Prop} {f : Value → Value → Sem Value}
    (hf : ∀ v u s2 x y H2, Inv X pins σ H2 s2 → RelV x v → RelV y u → R x y H2 → wpAny (model X.prog X.w) X.A (f v u) Q X.xe s2) :
    wpAny (model X.prog X.w) X.A (eval a X.env) (fun v s₁ => wpAny (model X.prog X.w) X.A (eval b X.env) (fun u s₂ => wpAny (model X.prog X.w) X.A (f v u) Q X.xe s₂) X.xe s₁) X.xe s := by
  refine thn (ha pins s σ H _ I h) fun v s1 ⟨x, H1, I1, r1, q1⟩ => ?_
  refine thn (hb pins s1 σ H1 _ I1 q1) fun u s2 ⟨y, H2, I2, r2, q2⟩ => ?_
  exact hf v u s2 x y H2 I2 r1 r2 q2
theorem pe_op {op : Operator} {r : R2} (ho : OpR X (binaryOp op) r) (ha : PE X a ta) (hb : PE X b tb) : PE X (.BinOp a op b pos) (tOp r ta tb) := by
  intro pins s σ H Q I h
  exact wpAny_BinOp (binT ha hb I h fun v u s2 x y H2 I2 rx ry q => ho pins s2 σ H2 x y v u Q I2 rx ry q)
theorem pe_un {op : UnaryOp} {r : V → Hp → VK → Prop} (ho : UnR X (unaryOp op) r) (ha : PE X a ta) : PE X (.UnaryOp op a pos) (tUn r ta) := by
  intro pins s σ H Q I h
  exact UnaryOp_ (thn (ha pins s σ H _ I h) fun v s1 ⟨x, H1, I1, r1, q1⟩ => ho pins s1 σ H1 x v Q I1 r1 q1)
theorem opI {f : Value → Value → Sem Value} {C : Int → Int → Prop} {g : Int → Int → Int}
    (rule : ∀ (i j : Int) (t u : Tok) (s : Shared) (Q : Value → Shared → Prop) (E : Value → Shared → Prop), C i j → Q (.int (g i j) s.toks) { s with toks := s.toks + 1 } → wpAny (model X.prog X.w) X.A (f (.int i t) (.int j u)) Q E s) :
    OpR X f (rI C fun i j => .int (g i j)) := by
  intro pins s σ H x y v u Q I rx ry h
  obtain ⟨i, j, rfl, rfl, hc, q⟩ := h
  obtain ⟨t, rfl⟩ := rx
  obtain ⟨t', rfl⟩ := ry
  exact rule i j t t' s _ _ hc ⟨.int (g i j), H, I.tok _, ⟨_, rfl⟩, q⟩
theorem opI0 {f : Value → Value → Sem Value} {g : Int → Int → Int}
    (rule : ∀ (i j : Int) (t u : Tok) (s : Shared) (Q : Value → Shared → Prop) (E : Value → Shared → Prop), Q (.int (g i j) s.toks) { s with toks := s.toks + 1 } → wpAny (model X.prog X.w) X.A (f (.int i t) (.int j u)) Q E s) :
    OpR X f (rI0 fun i j => .int (g i j)) := by
  intro pins s σ H x y v u Q I rx ry h
  obtain ⟨i, j, rfl, rfl, q⟩ := h
  obtain ⟨t, rfl⟩ := rx
  obtain ⟨t', rfl⟩ := ry
  exact rule i j t t' s _ _ ⟨.int (g i j), H, I.tok _, ⟨_, rfl⟩, q⟩
theorem opB0 {f : Value → Value → Sem Value} {g : Int → Int → Bool}
    (rule : ∀ (i j : Int) (t u : Tok) (s : Shared) (Q : Value → Shared → Prop) (E : Value → Shared → Prop), Q (.bool (g i j)) s → wpAny (model X.prog X.w) X.A (f (.int i t) (.int j u)) Q E s) :
    OpR X f (rI0 fun i j => .bl (g i j)) := by
  intro pins s σ H x y v u Q I rx ry h
  obtain ⟨i, j, rfl, rfl, q⟩ := h
  obtain ⟨t, rfl⟩ := rx
  obtain ⟨t', rfl⟩ := ry
  exact rule i j t t' s _ _ ⟨.bl (g i j), H, I, rfl, q⟩
def CPow (i j : Int) : Prop := 0 ≤ j ∧ j ≤ 1000000 ∧ i.natAbs < 2 ^ 64
def CMul (i j : Int) : Prop := (-(2 ^ 64) < i ∧ i < 2 ^ 64) ∨ (-(2 ^ 64) < j ∧ j < 2 ^ 64)
theorem CMul.ok {i j : Int} (h : CMul i j) : IntMulOk i j := by
  rcases h with ⟨h1, h2⟩ | ⟨h1, h2⟩
  · exact .of_left (intBits_le_64 h1 h2)
  · exact .of_right (intBits_le_64 h1 h2)
theorem op_add : OpR X (binaryOp .Add) (rI0 fun i j => .int (i + j)) := opI0 fun _ _ _ _ _ _ _ q => add_int q
theorem op_sub : OpR X (binaryOp .Sub) (rI0 fun i j => .int (i - j)) := opI0 fun _ _ _ _ _ _ _ q => sub_int q
theorem op_mul : OpR X (binaryOp .Mult) (rI CMul fun i j => .int (i * j)) := opI fun _ _ _ _ _ _ _ hc q => mul_int q hc.ok
theorem op_mod : OpR X (binaryOp .Mod) (rI (fun _ j => 0 < j) fun i j => .int (i % j)) := opI fun i j _ _ _ _ _ hc q => by
  have h1 : (0 : Int) < j := hc
  exact mod_int' (by omega) (by rw [Int.fmod_eq_emod_of_nonneg i (by omega)]; exact q)
theorem op_pow : OpR X (binaryOp .Pow) (rI CPow fun i j => .int (i ^ j.toNat)) := opI fun _ _ _ _ _ _ _ hc q => pow_int_small hc.1 hc.2.1 hc.2.2 q
theorem unI {f : Value → Sem Value} {g : Int → Int}
    (rule : ∀ (i : Int) (t : Tok) (s : Shared) (Q : Value → Shared → Prop) (E : Value → Shared → Prop), Q (.int (g i) s.toks) { s with toks := s.toks + 1 } → wpAny (model X.prog X.w) X.A (f (.int i t)) Q E s) :
    UnR X f (rU fun i => .int (g i)) := by
  intro pins s σ H x v Q I rx h
  obtain ⟨i, rfl, q⟩ := h
  obtain ⟨t, rfl⟩ := rx
  exact rule i t s _ _ ⟨.int (g i), H, I.tok _, ⟨_, rfl⟩, q⟩
theorem un_neg : UnR X (unaryOp .USub) (rU fun i => .int (-i)) := unI fun _ _ _ _ _ q => neg_int q
end
def scal : V → V → Bool
  | .non, .non => true | .non, .int _ => true | .int _, .non => true | .non, .bl _ => true | .bl _, .non => true | .non, .str _ => true | .str _, .non => true
  | .int _, .int _ => true | .bl _, .bl _ => true | .str _, .str _ => true | .byt _, .byt _ => true
  | .int _, .str _ => true | .str _, .int _ => true | .bl _, .str _ => true | .str _, .bl _ => true
  | _, _ => false
def rEq : R2 := fun x y H Q => scal x y = true ∧ Q (.bl (decide (x = y))) H
def rNe : R2 := fun x y H Q => scal x y = true ∧ Q (.bl (!decide (x = y))) H
theorem dec_int {i j : Int} : decide (V.int i = V.int j) = (i == j) := by
  rw [Bool.eq_iff_iff]
  simp
theorem dec_bl {i j : Bool} : decide (V.bl i = V.bl j) = (i == j) := by
  rw [Bool.eq_iff_iff]
  simp
theorem dec_str {i j : Str} : decide (V.str i = V.str j) = (i == j) := by
  rw [Bool.eq_iff_iff]
  simp
theorem dec_byt {i j : Array UInt8} : decide (V.byt i = V.byt j) = (i.toList == j.toList) := by
  rw [Bool.eq_iff_iff]
  cases i
  cases j
  simp
section
variable {X : Cx} {a b c : Expr} {ta tb tc : TE} {pos : Pos}
theorem fin_bl {pins : List (Addr × Obj)} {σ : St} {H : Hp} {s : Shared} {Q : VK} {k k' : Bool} (I : Inv X pins σ H s) (q : Q (.bl k) H) (e : k = k') : EP X pins σ Q (.bool k') s := by
  subst e
  exact ⟨.bl k, H, I, rfl, q⟩
theorem op_eq : OpR X (compareOp .Eq) rEq := by
  intro pins s σ H x y v u Q I rx ry h
  obtain ⟨hs, q⟩ := h
  cases x with
  | non =>
    cases rx
    cases y with
    | non => cases ry; exact PySem.EqNone.eq_none_none (fin_bl I q (by simp))
    | bl j => cases ry; exact PySem.EqNone.eq_none_bool (fin_bl I q (by simp))
    | int j => obtain ⟨t', rfl⟩ := ry; exact PySem.EqNone.eq_none_int (fin_bl I q (by simp))
    | str j => obtain ⟨t', rfl⟩ := ry; exact PySem.EqNone.eq_none_str (fin_bl I q (by simp))
    | _ => exact absurd (show false = true from hs) Bool.false_ne_true
  | bl i =>
    cases rx
    cases y with
    | non => cases ry; exact PySem.EqNone.eq_bool_none (fin_bl I q (by simp))
    | bl j => cases ry; exact eq_bool (fin_bl I q dec_bl)
    | str j => obtain ⟨t', rfl⟩ := ry; exact PySem.EqMixed.eq_bool_str (fin_bl I q (by simp))
    | _ => exact absurd (show false = true from hs) Bool.false_ne_true
  | int i =>
    obtain ⟨t, rfl⟩ := rx
    cases y with
    | non => cases ry; exact PySem.EqNone.eq_int_none (fin_bl I q (by simp))
    | int j => obtain ⟨t', rfl⟩ := ry; exact eq_int (fin_bl I q dec_int)
    | str j => obtain ⟨t', rfl⟩ := ry; exact PySem.EqMixed.eq_int_str (fin_bl I q (by simp))
    | _ => exact absurd (show false = true from hs) Bool.false_ne_true
  | str i =>
    obtain ⟨t, rfl⟩ := rx
    cases y with
    | non => cases ry; exact PySem.EqNone.eq_str_none (fin_bl I q (by simp))
    | bl j => cases ry; exact PySem.EqMixed.eq_str_bool (fin_bl I q (by simp))
    | int j => obtain ⟨t', rfl⟩ := ry; exact PySem.EqMixed.eq_str_int (fin_bl I q (by simp))
    | str j => obtain ⟨t', rfl⟩ := ry; exact eq_str (fin_bl I q dec_str)
    | _ => exact absurd (show false = true from hs) Bool.false_ne_true
  | byt i =>
    obtain ⟨t, rfl⟩ := rx
    cases y with
    | byt j => obtain ⟨t', rfl⟩ := ry; exact PySem.W.eq_bytes (fin_bl I q dec_byt)
    | _ => exact absurd (show false = true from hs) Bool.false_ne_true
  | _ => cases y <;> exact absurd (show false = true from hs) Bool.false_ne_true
theorem op_ne : OpR X (compareOp .NotEq) rNe := by
  intro pins s σ H x y v u Q I rx ry h
  obtain ⟨hs, q⟩ := h
  cases x with
  | non =>
    cases rx
    cases y with
    | non => cases ry; exact PySem.EqNone.ne_none_none (fin_bl I q (by simp))
    | bl j => cases ry; exact PySem.EqNone.ne_none_bool (fin_bl I q (by simp))
    | int j => obtain ⟨t', rfl⟩ := ry; exact PySem.EqNone.ne_none_int (fin_bl I q (by simp))
    | str j => obtain ⟨t', rfl⟩ := ry; exact PySem.EqNone.ne_none_str (fin_bl I q (by simp))
    | _ => exact absurd (show false = true from hs) Bool.false_ne_true
  | bl i =>
    cases rx
    cases y with
    | non => cases ry; exact PySem.EqNone.ne_bool_none (fin_bl I q (by simp))
    | bl j => cases ry; exact ne_bool (fin_bl I q (congrArg not dec_bl))
    | str j => obtain ⟨t', rfl⟩ := ry; exact PySem.EqMixed.ne_bool_str (fin_bl I q (by simp))
    | _ => exact absurd (show false = true from hs) Bool.false_ne_true
  | int i =>
    obtain ⟨t, rfl⟩ := rx
    cases y with
    | non => cases ry; exact PySem.EqNone.ne_int_none (fin_bl I q (by simp))
    | int j => obtain ⟨t', rfl⟩ := ry; exact ne_int (fin_bl I q (congrArg not dec_int))
    | str j => obtain ⟨t', rfl⟩ := ry; exact PySem.EqMixed.ne_int_str (fin_bl I q (by simp))
    | _ => exact absurd (show false = true from hs) Bool.false_ne_true
  | str i =>
    obtain ⟨t, rfl⟩ := rx
    cases y with
    | non => cases ry; exact PySem.EqNone.ne_str_none (fin_bl I q (by simp))
    | bl j => cases ry; exact PySem.EqMixed.ne_str_bool (fin_bl I q (by simp))
    | int j => obtain ⟨t', rfl⟩ := ry; exact PySem.EqMixed.ne_str_int (fin_bl I q (by simp))
    | str j => obtain ⟨t', rfl⟩ := ry; exact ne_str (fin_bl I q (congrArg not dec_str))
    | _ => exact absurd (show false = true from hs) Bool.false_ne_true
  | byt i =>
    obtain ⟨t, rfl⟩ := rx
    cases y with
    | byt j => obtain ⟨t', rfl⟩ := ry; exact PySem.W.ne_bytes (fin_bl I q (congrArg not dec_byt))
    | _ => exact absurd (show false = true from hs) Bool.false_ne_true
  | _ => cases y <;> exact absurd (show false = true from hs) Bool.false_ne_true
theorem op_lt : OpR X (compareOp .Lt) (rI0 fun i j => .bl (decide (i < j))) := opB0 fun _ _ _ _ _ _ _ q => lt_int q
theorem op_le : OpR X (compareOp .LtE) (rI0 fun i j => .bl (decide (i ≤ j))) := opB0 fun _ _ _ _ _ _ _ q => le_int q
theorem op_gt : OpR X (compareOp .Gt) (rI0 fun i j => .bl (decide (j < i))) := opB0 fun _ _ _ _ _ _ _ q => gt_int q
theorem op_ge : OpR X (compareOp .GtE) (rI0 fun i j => .bl (decide (j ≤ i))) := opB0 fun _ _ _ _ _ _ _ q => ge_int q
theorem nomark (b : Expr) {op : CmpOp} (h : op ≠ .In := by decide) (h2 : op ≠ .NotIn := by decide) : behindInMarks op b = false := by
  have e1 : (op == CmpOp.In) = false := by cases op <;> first | rfl | exact absurd rfl h
  have e2 : (op == CmpOp.NotIn) = false := by cases op <;> first | rfl | exact absurd rfl h2
  cases b <;> simp [behindInMarks, e1, e2]
theorem pe_cmpR {op : CmpOp} {r : R2} (ho : OpR X (compareOp op) r) (ha : PE X a ta) (hb : PE X b tb) (hm : behindInMarks op b = false) : PE X (.Compare a [op] [b] pos) (tOp r ta tb) := by
  intro pins s σ H Q I h
  exact wpAny_Compare1 (binT ha hb I h fun v u s2 x y H2 I2 rx ry q => ho pins s2 σ H2 x y v u Q I2 rx ry q) hm
def tTest (t : TE) : TT := fun σ H Q => t σ H fun x H' => ∃ k, x = .bl k ∧ Q k H'
theorem pt_cmpR {op : CmpOp} {r : R2} (ho : OpR X (compareOp op) r) (ha : PE X a ta) (hb : PE X b tb) (hm : behindInMarks op b = false) : PT X (.Compare a [op] [b] pos) (tTest (tOp r ta tb)) := by
  intro pins s σ H Q I h
  refine wpAny_isTrue_Compare1 (thn (ha pins s σ H _ I h) fun v s1 ⟨x, H1, I1, r1, q1⟩ => thn (hb pins s1 σ H1 _ I1 q1) fun u s2 ⟨y, H2, I2, r2, q2⟩ =>
    thn (ho pins s2 σ H2 x y v u _ I2 r1 r2 q2) fun c s3 ⟨z, H3, I3, r3, k, e, q3⟩ => ?_) hm
  subst e
  cases r3
  exact wpAny_truthy_bool ⟨H3, I3, q3⟩
def tChain (r r' : R2) (ta tb tc : TE) : TE := fun σ H Q => ta σ H fun x H1 => tb σ H1 fun y H2 => r x y H2 fun z H3 => ∃ k, z = .bl k ∧
  (if k = true then tc σ H3 fun w' H4 => r' y w' H4 Q else Q (.bl false) H3)
theorem pt_chain {op op' : CmpOp} {r r' : R2} (ho : OpR X (compareOp op) r) (ho' : OpR X (compareOp op') r') (ha : PE X a ta) (hb : PE X b tb) (hc : PE X c tc)
    (hm : lastMarks [op, op'] [b, c] = false := by with_unfolding_all rfl) : PT X (.Compare a [op, op'] [b, c] pos) (tTest (tChain r r' ta tb tc)) := by
  intro pins s σ H Q I h
  refine isTrue_chain (thn (ha pins s σ H _ I h) fun v s1 ⟨x, H1, I1, r1, q1⟩ => test_link (thn (hb pins s1 σ H1 _ I1 q1) fun u s2 ⟨y, H2, I2, r2, q2⟩ =>
    thn (ho pins s2 σ H2 x y v u _ I2 r1 r2 q2) fun d s3 ⟨z, H3, I3, r3, k, e, q3⟩ => ?_)) hm
  subst e
  cases r3
  refine wpAny_truthy_bool ?_
  cases k with
  | false =>
    obtain ⟨k', e', q'⟩ := q3
    cases e'
    exact ite_ff ⟨H3, I3, q'⟩
  | true =>
    refine ite_tt (test_last (thn (hc pins s3 σ H3 _ I3 q3) fun w' s4 ⟨z', H4, I4, r4, q4⟩ => thn (ho' pins s4 σ H4 y z' u w' _ I4 r2 r4 q4) fun d' s5 ⟨z2, H5, I5, r5, k2, e2, q5⟩ => ?_))
    subst e2
    cases r5
    exact wpAny_truthy_bool ⟨H5, I5, q5⟩
theorem line63 : (sizeLine : Nat) < 2 ^ 63 := by rw [sizeLine_eq]; decide
theorem vals1 {x : V} {us : List Value} (r : Vals [x] us) : ∃ u, us = [u] ∧ RelV x u := by
  cases r with
  | cons r1 r2 => cases r2; exact ⟨_, rfl, r1⟩
theorem vals2 {x y : V} {us : List Value} (r : Vals [x, y] us) : ∃ u w', us = [u, w'] ∧ RelV x u ∧ RelV y w' := by
  cases r with
  | cons r1 r2 =>
    cases r2 with
    | cons r3 r4 => cases r4; exact ⟨_, _, rfl, r1, r3⟩
theorem call_abs : CallR X (.builtin "abs") (fun xs H Q => ∃ i, xs = [.int i] ∧ Q (.int (if i < 0 then -i else i)) H) := by
  intro pins s σ H xs us Q I r h
  obtain ⟨i, rfl, q⟩ := h
  obtain ⟨u, rfl, t, rfl⟩ := vals1 r
  exact call_abs_int fun u tk => ⟨.int (if i < 0 then -i else i), H, I.tok _, ⟨_, rfl⟩, q⟩
theorem call_max2 (hc : X.calm = true) : CallR X (.builtin "max") (fun xs H Q => ∃ i j, xs = [.int i, .int j] ∧ Q (.int (if j > i then j else i)) H) := by
  intro pins s σ H xs us Q I r h
  obtain ⟨i, j, rfl, q⟩ := h
  obtain ⟨u, w', rfl, ⟨t, rfl⟩, ⟨t', rfl⟩⟩ := vals2 r
  refine max_two_ints (I.ok.hd hc) fun h' tk k => ⟨_, H, I.kept k, ?_, q⟩
  by_cases hj : j > i
  · rw [if_pos hj, if_pos hj]; exact ⟨_, rfl⟩
  · rw [if_neg hj, if_neg hj]; exact ⟨_, rfl⟩
theorem call_min2 (hc : X.calm = true) : CallR X (.builtin "min") (fun xs H Q => ∃ i j, xs = [.int i, .int j] ∧ Q (.int (if j < i then j else i)) H) := by
  intro pins s σ H xs us Q I r h
  obtain ⟨i, j, rfl, q⟩ := h
  obtain ⟨u, w', rfl, ⟨t, rfl⟩, ⟨t', rfl⟩⟩ := vals2 r
  refine min_two_ints (I.ok.hd hc) fun h' tk k => ⟨_, H, I.kept k, ?_, q⟩
  by_cases hj : j < i
  · rw [if_pos hj, if_pos hj]; exact ⟨_, rfl⟩
  · rw [if_neg hj, if_neg hj]; exact ⟨_, rfl⟩
end
end L2
namespace L2
open PySem PySem.Spec PyProof.Rows
structure ObjM (h : Heap) (x dx C : Addr) (mA : Str → Option Value) : Prop where
  obj : h.get? x = some (PySem.W.instObj C dx)
  ns : h.Ns1 dx mA
  ne : dx ≠ x
theorem lookIn_ns {h : Heap} {dx : Addr} {mA : Str → Option Value} (n : h.Ns1 dx mA) : ∃ od, h.get? dx = some od ∧ ∀ name, PySem.W.lookIn name od = some (mA name) := by
  obtain ⟨o, es, ep, ho, hd, hk, _, hm⟩ := n
  refine ⟨o, ho, fun name => ?_⟩
  have e := hm name
  unfold nsFind findBy at e
  rw [← Array.find?_toList] at e
  unfold PySem.W.lookIn
  rw [hd]
  dsimp only
  split
  · rename_i y q
    rw [q] at e
    exact congrArg some e
  · rename_i q
    rw [q] at e
    have a : es.toList.any (·.refKey) = false := by
      rw [List.any_eq_false]
      intro y hy
      obtain ⟨z, t, hkey⟩ := hk y (Array.mem_toList_iff.mp hy)
      simp [DictEntry.refKey, hkey]
    have a' : ¬ es.toList.any (·.refKey) = true := by rw [a]; exact Bool.false_ne_true
    rw [if_neg a']
    exact congrArg some e
theorem ObjM.look {h : Heap} {x dx C : Addr} {mA : Str → Option Value} (I : ObjM h x dx C mA) : ∃ od, PySem.W.InstAt h x (PySem.W.instObj C dx) C (some od) ∧ ∀ name, PySem.W.lookIn name od = some (mA name) :=
  let ⟨od, ho, hl⟩ := lookIn_ns I.ns
  ⟨od, ⟨I.obj, rfl, rfl, ho⟩, hl⟩
section
variable {prog : Program} {w : World} {A : Around} {E : Value → Shared → Prop} {s : Shared} {K : PySem.W.Frag} {x dx C f : Addr} {mA : Str → Option Value} {name : Str} {v : Value}
theorem get_map {expr : Bool} {Q : Value → Shared → Prop} (X : K.In s.heap) (I : ObjM s.heap x dx C mA) (hg : PySem.W.plainGet K C name = true) (hh : PySem.W.hasDictIn K C = true)
    (ha : PySem.W.findIn K (.ref C) name = some none) (hv : mA name = some v) (hv' : PySem.W.handedIn v = true) (h : Q v { s with toks := s.toks + 1 }) :
    wpAny (model prog w) A (getAttr (.ref x) name expr) Q E s := by
  obtain ⟨od, J, hl⟩ := I.look
  exact PySem.W.get_value X J (PySem.W.plainGet_of hg).1 (PySem.W.findObj_own hh ha rfl (by rw [hl, hv])) hv' h
theorem get_meth {pl : Sem Bool} {Q : Value × List Value → Shared → Prop} (X : K.In s.heap) (I : ObjM s.heap x dx C mA) (hg : PySem.W.plainGet K C name = true)
    (hf : PySem.W.findIn K (.ref C) name = some (some (.ref f))) (ht : PySem.W.isFn K (.ref f) = true) (hv : mA name = none) (h : Q (.ref f, [.ref x]) s) :
    wpAny (model prog w) A (getMethod (.ref x) name pl) Q E s := by
  obtain ⟨od, J, hl⟩ := I.look
  exact PySem.W.method_fn X J (PySem.W.plainGet_of hg).1 (PySem.W.plainGet_of hg).2 hf (beq_iff_eq.mp ht) (by show (PySem.W.lookIn name od).map (·.isSome) = some false; rw [hl, hv]; rfl) h
theorem set_map {ns : List Str} {Q : Unit → Shared → Prop} (X : K.In s.heap) (I : ObjM s.heap x dx C mA)
    (hs : PySem.W.findIn K (.ref C) "__setattr__" = some (some (.builtin "object.__setattr__"))) (hp : PySem.W.plainOver K C = true) (ht : PySem.W.takerIn K C name = some none) (hh : PySem.W.hasDictIn K C = true)
    (hw : PySem.Within mA ns) (hsz : ns.length ≤ sizeLine)
    (h : ∀ h', ObjM h' x dx C (fun y => if y = name then some v else mA y) → Heap.SameBut dx s.heap h' → Q () { s with heap := h', toks := s.toks + 2 }) :
    wpAny (model prog w) A (setAttr (.ref x) name v) Q E s := by
  obtain ⟨od, J, hl⟩ := I.look
  refine PySem.W.set_plain X J hs (PySem.W.osa_open (s := { s with toks := s.toks + 1 }) (r := none) X J hp ht fun b => ?_)
  obtain ⟨cd, hc, hd'⟩ := PySem.W.any_some hh
  have hx : s.heap.get? x = some ⟨.ref C, some dx, .plain, #[]⟩ := I.obj
  refine wpAny_bind (wpAny_pure (wpAny_bind (wpAny_bind (wpAny_loadPart hx (wpAny_bind (PySem.W.Looks.here (s := { s with toks := s.toks + 1 }) (PySem.W.looks_clsIn X hc) ?_))))))
  rw [hd']
  refine wpAny_pure (a := some dx) (wpAny_bind (wpAny_pure (wpAny_bind ?_)))
  refine wpAny_nsSet1 (s := { s with toks := s.toks + 1 }) I.ns fun h' hn2 hs2 => ?_
  obtain ⟨oD, esD, epD, hoD, hdD, hcD⟩ := hn2.count (PySem.Within.cons name v hw)
  refine wpAny_bind (wpAny_lookBehind hoD (by rw [hdD]; exact pastItsLine_dict (Nat.le_trans hcD (by rw [List.length_cons]; omega))) ?_)
  exact wpAny_pure (h _ ⟨(hs2.2 _ (Ne.symm I.ne)).trans I.obj, hn2, I.ne⟩ hs2)
theorem make_map {R : Result → Shared → Prop} {vs : List Value} {kw : List (Str × Value)} (X : K.In s.heap) (hm : PySem.W.makesIn K C = true)
    (hi : PySem.W.findIn K (.ref C) "__init__" = some (some (.ref f))) (hf : PySem.W.typeIn K (.ref f) = some (.type "function"))
    (h : codeAny (model prog w) (A.under (.builtin "type.__call__" ⟨.ref C :: vs, kw⟩)) (.call (.ref f) ⟨.ref (s.heap.objs.size + 1) :: vs, kw⟩) (PySem.W.InitBack (s.heap.objs.size + 1) R)
      { s with heap := (s.heap.push PySem.W.emptyDict).push (PySem.W.instObj C s.heap.objs.size) }) :
    codeAny (model prog w) A (.call (.ref C) ⟨vs, kw⟩) R s := by
  obtain ⟨hh, g, d, t, os⟩ := s
  exact PySem.W.make_core (PySem.W.makes_of X hm) (PySem.W.looks_findIn X hi) (fun self => PySem.W.bind_fn X self hf) (.inl rfl) h
end
def putF (f : Str) (v : V) : List (Str × V) → List (Str × V)
  | [] => [(f, v)]
  | (g, x) :: r => if g = f then (g, v) :: r else (g, x) :: putF f v r
theorem lookup_putF (f g : Str) (v : V) : ∀ fs : List (Str × V), (putF f v fs).lookup g = if g = f then some v else fs.lookup g
  | [] => by
    show List.lookup g [(f, v)] = _
    by_cases h : g = f
    · have hb : (g == f) = true := beq_iff_eq.mpr h
      simp only [List.lookup, hb, if_pos h]
    · have hb : (g == f) = false := beq_eq_false_iff_ne.mpr h
      simp only [List.lookup, hb, if_neg h]
  | (k, x) :: r => by
    have ih := lookup_putF f g v r
    rw [show putF f v ((k, x) :: r) = (if k = f then (k, v) :: r else (k, x) :: putF f v r) from rfl]
    by_cases hk : k = f
    · rw [if_pos hk]
      by_cases h : g = k
      · have hb : (g == k) = true := beq_iff_eq.mpr h
        simp only [List.lookup, hb, if_pos (h.trans hk)]
      · have hb : (g == k) = false := beq_eq_false_iff_ne.mpr h
        simp only [List.lookup, hb, if_neg (fun e : g = f => h (e.trans hk.symm))]
    · rw [if_neg hk]
      by_cases h : g = k
      · have hb : (g == k) = true := beq_iff_eq.mpr h
        simp only [List.lookup, hb, if_neg (fun e : g = f => hk (h.symm.trans e))]
      · have hb : (g == k) = false := beq_eq_false_iff_ne.mpr h
        simp only [List.lookup, hb]
        exact ih
theorem keys_putF (f : Str) (v : V) : ∀ fs : List (Str × V), f ∈ (putF f v fs).map (·.1) ∧ ∀ g, g ∈ fs.map (·.1) → g ∈ (putF f v fs).map (·.1)
  | [] => ⟨by simp [putF], fun g h => by simp at h⟩
  | (k, x) :: r => by
    obtain ⟨i1, i2⟩ := keys_putF f v r
    rw [show putF f v ((k, x) :: r) = (if k = f then (k, v) :: r else (k, x) :: putF f v r) from rfl]
    by_cases hk : k = f
    · rw [if_pos hk]
      subst hk
      exact ⟨by simp, fun g h => by simpa using h⟩
    · rw [if_neg hk]
      refine ⟨?_, fun g h => ?_⟩
      · rw [List.map_cons]
        exact List.mem_cons_of_mem _ i1
      · rw [List.map_cons] at h ⊢
        rcases List.mem_cons.mp h with e | e
        · exact List.mem_cons.mpr (.inl e)
        · exact List.mem_cons_of_mem _ (i2 g e)
theorem length_putF (f : Str) (v : V) : ∀ fs : List (Str × V), (putF f v fs).length ≤ fs.length + 1
  | [] => by simp [putF]
  | (k, x) :: r => by
    have ih := length_putF f v r
    rw [show putF f v ((k, x) :: r) = (if k = f then (k, v) :: r else (k, x) :: putF f v r) from rfl]
    by_cases hk : k = f
    · rw [if_pos hk, List.length_cons, List.length_cons]; omega
    · rw [if_neg hk, List.length_cons, List.length_cons]; omega
theorem RelO.some_of {v : V} {o : Option Value} (r : RelO (some v) o) : ∃ u, o = some u ∧ RelV v u := by
  cases o with
  | none => exact (show False from r).elim
  | some u => exact ⟨u, rfl, r⟩
theorem RelO.none_of {o : Option Value} (r : RelO none o) : o = none := by
  cases o with
  | none => rfl
  | some u => exact (show False from r).elim
theorem handed_of {v : V} {u : Value} (r : RelV v u) : PySem.W.handedIn u = true := by
  cases v with
  | non => cases (show u = Value.none from r); rfl
  | bl b => cases (show u = Value.bool b from r); rfl
  | int i => obtain ⟨t, e⟩ := (show ∃ t, u = Value.int i t from r); cases e; rfl
  | str x => obtain ⟨t, e⟩ := (show ∃ t, u = Value.str x t from r); cases e; rfl
  | byt b => obtain ⟨t, e⟩ := (show ∃ t, u = Value.bytes b t from r); cases e; rfl
  | flt b => obtain ⟨t, e⟩ := (show ∃ t, u = Value.float b t from r); cases e; rfl
  | ref a => cases (show u = Value.ref a from r); rfl
  | ty n => cases (show u = Value.type n from r); rfl
section
variable {P : Program} {w : World} {H H' : Hp} {h h' : Heap} {a C dx : Addr} {fs fs' : List (Str × V)}
theorem ins_get (hok : HOk P w H h) (e : H a = some (.ins C dx fs)) : ∃ mA, ObjM h a dx C mA ∧ (∀ f, RelO (fs.lookup f) (mA f)) ∧ PySem.Within mA (fs.map (·.1)) ∧ fs.length ≤ 1000 ∧ H dx = some (.own a) := by
  obtain ⟨d, z, ne, ob, mA, n, r, q⟩ := (show ObjOk P w H h a (.ins C dx fs) from hok a _ e)
  exact ⟨mA, ⟨ob, n, ne⟩, r, q, z, d⟩
end
structure Cls (K : PySem.W.Frag) (C : Addr) : Prop where
  pg : PySem.W.plainGet K C Str.empty = true
  hd : PySem.W.hasDictIn K C = true
  po : PySem.W.plainOver K C = true
  sa : PySem.W.findIn K (.ref C) "__setattr__" = some (some (.builtin "object.__setattr__"))
theorem Cls.get {K : PySem.W.Frag} {C : Addr} (c : Cls K C) (f : Str) : PySem.W.plainGet K C f = true := c.pg
def NoAttr (K : PySem.W.Frag) (C : Addr) (f : Str) : Prop := PySem.W.findIn K (.ref C) f = some none
theorem NoAttr.taker {K : PySem.W.Frag} {C : Addr} {f : Str} (n : NoAttr K C f) : PySem.W.takerIn K C f = some none := by
  unfold PySem.W.takerIn
  rw [show PySem.W.findIn K (.ref C) f = some none from n]
  rfl
structure Con (K : PySem.W.Frag) (C : Addr) (f : Str) (v : V) (u : Value) : Prop where
  at_ : PySem.W.findIn K (.ref C) f = some (some u)
  rel : RelV v u
  get : PySem.W.specialIn K u "__get__" = some none
  cp : PySem.W.copiedNames.contains f = false
structure Meth (K : PySem.W.Frag) (C : Addr) (m : Str) (f : Addr) : Prop where
  at_ : PySem.W.findIn K (.ref C) m = some (some (.ref f))
  fn : PySem.W.isFn K (.ref f) = true
  kp : PySem.W.keepIn K (.ref f) = true
section
variable {X : Cx} {pins : List (Addr × Obj)} {σ : St} {H : Hp} {s : Shared} {a C dx : Addr} {fs : List (Str × V)} {f : Str} {v : V} {A : Around} {E : Value → Shared → Prop}
theorem getattr_ok {b : Bool} {Q : Value → Shared → Prop} (I : Inv X pins σ H s) (e : H a = some (.ins C dx fs)) (c : Cls X.K C) (n : NoAttr X.K C f) (l : fs.lookup f = some v)
    (h : ∀ u s', Inv X pins σ H s' → RelV v u → Q u s') : wpAny (model X.prog X.w) A (getAttr (.ref a) f b) Q E s := by
  obtain ⟨mA, O, r, _, _, _⟩ := ins_get I.hok e
  obtain ⟨u, hu, ru⟩ := RelO.some_of (v := v) (o := mA f) (by rw [← l]; exact r f)
  exact get_map I.kIn O (c.get f) c.hd n hu (handed_of ru) (h u _ (I.tok _) ru)
theorem getmeth_ok {m : Str} {g : Addr} {pl : Sem Bool} {Q : Value × List Value → Shared → Prop} (I : Inv X pins σ H s) (e : H a = some (.ins C dx fs)) (c : Cls X.K C) (k : Meth X.K C m g) (l : fs.lookup m = none)
    (h : Q (.ref g, [.ref a]) s) : wpAny (model X.prog X.w) A (getMethod (.ref a) m pl) Q E s := by
  obtain ⟨mA, O, r, _, _, _⟩ := ins_get I.hok e
  have hn : mA m = none := RelO.none_of (by rw [← l]; exact r m)
  exact get_meth I.kIn O (c.get m) k.at_ k.fn hn h
theorem setattr_ok {y : V} {u : Value} {Q : Unit → Shared → Prop} (I : Inv X pins σ H s) (e : H a = some (.ins C dx fs)) (c : Cls X.K C) (n : NoAttr X.K C f) (hl : fs.length < 1000) (ry : RelV y u)
    (h : ∀ s', Inv X pins σ (upd H a (.ins C dx (putF f y fs))) s' → Q () s') : wpAny (model X.prog X.w) A (setAttr (.ref a) f u) Q E s := by
  obtain ⟨mA, O, r, wi, _, ho⟩ := ins_get I.hok e
  have hz : (fs.map (·.1)).length ≤ sizeLine := by rw [List.length_map, sizeLine_eq]; omega
  refine set_map I.kIn O c.sa c.po n.taker c.hd wi hz fun h' O' sb => h _ ?_
  have hd : ∃ o, h'.get? dx = some o := let ⟨o, _, _, e', _⟩ := O'.ns; ⟨o, e'⟩
  refine I.write (x := a) (e := dx) (by rw [e]; exact True.intro) (.inr ho) (fun b q hb z => (sb.2 b hb).trans z) hd ?_
  refine ⟨by rw [upd_ne O.ne]; exact ho, ?_, O.ne, O'.obj, _, O'.ns, fun g => ?_, fun g hg => ?_⟩
  · have := length_putF f y fs; omega
  · show RelO ((putF f y fs).lookup g) (if g = f then some u else mA g)
    rw [lookup_putF]
    by_cases q : g = f
    · rw [if_pos q, if_pos q]; exact ry
    · rw [if_neg q, if_neg q]; exact r g
  · by_cases q : g = f
    · rw [q]; exact (keys_putF f y fs).1
    · refine (keys_putF f y fs).2 g (wi g fun z => hg ?_)
      show (if g = f then some u else mA g) = none
      rw [if_neg q]; exact z
theorem Inv.made (I : Inv X pins σ H s) : Inv X pins σ (upd (upd H s.heap.objs.size (.own (s.heap.objs.size + 1))) (s.heap.objs.size + 1) (.ins C s.heap.objs.size []))
    { s with heap := (s.heap.push PySem.W.emptyDict).push (PySem.W.instObj C s.heap.objs.size) } := by
  have e1 : (s.heap.push PySem.W.emptyDict).get? s.heap.objs.size = some PySem.W.emptyDict := Heap.get?_push_size s.heap rfl
  have e2 : ((s.heap.push PySem.W.emptyDict).push (PySem.W.instObj C s.heap.objs.size)).get? (s.heap.objs.size + 1) = some (PySem.W.instObj C s.heap.objs.size) := by
    have := Heap.get?_push_size (s.heap.push PySem.W.emptyDict) (o := PySem.W.instObj C s.heap.objs.size) rfl
    rwa [Heap.size_push] at this
  have e3 : (s.heap.push PySem.W.emptyDict).Ns s.heap.objs.size (fun _ => none) := ⟨PySem.W.emptyDict, #[], _, e1, rfl, (fun e he => absurd he (by simp)), fun _ => rfl⟩
  have I1 := I.laid (a := s.heap.objs.size) (o := .own (s.heap.objs.size + 1)) (h' := s.heap.push PySem.W.emptyDict) (t' := s.toks) (fun b u q => Heap.get?_push_of_some _ q) (Nat.le_refl _) ⟨_, e1⟩
  refine I1.laid (a := s.heap.objs.size + 1) (o := .ins C s.heap.objs.size []) (t' := s.toks) (fun b u q => Heap.get?_push_of_some _ q) (Nat.le_of_eq (Heap.size_push _ _)) ?_
  have ne : s.heap.objs.size ≠ s.heap.objs.size + 1 := Nat.ne_of_lt (Nat.lt_succ_self _)
  refine ⟨by rw [upd_ne ne, upd_same], Nat.zero_le _, ne, e2, fun _ => none, (Heap.Ns1.of_empty e3).at fun o q => Heap.get?_push_of_some _ q, fun _ => True.intro, fun y hy => absurd rfl hy⟩
theorem attr_of {prog : Program} {w : World} {env : Env} {e : Expr} {f : Str} {pos : Pos} {s : Shared} {Q : Value → Shared → Prop} (hb : attributeBase e f env (eval e env) = eval e env)
    (h : wpAny (model prog w) A (eval e env) (fun o s₁ => wpAny (model prog w) A (getAttr o f true) Q E s₁) E s) : wpAny (model prog w) A (eval (.Attribute e f pos) env) Q E s :=
  Attribute_any_ h (by rw [arm_eval_Attribute, hb])
end
def tFld (K : PySem.W.Frag) (ta : TE) (f : Str) : TE := fun σ H Q => ta σ H fun x H1 => ∃ a C dx fs v, x = .ref a ∧ H1 a = some (.ins C dx fs) ∧ Cls K C ∧ NoAttr K C f ∧ fs.lookup f = some v ∧ Q v H1
def sFld (K : PySem.W.Frag) (ta tv : TE) (f : Str) : TS := fun D σ H => tv σ H fun y H1 => ta σ H1 fun x H2 => ∃ a C dx fs, x = .ref a ∧ H2 a = some (.ins C dx fs) ∧ Cls K C ∧ NoAttr K C f ∧ fs.length < 1000 ∧
  D.nx σ (upd H2 a (.ins C dx (putF f y fs)))
section
variable {X : Cx} {o e value : Expr} {f : Str} {pos pos' tpos : Pos} {ta tv : TE}
theorem pe_fld (he : PE X e ta) (hb : attributeBase e f X.env (eval e X.env) = eval e X.env) : PE X (.Attribute e f pos) (tFld X.K ta f) := by
  intro pins s σ H Q I h
  refine attr_of hb (thn (he pins s σ H _ I h) fun u s1 ⟨x, H1, I1, rx, a, C, dx, fs, v, ex, ea, c, n, l, q⟩ => ?_)
  subst ex
  obtain rfl : u = Value.ref a := rx
  exact getattr_ok I1 ea c n l fun u' s2 I2 ru => ⟨v, H1, I2, ru, q⟩
theorem ps_fld (ha : PE X o ta) (hv : PE X value tv) (hs : swapsWith value (some (.Attribute o f pos')) pos.line X.env = pure false) : PS X (.Assign [.Attribute o f pos'] value pos) (sFld X.K ta tv f) := by
  intro pins s σ H D I h
  refine plainObj_wpAny_Assign_Attribute (thn (hv pins s σ H _ I h) fun u s1 ⟨y, H1, I1, ry, q⟩ => thn (ha pins s1 σ H1 _ I1 q) fun ov s2 ⟨x, H2, I2, rx, a, C, dx, fs, ex, ea, c, n, l, q2⟩ => ?_) hs
  subst ex
  obtain rfl : ov = Value.ref a := rx
  exact setattr_ok I2 ea c n l ry fun s3 I3 => ⟨σ, _, I3, q2⟩
end
section
variable {X : Cx} {pins : List (Addr × Obj)} {σ : St} {H : Hp} {s : Shared} {A : Around} {E : Value → Shared → Prop} {Q : Value → Shared → Prop} {c : Value} {b : Bool}
inductive TyOf (K : PySem.W.Frag) (H : Hp) : V → Value → Prop where
  | non : TyOf K H .non (.type "NoneType")
  | bl (x : Bool) : TyOf K H (.bl x) (.type "bool")
  | int (i : Int) : TyOf K H (.int i) (.type "int")
  | str (x : Str) : TyOf K H (.str x) (.type "str")
  | flt (x : UInt64) : TyOf K H (.flt x) (.type "float")
  | lst {a : Addr} {xs : List V} (e : H a = some (.lst xs)) : TyOf K H (.ref a) (.type "list")
  | frz {a : Addr} {o : Obj} {xs : List V} (e : H a = some (.frz o (.lst xs))) : TyOf K H (.ref a) (.type "list")
  | tup {a : Addr} {xs : List V} (e : H a = some (.tup xs)) : TyOf K H (.ref a) (.type "tuple")
  | dK {a : Addr} {kvs : List (Key × V)} (e : H a = some (.dK kvs)) : TyOf K H (.ref a) (.type "dict")
  | dT {a : Addr} {kvs : List (List Key × V)} (e : H a = some (.dT kvs)) : TyOf K H (.ref a) (.type "dict")
  | ins {a C dx : Addr} {fs : List (Str × V)} (e : H a = some (.ins C dx fs)) (cl : Cls K C) (ha : PySem.W.findIn K (.ref C) "__class__" = some (some (.builtin "object.__class__")))
      (hn : PySem.W.specialIn K (.builtin "object.__class__") "__get__" = some (some (.builtin "getset_descriptor.__get__"))) (htk : PySem.W.takesIn K (.builtin "object.__class__") = some true)
      (hm : PySem.W.mroIn K C (.type "object") = some true) : TyOf K H (.ref a) (.ref C)
theorem isinst_ok {x : V} {u t : Value} (I : Inv X pins σ H s) (rx : RelV x u) (ty : TyOf X.K H x t) (e : PySem.W.kitOne X.K t c = some b) (h : ∀ tk, Q (.bool b) { s with toks := tk }) :
    wpAny (model X.prog X.w) A (call (.builtin "isinstance") [u, c]) Q E s := by
  cases ty with
  | non => cases (show u = Value.none from rx); exact PySem.W.kia_one PySem.W.kitx_none I.kIn True.intro e (fun z => nomatch z) h
  | bl y => cases (show u = Value.bool y from rx); exact PySem.W.kia_one PySem.W.kitx_bool I.kIn True.intro e (fun z => nomatch z) h
  | int i => obtain ⟨t, q⟩ := (show ∃ t, u = Value.int i t from rx); cases q; exact PySem.W.kia_one PySem.W.kitx_int I.kIn True.intro e (fun z => nomatch z) h
  | str y => obtain ⟨t, q⟩ := (show ∃ t, u = Value.str y t from rx); cases q; exact PySem.W.kia_one PySem.W.kitx_str I.kIn True.intro e (fun z => nomatch z) h
  | flt y => obtain ⟨t, q⟩ := (show ∃ t, u = Value.float y t from rx); cases q; exact PySem.W.kia_one PySem.W.kitx_float I.kIn True.intro e (fun z => nomatch z) h
  | @lst a xs ea =>
    cases (show u = Value.ref a from rx)
    obtain ⟨_, _, n, _, h1⟩ := (show ObjOk X.prog X.w H s.heap a (.lst xs) from I.hok a _ ea)
    exact PySem.W.kia_one PySem.W.kitx_list I.kIn ⟨_, h1, rfl⟩ e (fun z => nomatch z) h
  | @frz a ob xs ea =>
    cases (show u = Value.ref a from rx)
    obtain ⟨_, _, _, n, _, h1⟩ := (show ObjOk X.prog X.w H s.heap a (.frz ob (.lst xs)) from I.hok a _ ea)
    exact PySem.W.kia_one PySem.W.kitx_list I.kIn ⟨_, h1, rfl⟩ e (fun z => nomatch z) h
  | @tup a xs ea =>
    cases (show u = Value.ref a from rx)
    obtain ⟨_, _, _, p⟩ := (show ObjOk X.prog X.w H s.heap a (.tup xs) from I.hok a _ ea)
    obtain ⟨o, h1, h2, _⟩ := p
    exact PySem.W.kia_one PySem.W.kitx_tuple I.kIn ⟨o, h1, h2⟩ e (fun z => nomatch z) h
  | @dK a kvs ea =>
    cases (show u = Value.ref a from rx)
    obtain ⟨_, _, vs, _, p⟩ := (show ObjOk X.prog X.w H s.heap a (.dK kvs) from I.hok a _ ea)
    obtain ⟨o, es, ep, h1, h2, _⟩ := p
    exact PySem.W.kia_one PySem.W.kitx_dict I.kIn ⟨o, h1, h2.1⟩ e (fun z => nomatch z) h
  | @dT a kvs ea =>
    cases (show u = Value.ref a from rx)
    obtain ⟨_, _, xs, _, o, es, ep, h1, h2, _⟩ := (show ObjOk X.prog X.w H s.heap a (.dT kvs) from I.hok a _ ea)
    exact PySem.W.kia_one PySem.W.kitx_dict I.kIn ⟨o, h1, h2.1⟩ e (fun z => nomatch z) h
  | @ins a C dx fs ea cl ha hn htk hm =>
    cases (show u = Value.ref a from rx)
    obtain ⟨mA, O, _⟩ := ins_get I.hok ea
    obtain ⟨od, J, _⟩ := O.look
    exact PySem.W.kia_one (PySem.W.kitx_own (cl.get _) cl.hd ha hn htk hm) I.kIn J e (fun z => nomatch z) h
end
end L2
namespace L2
open PySem PySem.Spec PyProof.Rows
structure Room (k : Nat) (A : Around) : Prop where
  hd : A.handled = none
  dp : A.depth + 3 * k + 5 < recursionLimit
  un : A.units + 16 * k + 200 < cLine
theorem Room.mono {j k : Nat} {A : Around} (r : Room k A) (h : j ≤ k) : Room j A := ⟨r.hd, by have := r.dp; omega, by have := r.un; omega⟩
theorem Room.deeper {k : Nat} {A : Around} (r : Room (k + 1) A) (env : Env) : Room k (A.deeper env) :=
  ⟨r.hd, by have := r.dp; show A.depth + 1 + 3 * k + 5 < _; omega, by have := r.un; show A.units + 3 + 16 * k + 200 < _; omega⟩
theorem make_depth {A : Around} {C : Addr} {us : List Value} {kw : List (Str × Value)} : (A.under (.builtin "type.__call__" ⟨.ref C :: us, kw⟩)).depth = A.depth + 1 := by
  first | rfl | simp [Around.under, Code.weight, Code.isCreation, Code.isGuard, Code.isCaller, Code.frames, Code.isFrame, guardIds]
theorem make_units {A : Around} {C : Addr} {us : List Value} {kw : List (Str × Value)} : (A.under (.builtin "type.__call__" ⟨.ref C :: us, kw⟩)).units = A.units + 1 := by
  first | rfl | simp [Around.under, Code.cUnits, Code.frames, Code.isFrame]
theorem Room.make {k : Nat} {A : Around} (r : Room (k + 1) A) (C : Addr) (us : List Value) (kw : List (Str × Value)) : Room k (A.under (.builtin "type.__call__" ⟨.ref C :: us, kw⟩)) :=
  ⟨r.hd, by have := r.dp; rw [make_depth]; omega, by have := r.un; rw [make_units]; omega⟩
theorem Room.depth {k : Nat} {A : Around} (r : Room k A) : A.depth < recursionLimit := by have := r.dp; omega
theorem Room.units {k : Nat} {A : Around} (r : Room k A) : A.units + 64 < cLine := by have := r.un; omega
def tNil : TA := fun _ H Q => Q [] H
def tCons (ta : TE) (tr : TA) : TA := fun σ H Q => ta σ H fun x H1 => tr σ H1 fun xs H2 => Q (x :: xs) H2
section
variable {X : Cx} {e : Expr} {es : List Expr} {te : TE} {t : TA} {pos : Pos}
theorem pa_nil : PA X [] tNil := fun _ _ _ _ H Q I h => Calls.spliced_nil ⟨[], H, I, .nil, h⟩
theorem pa_cons (ha : PE X e te) (hr : PA X es t) (hs : starEach (e :: es) X.env = (false, eval e X.env) :: starEach es X.env := by rfl) : PA X (e :: es) (tCons te t) := by
  intro pos pins s σ H Q I h
  rw [hs]
  show wpAny _ _ (spliced ((false, eval e X.env) :: backTo pos (starEach es X.env))) _ _ s
  refine Calls.spliced_cons (thn (ha pins s σ H _ I h) fun u s1 ⟨x, H1, I1, r1, q1⟩ => ?_)
  exact thn (hr pos pins s1 σ H1 _ I1 q1) fun us s2 ⟨xs, H2, I2, r2, q2⟩ => ⟨x :: xs, H2, I2, .cons r1 r2, q2⟩
def tTup (t : TA) : TE := fun σ H Q => t σ H fun xs H1 => xs.length ≤ sizeLine ∧ ∀ p, H1 p = none → Q (.ref p) (upd H1 p (.tup xs))
def tLst (t : TA) : TE := fun σ H Q => t σ H fun xs H1 => xs.length ≤ sizeLine ∧ ∀ p, H1 p = none → Q (.ref p) (upd H1 p (.lst xs))
theorem pe_tup {x1} (h : PA X es t) : PE X (.Tuple es x1 pos) (tTup t) := by
  intro pins s σ H Q I hq
  refine wpAny_Tuple_spliced (thn (h pos pins s σ H _ I hq) fun us s1 ⟨xs, H1, I1, r, z, q⟩ => ⟨by rw [← r.length]; exact z, ?_⟩)
  have hf : H1 s1.heap.objs.size = none := I1.hok.fresh (Nat.le_refl _)
  refine ⟨.ref s1.heap.objs.size, upd H1 s1.heap.objs.size (.tup xs), I1.laid (t' := s1.toks) (fun b u e => Heap.get?_push_of_some _ e) (Nat.le_refl _) ?_, rfl, q _ hf⟩
  exact ⟨z, us, r, ⟨_, Heap.get?_push_size _ rfl, rfl, _, rfl⟩⟩
theorem pe_lst (h : PA X es t) : PE X (.List es pos) (tLst t) := by
  intro pins s σ H Q I hq
  refine wpAny_List_spliced (thn (h pos pins s σ H _ I hq) fun us s1 ⟨xs, H1, I1, r, z, q⟩ => ⟨by rw [← r.length]; exact z, ?_⟩)
  have hf : H1 s1.heap.objs.size = none := I1.hok.fresh (Nat.le_refl _)
  refine ⟨.ref s1.heap.objs.size, upd H1 s1.heap.objs.size (.lst xs), I1.laid (t' := s1.toks) (fun b u e => Heap.get?_push_of_some _ e) (Nat.le_refl _) ?_, rfl, q _ hf⟩
  exact ⟨z, us, 0, r, Heap.get?_push_size _ rfl⟩
end
abbrev Sp := List V → Hp → VK → XK → Prop
abbrev CXT := List Env → Hp → Shared → XK → Value → Shared → Prop
structure Env0 (P : Program) (w : World) (K : PySem.W.Frag) (mg : Str → Option Value) (base : Heap) (A : Around) (outer : List Env) (s : Shared) (H : Hp) : Prop where
  frames : A.frames = some outer
  mod : Mod K mg base
  bs : ∀ b o, base.get? b = some o → s.heap.get? b = some o ∧ H b = none
  bsz : base.objs.size ≤ s.heap.objs.size
  funs : s.heap.FunFrames base outer
  frf : ∀ b ∈ frs outer, H b = none
  hok : HOk P w H s.heap
  bare : AllBare s.gens
def CE (outer : List Env) (P : Program) (w : World) (H : Hp) (s : Shared) (Q : VK) (u : Value) (s' : Shared) : Prop :=
  ∃ v H', s'.os = s.os ∧ AllBare s'.gens ∧ Un (frs outer) [] H H' s.heap s'.heap ∧ HOk P w H' s'.heap ∧ RelV v u ∧ Q v H'
def CR (CX : CXT) (outer : List Env) (P : Program) (w : World) (H : Hp) (s : Shared) (Q : VK) (E : XK) (r : Result) (s' : Shared) : Prop :=
  match r with
  | .ok (.ret u) => CE outer P w H s Q u s'
  | .ok _ => False
  | .error e => CX outer H s E e s'
structure FnOk (P : Program) (w : World) (K : PySem.W.Frag) (mg : Str → Option Value) (base : Heap) (CX : CXT) (k : Nat) (f : Addr) (fd : FuncData) (ps : List Str) (sp : Sp) : Prop where
  len : ∀ vs H Q E, sp vs H Q E → vs.length = ps.length
  run : ∀ (A : Around) (outer : List Env) (s : Shared) (H : Hp) (args : Args) (us : List Value) (vs : List V) (Q : VK) (E : XK), Room k A → Env0 P w K mg base A outer s H → BindsTo s fd args (ps.zip us) → Vals vs us → sp vs H Q E →
    codeAny (model P w) A (.call (.ref f) args) (CR CX outer P w H s Q E) s
theorem Env0.make {P : Program} {w : World} {K : PySem.W.Frag} {mg : Str → Option Value} {base : Heap} {A : Around} {outer : List Env} {s : Shared} {H : Hp} (e : Env0 P w K mg base A outer s H) (C : Addr) (us : List Value) (kw : List (Str × Value)) :
    Env0 P w K mg base (A.under (.builtin "type.__call__" ⟨.ref C :: us, kw⟩)) outer s H := ⟨by first | exact e.frames | (simpa [Around.under, Code.envs, Code.isFrame, pushEnvs] using e.frames), e.mod, e.bs, e.bsz, e.funs, e.frf, e.hok, e.bare⟩
section
variable {X : Cx} {pins : List (Addr × Obj)} {σ : St} {H : Hp} {s s' : Shared}
theorem Inv.env0 (I : Inv X pins σ H s) : Env0 X.prog X.w X.K X.mg X.base X.A X.stack s H :=
  ⟨I.ok.frames, I.ok.mod, I.bs, Nat.le_trans I.ok.bsz I.sz, I.stack, I.stkFree, I.hok, I.bare⟩
theorem Inv.after {Q : VK} {u : Value} (I : Inv X pins σ H s) (h : CE X.stack X.prog X.w H s Q u s') : EP X pins σ Q u s' := by
  obtain ⟨v, H', os, bare, un, hok, r, q⟩ := h
  obtain ⟨hh, g, d, t, os'⟩ := s'
  obtain rfl : os' = s.os := os
  exact ⟨v, H', I.call (h' := hh) (g' := g) (d' := d) (t' := t) (ch := []) un hok bare (fun b z => absurd z (by simp)), r, q⟩
end
def tCall (sp : Sp) (dvs : List V) (E : XK) (t : TA) : TE := fun σ H Q => t σ H fun vs H1 => sp (vs ++ dvs) H1 Q E
def tMeth (C : Addr) (m : Str) (sp : Sp) (dvs : List V) (E : XK) (ta : TE) (t : TA) : TE := fun σ H Q => ta σ H fun x H1 => ∃ a dx fs, x = .ref a ∧ H1 a = some (.ins C dx fs) ∧ fs.lookup m = none ∧
  t σ H1 fun vs H2 => sp (x :: (vs ++ dvs)) H2 Q E
def tMake (C : Addr) (sp : Sp) (dvs : List V) (E : XK) (t : TA) : TE := fun σ H Q => t σ H fun vs H1 => ∀ x dx, H1 x = none → H1 dx = none → dx ≠ x →
  sp (.ref x :: (vs ++ dvs)) (upd (upd H1 dx (.own x)) x (.ins C dx [])) (fun v H2 => v = .non ∧ Q (.ref x) H2) E
def Binds (K : PySem.W.Frag) (fd : FuncData) (ps : List Str) (ds : List Value) : Prop :=
  ∀ (s : Shared) (us : List Value), K.In s.heap → (us ++ ds).length = ps.length → BindsTo s fd ⟨us, []⟩ (ps.zip (us ++ ds))
theorem Binds.all {K : PySem.W.Frag} {fd : FuncData} {ps : List Str} (h : ∀ us : List Value, us.length = ps.length → bindArgs fd ⟨us, []⟩ = pure (ps.zip us)) : Binds K fd ps [] := fun s us _ hl => by
  rw [List.append_nil] at hl ⊢
  exact .of_eq (h us hl)
def Passes (CX : CXT) (X : Cx) (E : XK) : Prop := ∀ (pins : List (Addr × Obj)) (σ : St) (H : Hp) (s : Shared) (e : Value) (s' : Shared), Inv X pins σ H s → CX X.stack H s E e s' → X.xe e s'
section
variable {X : Cx} {CX : CXT} {k : Nat} {f C : Addr} {fd : FuncData} {ps : List Str} {sp : Sp} {dvs : List V} {ds : List Value} {E : XK} {x m : Str} {p pos apos : Pos} {e o : Expr} {es : List Expr} {ta : TE} {t : TA}
theorem run_fn {pins : List (Addr × Obj)} {σ : St} {H : Hp} {s : Shared} {Q : VK} {us : List Value} {vs : List V} (F : FnOk X.prog X.w X.K X.mg X.base CX k f fd ps sp) (hr : Room k X.A) (hb : Binds X.K fd ps ds) (hd : Vals dvs ds) (hx : Passes CX X E)
    (I : Inv X pins σ H s) (r : Vals vs us) (h : sp (vs ++ dvs) H Q E) : wpAny (model X.prog X.w) X.A (call (.ref f) us) (EP X pins σ Q) X.xe s := by
  have r2 : Vals (vs ++ dvs) (us ++ ds) := r.append hd
  have hl : (us ++ ds).length = ps.length := by rw [← r2.length]; exact F.len _ _ _ _ h
  refine wpAny_call (codeAny_mono (F.run X.A X.stack s H ⟨us, []⟩ (us ++ ds) (vs ++ dvs) Q E hr I.env0 (hb s us I.kIn hl) r2 h) fun r s' hq => ?_)
  cases r with
  | error e => exact hx pins σ H s e s' I hq
  | ok fl =>
    cases fl with
    | ret u => exact I.after hq
    | next => exact False.elim hq
    | brk => exact False.elim hq
    | cont => exact False.elim hq
theorem pe_call (F : FnOk X.prog X.w X.K X.mg X.base CX k f fd ps sp) (hr : Room k X.A) (hg : Gl X x) (hm : X.mg x = some (.ref f)) (hk : PySem.W.keepIn X.K (.ref f) = true) (hb : Binds X.K fd ps ds) (hd : Vals dvs ds) (hx : Passes CX X E)
    (ha : PA X (e :: es) t) (hdb : (x == ("__debug__" : Str)) = false := by decide) (he : starEach (e :: es) X.env = (false, eval e X.env) :: starEach es X.env := by rfl) (hpl : (backTo pos (starEach es X.env)).any (·.1) = false := by rfl) :
    PE X (.Call (.Name x p) (e :: es) [] pos) (tCall sp dvs E t) := by
  intro pins s σ H Q I h
  refine wpAny_Call_Name_kw (ld_glob I hg hm ?_ hdb)
  refine PySem.W.callWith_K (h₀ := X.base) I.ok.mod.kin hk (thn (ha pos pins s σ H _ I h) fun us s1 ⟨vs, H1, I1, r, q⟩ => ⟨I1.kIn, ?_⟩) he hpl
  exact run_fn F hr hb hd hx I1 r q
theorem pe_call0 (F : FnOk X.prog X.w X.K X.mg X.base CX k f fd ps sp) (hr : Room k X.A) (hg : Gl X x) (hm : X.mg x = some (.ref f)) (hk : PySem.W.keepIn X.K (.ref f) = true) (hb : Binds X.K fd ps ds) (hd : Vals dvs ds) (hx : Passes CX X E)
    (hdb : (x == ("__debug__" : Str)) = false := by decide) : PE X (.Call (.Name x p) [] [] pos) (tCall sp dvs E tNil) := by
  intro pins s σ H Q I h
  refine wpAny_Call_Name_kw (ld_glob I hg hm ?_ hdb)
  exact PySem.W.callWith_K0 I.kIn hk (run_fn (us := []) F hr hb hd hx I .nil h)
theorem pe_meth {pl : Sem Bool} (he : PE X o ta) (c : Cls X.K C) (hm : Meth X.K C m f) (F : FnOk X.prog X.w X.K X.mg X.base CX k f fd ps sp) (hr : Room k X.A) (hb : Binds X.K fd ps ds) (hd : Vals dvs ds) (hx : Passes CX X E) (ha : PA X (e :: es) t)
    (hst : starEach (e :: es) X.env = (false, eval e X.env) :: starEach es X.env := by rfl) (hpl : (backTo pos (starEach es X.env)).any (·.1) = false := by rfl)
    (ht : eval (.Call (.Attribute o m apos) (e :: es) [] pos) X.env = (do
      let ov ← eval o X.env
      standAt apos.atName
      let (f, first) ← holding [ov] (getMethod ov m pl)
      callWith pos f first (backTo pos (starEach (e :: es) X.env)) (backToKw pos (keywordEach [] X.env))) := by rfl) :
    PE X (.Call (.Attribute o m apos) (e :: es) [] pos) (tMeth C m sp dvs E ta t) := by
  intro pins s σ H Q I h
  refine PySem.W.methodCall_KW (pl := pl) (thn (he pins s σ H _ I h) fun u s1 ⟨x, H1, I1, rx, a, dx, fs, ex, ea, l, q⟩ => ?_) ht
  subst ex
  obtain rfl : u = Value.ref a := rx
  refine getmeth_ok I1 ea c hm l ?_
  refine PySem.W.callWith_K (first := [.ref a]) (h₀ := X.base) I.ok.mod.kin hm.kp (thn (ha pos pins s1 σ H1 _ I1 q) fun us s2 ⟨vs, H2, I2, r, q2⟩ => ⟨I2.kIn, ?_⟩) hst hpl
  exact run_fn (us := .ref a :: us) (vs := .ref a :: vs) F hr hb hd hx I2 (.cons rfl r) q2
structure Mk (K : PySem.W.Frag) (C f : Addr) : Prop where
  makes : PySem.W.makesIn K C = true
  init : PySem.W.findIn K (.ref C) "__init__" = some (some (.ref f))
  fn : PySem.W.isFn K (.ref f) = true
  kp : PySem.W.keepIn K (.ref C) = true
theorem run_make {pins : List (Addr × Obj)} {σ : St} {H : Hp} {s : Shared} {Q : VK} {us : List Value} {vs : List V} (M : Mk X.K C f) (F : FnOk X.prog X.w X.K X.mg X.base CX k f fd ps sp) (hr : Room (k + 1) X.A) (hb : Binds X.K fd ps ds) (hd : Vals dvs ds)
    (hx : Passes CX X E) (I : Inv X pins σ H s) (r : Vals vs us)
    (h : ∀ x dx, H x = none → H dx = none → dx ≠ x → sp (.ref x :: (vs ++ dvs)) (upd (upd H dx (.own x)) x (.ins C dx [])) (fun v H2 => v = .non ∧ Q (.ref x) H2) E) :
    wpAny (model X.prog X.w) X.A (call (.ref C) us) (EP X pins σ Q) X.xe s := by
  have hq := h (s.heap.objs.size + 1) s.heap.objs.size (I.hok.fresh (Nat.le_succ _)) (I.hok.fresh (Nat.le_refl _)) (Nat.ne_of_lt (Nat.lt_succ_self _))
  have I2 := Inv.made (C := C) I
  have r2 : Vals (V.ref (s.heap.objs.size + 1) :: (vs ++ dvs)) (Value.ref (s.heap.objs.size + 1) :: (us ++ ds)) := .cons rfl (r.append hd)
  have hl : (Value.ref (s.heap.objs.size + 1) :: us ++ ds).length = ps.length := by
    have e := r2.length
    rw [F.len _ _ _ _ hq] at e
    exact e.symm
  refine wpAny_call (make_map (f := f) I.kIn M.makes M.init (beq_iff_eq.mp M.fn) (codeAny_mono (F.run _ X.stack _ _ ⟨Value.ref (s.heap.objs.size + 1) :: us, []⟩ (Value.ref (s.heap.objs.size + 1) :: (us ++ ds)) _ _ E (hr.make C us [])
    (I2.env0.make C us []) (hb _ (Value.ref (s.heap.objs.size + 1) :: us) I2.kIn hl) r2 hq) fun r s' hq' => ?_))
  cases r with
  | error e => exact hx pins σ _ _ e s' I2 hq'
  | ok fl =>
    cases fl with
    | ret u =>
      obtain ⟨v, H', I3, rv, ev, q3⟩ := I2.after hq'
      subst ev
      exact ⟨rv, ⟨V.ref (s.heap.objs.size + 1), H', I3, rfl, q3⟩⟩
    | next => exact False.elim hq'
    | brk => exact False.elim hq'
    | cont => exact False.elim hq'
theorem pe_make (M : Mk X.K C f) (F : FnOk X.prog X.w X.K X.mg X.base CX k f fd ps sp) (hr : Room (k + 1) X.A) (hg : Gl X x) (hm : X.mg x = some (.ref C)) (hb : Binds X.K fd ps ds) (hd : Vals dvs ds) (hx : Passes CX X E)
    (ha : PA X (e :: es) t) (hdb : (x == ("__debug__" : Str)) = false := by decide) (he : starEach (e :: es) X.env = (false, eval e X.env) :: starEach es X.env := by rfl) (hpl : (backTo pos (starEach es X.env)).any (·.1) = false := by rfl) :
    PE X (.Call (.Name x p) (e :: es) [] pos) (tMake C sp dvs E t) := by
  intro pins s σ H Q I h
  refine wpAny_Call_Name_kw (ld_glob I hg hm ?_ hdb)
  refine PySem.W.callWith_K (h₀ := X.base) I.ok.mod.kin M.kp (thn (ha pos pins s σ H _ I h) fun us s1 ⟨vs, H1, I1, r, q⟩ => ⟨I1.kIn, ?_⟩) he hpl
  exact run_make M F hr hb hd hx I1 r q
end
def PK (X : Cx) (kws : List Keyword) (t : TA) : Prop :=
  ∀ (pos : Pos) (pins : List (Addr × Obj)) (s : Shared) (σ : St) (H : Hp) (Q : List V → Hp → Prop), Inv X pins σ H s → t σ H Q → wpAny (model X.prog X.w) X.A (evalAll ((backToKw pos (keywordEach kws X.env)).map (·.2))) (AP X pins σ Q) X.xe s
section
variable {X : Cx} {CX : CXT} {k : Nat} {f C : Addr} {fd : FuncData} {ps ks : List Str} {sp : Sp} {E : XK} {x m : Str} {p pos apos kpos : Pos} {e o : Expr} {es : List Expr} {kws : List Keyword} {te ta : TE} {t tk : TA} {nm : Option Str}
theorem pk_nil : PK X [] tNil := fun _ _ _ _ H Q I h => wpAny_evalAll_nil ⟨[], H, I, .nil, h⟩
theorem pk_cons (ha : PE X e te) (hr : PK X kws t) : PK X (⟨nm, e, kpos⟩ :: kws) (tCons te t) := by
  intro pos pins s σ H Q I h
  show wpAny _ _ (evalAll ((do let v ← eval e X.env; standAt pos; pure v) :: (backToKw pos (keywordEach kws X.env)).map (·.2))) _ _ s
  refine wpAny_evalAll_cons (wpAny_bind (thn (ha pins s σ H _ I h) fun u s1 ⟨x, H1, I1, r1, q1⟩ => wpAny_bind (wpAny_standAt (wpAny_pure ?_))))
  exact thn (hr pos pins s1 σ H1 _ I1 q1) fun us s2 ⟨xs, H2, I2, r2, q2⟩ => ⟨x :: xs, H2, I2, .cons r1 r2, q2⟩
structure KBinds (K : PySem.W.Frag) (fd : FuncData) (ps ks : List Str) (g : List Value → List Value → List Value) (gV : List V → List V → List V) : Prop where
  to : ∀ (s : Shared) (us ws : List Value), K.In s.heap → (g us ws).length = ps.length → BindsTo s fd ⟨us, ks.zip ws⟩ (ps.zip (g us ws))
  rel : ∀ {vs : List V} {us : List Value} {zs : List V} {ws : List Value}, Vals vs us → Vals zs ws → Vals (gV vs zs) (g us ws)
variable {g : List Value → List Value → List Value} {gV : List V → List V → List V}
end
structure FnScope (N P : List Str) (sc : Scope) : Prop where
  kind : sc.kind = .function
  co : sc.isCoroutine = false
  gen : sc.isGenerator = false
  nd : N.Nodup
  pre : N.take P.length = P
  par : ∀ x ∈ P, sc.names.lookup x = some .local ∨ sc.names.lookup x = some .cell
  nofree : ∀ y ∈ sc.names, y.2 ≠ .free
theorem bindL_out {kindOf : Str → Option NameKind} {x : Str} : ∀ {binds : List (Str × Value)} {m : Str → Option Value}, (∀ v, (x, v) ∉ binds) → bindL kindOf binds m x = m x
  | [], _, _ => rfl
  | (n, v) :: r, m, h => by
    unfold bindL
    rw [bindL_out fun w hw => h w (List.mem_cons_of_mem _ hw)]
    split
    · have : x ≠ n := by rintro rfl; exact h v List.mem_cons_self
      simp [this]
    · rfl
theorem bindC_out {kindOf : Str → Option NameKind} {x : Str} : ∀ {binds : List (Str × Value)} {m : Str → Option Value}, (∀ v, (x, v) ∉ binds) → bindC kindOf binds m x = m x
  | [], _, _ => rfl
  | (n, v) :: r, m, h => by
    unfold bindC
    rw [bindC_out fun w hw => h w (List.mem_cons_of_mem _ hw)]
    split
    · rfl
    · have : x ≠ n := by rintro rfl; exact h v List.mem_cons_self
      simp [this]
theorem bindL_get {kindOf : Str → Option NameKind} {x : Str} {v : Value} : ∀ {P : List Str} {vs : List Value} {i : Nat} {m : Str → Option Value}, P.Nodup → P[i]? = some x → vs[i]? = some v → kindOf x = some .local →
    bindL kindOf (P.zip vs) m x = some v
  | [], _, _, _, _, h, _, _ => by simp at h
  | _ :: _, [], _, _, _, _, h, _ => by simp at h
  | p :: P, w :: vs, 0, m, nd, h1, h2, hk => by
    simp at h1 h2; subst h1; subst h2
    show bindL kindOf ((p, w) :: P.zip vs) m p = _
    unfold bindL
    rw [bindL_out fun v hv => (List.nodup_cons.mp nd).1 (List.of_mem_zip hv).1, if_pos hk]
    simp
  | p :: P, w :: vs, i + 1, m, nd, h1, h2, hk => by
    show bindL kindOf ((p, w) :: P.zip vs) m x = _
    unfold bindL
    exact bindL_get (i := i) (List.nodup_cons.mp nd).2 (by simpa using h1) (by simpa using h2) hk
theorem bindC_get {kindOf : Str → Option NameKind} {x : Str} {v : Value} : ∀ {P : List Str} {vs : List Value} {i : Nat} {m : Str → Option Value}, P.Nodup → P[i]? = some x → vs[i]? = some v → kindOf x ≠ some .local →
    bindC kindOf (P.zip vs) m x = some v
  | [], _, _, _, _, h, _, _ => by simp at h
  | _ :: _, [], _, _, _, _, h, _ => by simp at h
  | p :: P, w :: vs, 0, m, nd, h1, h2, hk => by
    simp at h1 h2; subst h1; subst h2
    show bindC kindOf ((p, w) :: P.zip vs) m p = _
    unfold bindC
    rw [bindC_out fun v hv => (List.nodup_cons.mp nd).1 (List.of_mem_zip hv).1, if_neg hk]
    simp
  | p :: P, w :: vs, i + 1, m, nd, h1, h2, hk => by
    show bindC kindOf ((p, w) :: P.zip vs) m x = _
    unfold bindC
    exact bindC_get (i := i) (List.nodup_cons.mp nd).2 (by simpa using h1) (by simpa using h2) hk
def start (N : List Str) (vs : List V) : St := vs.map some ++ List.replicate (N.length - vs.length) none
def cxOf (CX : CXT) (P : Program) (w : World) (K : PySem.W.Frag) (mg : Str → Option Value) (base : Heap) (N : List Str) (qual : Str) (scope : Scope) (f : Addr) (cd : Value) (A : Around) (outer : List Env) (s : Shared) (H : Hp) (E : XK) : Cx where
  prog := P
  w := w
  K := K
  mg := mg
  base := base
  A := A.deeper (envOfC qual scope s.heap.objs.size f cd)
  N := N
  s₀ := s
  H₀ := H
  env := envOfC qual scope s.heap.objs.size f cd
  outer := outer
  stack := envOfC qual scope s.heap.objs.size f cd :: outer
  ex := []
  calm := true
  fn := fun _ => true
  pn := []
  xe := fun e s' => wpAny (model P w) (A.deeper (envOfC qual scope s.heap.objs.size f cd)) (leaving (envOfC qual scope s.heap.objs.size f cd) e) (fun _ s'' => CX outer H s E e s'') (fun e' s'' => CX outer H s E e' s'') s'
theorem cell_has {sc : Scope} {n : Nat} {x : Str} (h : sc.names.lookup x = some .cell) : ∃ c, (cellsFrom n sc.names []).lookup x = some c := by
  have q := PySem.W.cellsFrom_some sc.names n [] (.inl h)
  exact Option.isSome_iff_exists.mp q
theorem inv_start {CX : CXT} {P : Program} {w : World} {K : PySem.W.Frag} {mg : Str → Option Value} {base : Heap} {N ps : List Str} {qual : Str} {scope : Scope} {f : Addr} {cd : Value} {A : Around} {outer : List Env} {s s1 : Shared} {H : Hp} {E : XK} {us : List Value} {vs : List V}
    (S : FnScope N ps scope) (hd : A.handled = none) (e0 : Env0 P w K mg base A outer s H) (hl : vs.length = ps.length) (r : Vals vs us)
    (x : InCallC s s.heap.objs.size (bindL (envOfC qual scope s.heap.objs.size f cd).kindOf (ps.zip us) fun _ => none) (cellsFrom (s.heap.objs.size + 1) scope.names []) (bindC (envOfC qual scope s.heap.objs.size f cd).kindOf (ps.zip us) fun _ => none) s1) :
    Inv (cxOf CX P w K mg base N qual scope f cd A outer s H E) [] (start N vs) H s1 := by
  have hpl : ps.length ≤ N.length := by have := congrArg List.length S.pre; rw [List.length_take] at this; omega
  obtain ⟨h1, tk, rfl, hk⟩ := x.done
  have noA : ∀ b : Addr, b ∉ (cxOf CX P w K mg base N qual scope f cd A outer s H E).ex := fun b z => absurd (show b ∈ ([] : List Addr) from z) (by simp)
  refine ⟨⟨e0.mod, S.kind, rfl, rfl, Nat.le_refl _, fun y z c h1 h2 => ?_, fun y hy => ?_, fun y c _ h => ?_, fun _ => hd, Around.frames_deeper e0.frames, .inr ⟨rfl, rfl⟩, fun b z => absurd z (noA b), e0.bs, e0.bsz, fun b _ _ => noA b, fun b z => absurd z (noA b), e0.funs, e0.frf⟩,
    rfl, e0.bare, Un.kept hk, ⟨_, x.toInCall.ns, fun i y v h1 h2 h3 => ?_⟩, fun y c h => ⟨_, x.cell y c h⟩, e0.hok.fresh (Nat.le_refl _), fun y c h => ?_, fun p hp => absurd (show p ∈ ([] : List (Addr × Obj)) from hp) (by simp), e0.hok.kept hk, ?_⟩
  · exact name_of_addr x.apart (PySem.mem_of_lookup h1) (PySem.mem_of_lookup h2)
  · have hy : scope.names.lookup y = some .cell ∨ scope.names.lookup y = some .free := hy
    rcases hy with hy | hy
    · exact cell_has hy
    · exact absurd rfl (S.nofree _ (PySem.mem_of_lookup hy))
  · exact Nat.le_of_lt (x.above y c (PySem.mem_of_lookup h))
  · have hi : i < vs.length := by
      unfold start at h2
      by_cases hi : i < vs.length
      · exact hi
      · rw [List.getElem?_append_right (by simpa using hi)] at h2
        rw [List.getElem?_replicate] at h2
        split at h2 <;> cases h2
    have ha : vs[i]? = some v := by
      unfold start at h2
      rw [List.getElem?_append_left (by simpa using hi), List.getElem?_map] at h2
      cases e : vs[i]? with
      | none => rw [e] at h2; cases h2
      | some a => rw [e] at h2; cases h2; rfl
    obtain ⟨u, hu, rv⟩ := r.get ha
    have hp : ps[i]? = some y := by
      rw [← S.pre, List.getElem?_take_of_lt (by omega)]; exact h1
    have ndP : ps.Nodup := by rw [← S.pre]; exact S.nd.sublist (List.take_sublist _ _)
    refine ⟨u, rv, ?_⟩
    rcases S.par y (List.mem_of_getElem? hp) with k | k
    · exact .inl ⟨k, bindL_get ndP hp hu k⟩
    · obtain ⟨c, e⟩ := cell_has (n := s.heap.objs.size + 1) k
      refine .inr ⟨.inl k, c, e, ?_⟩
      have q := x.cell y c e
      rw [bindC_get ndP hp hu (by show scope.names.lookup y ≠ _; rw [k]; decide)] at q
      exact q
  · exact e0.hok.fresh (Nat.le_of_lt (x.above y c (PySem.mem_of_lookup h)))
  · unfold start
    show _ = N.length
    rw [List.length_append, List.length_map, List.length_replicate]
    omega
theorem fn_of {CX : CXT} {P : Program} {w : World} {K : PySem.W.Frag} {mg : Str → Option Value} {base : Heap} {k : Nat} {f : Addr} {name qual : Str} {params : Arguments} {body : List Stmt} {scope : Scope} {dV kV doc pm cdv ct oc : Value} {an od : Option Addr}
    {osl : Array (Option Value)} {N ps : List Str} {sp : Sp} (lk : K.lookup f = some ⟨oc, od, .func (PySem.W.fnOf name qual params body scope dV kV doc pm an cdv ct), osl⟩) (hcd : PySem.W.codeIn K cdv qual = true) (S : FnScope N ps scope)
    (len : ∀ vs H Q E, sp vs H Q E → vs.length = ps.length)
    (hbody : ∀ (A : Around) (outer : List Env) (s : Shared) (H : Hp) (vs : List V) (Q : VK) (E : XK), Room k (A.deeper (envOfC qual scope s.heap.objs.size f cdv)) → sp vs H Q E →
      ∃ t, PSs (cxOf CX P w K mg base N qual scope f cdv A outer s H E) body t ∧ t { nx := fun _ H' => Q .non H', rt := Q } (start N vs) H) :
    FnOk P w K mg base CX (k + 1) f (PySem.W.fnOf name qual params body scope dV kV doc pm an cdv ct) ps sp := by
  refine ⟨len, fun A outer s H args us vs Q E hr e0 hb r hsp => ?_⟩
  have hl := len _ _ _ _ hsp
  have KX : K.In s.heap := e0.mod.kin.keeps fun b o e => (e0.bs b o e).1
  have lim : s.heap.NoLimit := e0.mod.nolimit.keeps fun b o e => (e0.bs b o e).1
  have hkind : ∀ y ∈ ps.zip us, scope.names.lookup y.1 = some .local ∨ (scope.names.lookup y.1 = some .cell ∧ ((cellsFrom (s.heap.objs.size + 1) scope.names []).lookup y.1).isSome = true) := fun ⟨n, v⟩ hy => by
    rcases S.par n (List.of_mem_zip hy).1 with q | q
    · exact .inl q
    · exact .inr ⟨q, PySem.W.cellsFrom_some _ _ _ (.inl q)⟩
  refine codeAny_call_function hr.depth (KX _ _ lk) rfl S.co S.gen rfl (PySem.W.codeRec_of KX hcd) (hb _ _ _ _ ?_)
  refine wpAny_newFunctionEnv_cells S.kind hkind fun env he s1 x => ?_
  subst he
  refine ⟨lim.keeps x.toInCall.keep, codeAny_func ?_⟩
  obtain ⟨t, ht, hq⟩ := hbody A outer s H vs Q E (hr.deeper _) hsp
  have I : Inv (cxOf CX P w K mg base N qual scope f cdv A outer s H E) [] (start N vs) H s1 := inv_start S hr.hd e0 hl r x
  refine wpAny_mono (ht [] s1 (start N vs) H _ I hq) (fun fl s' hs => ?_) fun e s' hs => hs
  have fin : ∀ {σ' : St} {H' : Hp} {v : V} {u : Value}, Inv (cxOf CX P w K mg base N qual scope f cdv A outer s H E) [] σ' H' s' → RelV v u → Q v H' → CE outer P w H s Q u s' :=
    fun {σ' H' v u} J rv q => ⟨v, H', J.os, J.bare, J.base, J.hok, rv, q⟩
  cases fl with
  | ret u =>
    obtain ⟨v, σ', H', J, rv, q⟩ := hs
    exact fin J rv q
  | next =>
    obtain ⟨σ', H', J, q⟩ := hs
    exact fin (v := V.non) (u := Value.none) J rfl q
  | brk =>
    obtain ⟨_, _, _, q⟩ := hs
    exact False.elim q
  | cont =>
    obtain ⟨_, _, _, q⟩ := hs
    exact False.elim q
end L2
namespace L2
open PySem PySem.Spec PyProof.Rows
section
variable {X : Cx} {x : Str} {p pos : Pos} {e : Expr} {es : List Expr} {t : TA} {id T : String} {r : List V → Hp → VK → Prop}
def tCB (r : List V → Hp → VK → Prop) (t : TA) : TE := fun σ H Q => t σ H fun vs H1 => r vs H1 Q
theorem pe_callB (hc : CallR X (.builtin id) r) (hg : Gl X x) (hm : X.mg x = none) (hv : bootBuiltins x = some (.builtin id)) (ha : PA X (e :: es) t) (hn : x ≠ "__name__" := by decide) (hdb : (x == ("__debug__" : Str)) = false := by decide)
    (he : starEach (e :: es) X.env = (false, eval e X.env) :: starEach es X.env := by rfl) (hpl : (backTo pos (starEach es X.env)).any (·.1) = false := by rfl) : PE X (.Call (.Name x p) (e :: es) [] pos) (tCB r t) := by
  intro pins s σ H Q I h
  refine wpAny_Call_Name_kw (ld_blt I hg hm hv ?_ hn hdb)
  exact PyProof.Rows.callWith_builtin1 (thn (ha pos pins s σ H _ I h) fun us s1 ⟨vs, H1, I1, r1, q1⟩ => hc pins s1 σ H1 vs us Q I1 r1 q1) he hpl
theorem pe_callTy (hc : CallR X (.type T) r) (hg : Gl X x) (hm : X.mg x = none) (hv : bootBuiltins x = some (.type T)) (ha : PA X (e :: es) t) (hn : x ≠ "__name__" := by decide) (hdb : (x == ("__debug__" : Str)) = false := by decide)
    (he : starEach (e :: es) X.env = (false, eval e X.env) :: starEach es X.env := by rfl) (hpl : (backTo pos (starEach es X.env)).any (·.1) = false := by rfl) : PE X (.Call (.Name x p) (e :: es) [] pos) (tCB r t) := by
  intro pins s σ H Q I h
  refine wpAny_Call_Name_kw (ld_blt I hg hm hv ?_ hn hdb)
  exact PyProof.Rows.callWith_type1 (thn (ha pos pins s σ H _ I h) fun us s1 ⟨vs, H1, I1, r1, q1⟩ => hc pins s1 σ H1 vs us Q I1 r1 q1) he hpl
end
end L2
namespace HT
open PySem PyProof.Rows
section
open PySem.SeqAt
open PySem.AutoSeq1 (wpAny_loadPart')
open PySem.MeetsSeq PySem.MeetsSeq2 PySem.MeetsSeq3
end
section
variable {prog : Program} {w : World} {A : Around} {E : Value → Shared → Prop} {s : Shared}
def sIx (n d : Nat) : Option Int → Nat
  | none => d
  | some v => if v < 0 then (v + (n : Int)).toNat else min v.toNat n
theorem sIx_none (n d : Nat) : sIx n d none = d := rfl
theorem sIx_nat (n d k : Nat) : sIx n d (some (k : Int)) = min k n := by
  show (if (k : Int) < 0 then ((k : Int) + (n : Int)).toNat else min (k : Int).toNat n) = min k n
  rw [if_neg (by omega), Int.toNat_natCast]
end
end HT
namespace L2
open PySem PySem.Spec PyProof.Rows
abbrev TO := St → Hp → (Option Int → Hp → Prop) → Prop
def PO (X : Cx) (e : Option Expr) (t : TO) : Prop :=
  ∀ (pins : List (Addr × Obj)) (s : Shared) (σ : St) (H : Hp) (Q : Option Int → Hp → Prop), Inv X pins σ H s → t σ H Q →
    wpAny (model X.prog X.w) X.A (evalPart e X.env) (fun u s' => ∃ o H', Inv X pins σ H' s' ∧ IsPart u o ∧ Q o H') X.xe s
def tNoPart : TO := fun _ H Q => Q none H
def tPart (t : TE) : TO := fun σ H Q => t σ H fun x H1 => ∃ i, x = .int i ∧ Q (some i) H1
theorem intsAre_of {ns : List Int} : ∀ {us : List Value}, Vals (ns.map V.int) us → IntsAre us ns := by
  induction ns with
  | nil => intro us r; rw [List.map_nil] at r; cases r; exact .nil
  | cons n ns ih =>
    intro us r
    rw [List.map_cons] at r
    cases r with
    | cons r1 r2 =>
      obtain ⟨t, e⟩ := r1
      subst e
      exact .cons n t (ih r2)
section
variable {X : Cx} {e : Expr} {te : TE} {lo hi : Option Expr} {tl th : TO} {pos p2 : Pos}
theorem po_none : PO X none tNoPart := by
  intro pins s σ H Q I h
  rw [evalPart_none]
  exact wpAny_pure ⟨none, H, I, .none, h⟩
theorem po_some (h : PE X e te) : PO X (some e) (tPart te) := by
  intro pins s σ H Q I hw
  rw [evalPart_some]
  refine thn (h pins s σ H _ I hw) fun u s1 ⟨x, H1, I1, r1, q1⟩ => ?_
  obtain ⟨i, rfl, q⟩ := q1
  obtain ⟨t, rfl⟩ := r1
  exact ⟨some i, H1, I1, .int i t, q⟩
def SlR (X : Cx) (r : V → Option Int → Option Int → Hp → VK → Prop) : Prop :=
  ∀ (pins : List (Addr × Obj)) (s : Shared) (σ : St) (H : Hp) (x : V) (v vl vu : Value) (lo hi : Option Int) (sl : Addr) (Q : VK), Inv X pins σ H s → RelV x v → s.heap.IsSliceOf sl vl vu .none → IsPart vl lo → IsPart vu hi → r x lo hi H Q →
    ∃ T id, typeLookup (.type T) "__getitem__" = pure (some (.builtin id)) ∧ s.TypeIs v T ∧ wpAny (model X.prog X.w) X.A (getItem v (.ref sl)) (EP X pins σ Q) X.xe s
def tSl (r : V → Option Int → Option Int → Hp → VK → Prop) (te : TE) (tl th : TO) : TE := fun σ H Q => te σ H fun x H1 => tl σ H1 fun l H2 => th σ H2 fun u H3 => r x l u H3 Q
theorem pe_slice {r : V → Option Int → Option Int → Hp → VK → Prop} (hr : SlR X r) (he : PE X e te) (hl : PO X lo tl) (hu : PO X hi th) : PE X (.Subscript e (.Slice lo hi none p2) pos) (tSl r te tl th) := by
  intro pins s σ H Q I h
  refine Subscript_ (thn (he pins s σ H _ I h) fun v s1 ⟨x, H1, I1, r1, q1⟩ => ?_)
  refine wpAny_Slice (thn (hl pins s1 σ H1 _ I1 q1) fun vl s2 ⟨l, H2, I2, pl, q2⟩ => thn (hu pins s2 σ H2 _ I2 q2) fun vu s3 ⟨u, H3, I3, pu, q3⟩ => ?_)
  rw [evalPart_none]
  refine wpAny_pure ?_
  have I4 : Inv X pins σ H3 { s3 with heap := s3.heap.push { cls := .type "slice", data := .fields #[vl, vu, .none] } } := I3.kept (t' := s3.toks) fun b ob q => Heap.get?_push_of_some _ q
  obtain ⟨T, id, hT, ht, hg⟩ := hr pins { s3 with heap := s3.heap.push { cls := .type "slice", data := .fields #[vl, vu, .none] } } σ H3 x v vl vu l u s3.heap.objs.size Q I4 r1 (Heap.IsSliceOf.new ..) pl pu q3
  show wpAny (model X.prog X.w) X.A (subscriptTail e (.Slice lo hi none p2) v (.ref s3.heap.objs.size)) (EP X pins σ Q) X.xe { s3 with heap := s3.heap.push { cls := .type "slice", data := .fields #[vl, vu, .none] } }
  exact tail_any (ops := [.ref s3.heap.objs.size, v]) ht hT hg (by with_unfolding_all rfl)
def cutV (xs : List V) (lo hi : Option Int) : List V := (xs.drop (HT.sIx xs.length 0 lo)).take (HT.sIx xs.length xs.length hi - HT.sIx xs.length 0 lo)
theorem cutV_length (xs : List V) (lo hi : Option Int) : (cutV xs lo hi).length ≤ xs.length := by
  unfold cutV
  rw [List.length_take, List.length_drop]
  omega
end
end L2
namespace L2
open PySem PySem.Spec PyProof.Rows
def ixN (n : Nat) (i : Int) : Option Nat := if 0 ≤ i then (if i < n then some i.toNat else none) else if -(n : Int) ≤ i then some (i + n).toNat else none
def atI {α : Type} (xs : List α) (i : Int) : Option α := (ixN xs.length i).bind fun j => xs[j]?
theorem ixN_seq {n : Nat} {i : Int} {j : Nat} (h : ixN n i = some j) : seqIndex? i n = some j ∧ j < n ∧ -(n : Int) ≤ i ∧ i < n := by
  unfold ixN at h
  by_cases h0 : 0 ≤ i
  · rw [if_pos h0] at h
    by_cases h1 : i < n
    · rw [if_pos h1] at h
      have e : i.toNat = j := Option.some.inj h
      exact ⟨by rw [seqIndex_of h0 h1, e], by omega, by omega, h1⟩
    · rw [if_neg h1] at h; cases h
  · rw [if_neg h0] at h
    by_cases h1 : -(n : Int) ≤ i
    · rw [if_pos h1] at h
      have e : (i + n).toNat = j := Option.some.inj h
      exact ⟨by rw [seqIndex_neg (by omega) h1, e], by omega, h1, by omega⟩
    · rw [if_neg h1] at h; cases h
theorem atI_get {α : Type} {xs : List α} {i : Int} {v : α} (h : atI xs i = some v) : ∃ j, seqIndex? i xs.length = some j ∧ xs[j]? = some v ∧ j < xs.length ∧ -(xs.length : Int) ≤ i ∧ i < xs.length := by
  unfold atI at h
  cases e : ixN xs.length i with
  | none => rw [e] at h; cases h
  | some j =>
    rw [e] at h
    obtain ⟨h1, h2, h3, h4⟩ := ixN_seq e
    exact ⟨j, h1, h, h2, h3, h4⟩
theorem atI_nat {α : Type} {xs : List α} {j : Nat} {v : α} (h : xs[j]? = some v) : atI xs (j : Int) = some v := by
  have hj : j < xs.length := (List.getElem?_eq_some_iff.mp h).1
  have e : ixN xs.length (j : Int) = some j := by
    unfold ixN
    rw [if_pos (by omega), if_pos (by omega)]; simp
  unfold atI; rw [e]; exact h
theorem atI_last {α : Type} (xs : List α) (v : α) : atI (xs ++ [v]) (-1) = some v := by
  have hl : (xs ++ [v]).length = xs.length + 1 := by simp
  have e : ixN (xs ++ [v]).length (-1) = some xs.length := by
    unfold ixN
    rw [hl, if_neg (by decide), if_pos (by omega)]
    congr 1
    omega
  unfold atI
  rw [e]
  show (xs ++ [v])[xs.length]? = some v
  simp
def PlainIx (b : Expr) : Prop := ∀ o i, subscripted b false o i = operate [o, i] (getItem o i)
def IxR (X : Cx) (r : R2) : Prop :=
  ∀ (value slice : Expr) (pins : List (Addr × Obj)) (s : Shared) (σ : St) (H : Hp) (x y : V) (v u : Value) (Q : VK), Inv X pins σ H s → RelV x v → RelV y u → r x y H Q →
    subscripted slice false v u = operate [v, u] (getItem v u) → wpAny (model X.prog X.w) X.A (subscriptTail value slice v u) (EP X pins σ Q) X.xe s
def MtR (X : Cx) (id : String) (r : V → List V → Hp → VK → Prop) : Prop :=
  ∀ (pins : List (Addr × Obj)) (s : Shared) (σ : St) (H : Hp) (x : V) (xs : List V) (v : Value) (us : List Value) (Q : VK), Inv X pins σ H s → RelV x v → Vals xs us → r x xs H Q →
    wpAny (model X.prog X.w) X.A (call (.builtin id) (v :: us)) (EP X pins σ Q) X.xe s
section
variable {X : Cx} {a b : Expr} {ta tb : TE} {pos : Pos}
theorem pe_ix {r : R2} (hr : IxR X r) (ha : PE X a ta) (hb : PE X b tb) (hs : PlainIx b) : PE X (.Subscript a b pos) (tOp r ta tb) := by
  intro pins s σ H Q I h
  exact Subscript_ (binT ha hb I h fun v u s2 x y H2 I2 rx ry q => hr a b pins s2 σ H2 x y v u Q I2 rx ry q (hs _ _))
def rIxL (K : PySem.W.Frag) : R2 := fun x y H Q => ∃ p xs i v, x = .ref p ∧ y = .int i ∧ SqL K H p xs ∧ atI xs i = some v ∧ Q v H
def rIxT (K : PySem.W.Frag) : R2 := fun x y H Q => ∃ p xs i v, x = .ref p ∧ y = .int i ∧ SqT K H p xs ∧ atI xs i = some v ∧ Q v H
theorem ix_list : IxR X (rIxL X.K) := by
  intro value slice pins s σ H x y v u Q I rx ry h hs
  obtain ⟨p, xs, i, z, rfl, rfl, hq, he, q⟩ := h
  cases rx
  obtain ⟨t, rfl⟩ := ry
  obtain ⟨its, r, pl, hz⟩ := I.list hq
  obtain ⟨j, h1, h2, h3, h4, h5⟩ := atI_get he
  obtain ⟨w, ew, rw'⟩ := r.get h2
  have hl := r.length
  have hn := line63
  have fin : EP X pins σ Q w s := ⟨z, H, I, rw', q⟩
  by_cases h0 : 0 ≤ i
  · have hj : i.toNat = j := by
      rw [seqIndex_of h0 h5] at h1
      exact Option.some.inj h1
    exact item_listR pl.isList h0 (by omega) (by rw [hj]; simpa using ew) fin hs
  · have hj : (i + (its.toArray.size : Int)).toNat = j := by
      rw [seqIndex_neg (by omega) h4] at h1
      rw [List.size_toArray, ← hl]
      exact Option.some.inj h1
    exact subscriptTail_builtinR (x := w) pl.isList.typeIs slot_list_getitem.lookup
      (wpAny_getItem_list_neg (Q := fun r s' => r = w ∧ EP X pins σ Q r s') pl.isList (by omega) (by rw [List.size_toArray] <;> omega) (by omega) (by rw [hj]; simpa using ew) ⟨rfl, fin⟩) hs
theorem ix_tup : IxR X (rIxT X.K) := by
  intro value slice pins s σ H x y v u Q I rx ry h hs
  obtain ⟨p, xs, i, z, rfl, rfl, hq, he, q⟩ := h
  cases rx
  obtain ⟨t, rfl⟩ := ry
  obtain ⟨its, r, pl, hz⟩ := I.tuple hq
  obtain ⟨j, h1, h2, h3, h4, h5⟩ := atI_get he
  obtain ⟨w, ew, rw'⟩ := r.get h2
  have hl := r.length
  have hn := line63
  have fin : EP X pins σ Q w s := ⟨z, H, I, rw', q⟩
  exact subscriptTail_builtinR (x := w) pl.typeIs slot_tuple_getitem.lookup
    (getItem_tuple (j := j) (Q := fun r s' => r = w ∧ EP X pins σ Q r s') pl (by omega) (by omega) (by rw [List.size_toArray, ← hl]; exact h1) (by simpa using ew) ⟨rfl, fin⟩) hs
theorem mapSeq_set (its : List Value) (n j : Nat) (u : Value) : Obj.mapSeq (·.setIfInBounds j u) { cls := .type "list", data := .seq its.toArray n } = { cls := .type "list", data := .seq (its.set j u).toArray n } := by
  simp [Obj.mapSeq]
theorem Inv.lst {pins : List (Addr × Obj)} {σ : St} {H : Hp} {s : Shared} {p : Addr} {xs : List V} (I : Inv X pins σ H s) (h : H p = some (.lst xs)) :
    ∃ (its : List Value) (n : Nat), Vals xs its ∧ s.heap.get? p = some { cls := .type "list", data := .seq its.toArray n } ∧ xs.length ≤ sizeLine := by
  obtain ⟨z, its, n, r, e⟩ := I.hok p _ h
  exact ⟨its, n, r, e, z⟩
theorem Inv.lstUpd {pins : List (Addr × Obj)} {σ : St} {H : Hp} {s : Shared} {p : Addr} {xs ys : List V} {its its' : List Value} {n n' : Nat} {f : Obj → Obj} (I : Inv X pins σ H s) (h : H p = some (.lst xs))
    (ho : s.heap.get? p = some { cls := .type "list", data := .seq its.toArray n }) (hf : f { cls := .type "list", data := .seq its.toArray n } = { cls := .type "list", data := .seq its'.toArray n' }) (r : Vals ys its') (hz : ys.length ≤ sizeLine) (t : Nat) :
    Inv X pins σ (upd H p (.lst ys)) { s with heap := s.heap.update p f, toks := t } := by
  have e : (s.heap.update p f).get? p = some { cls := .type "list", data := .seq its'.toArray n' } := by
    rw [Heap.get?_update_self f ho (by rw [hf] <;> rfl), hf]
  refine I.write (x := p) (e := p) (by rw [h]; trivial) (.inl rfl) (fun b u hb q => (Heap.get?_update_other _ _ (Ne.symm hb)).trans q) ⟨_, e⟩ ?_
  exact ⟨hz, its', n', r, e⟩
def rSetL : V → V → V → Hp → (Hp → Prop) → Prop := fun o i v H Q => ∃ p xs k j, o = .ref p ∧ i = .int k ∧ H p = some (.lst xs) ∧ ixN xs.length k = some j ∧ Q (upd H p (.lst (xs.set j v)))
theorem set_list : PSet X rSetL := by
  intro pins s σ H o i v ov iv u Q I ro ri rv h
  obtain ⟨p, xs, k, j, rfl, rfl, hp, hj, q⟩ := h
  cases ro
  obtain ⟨t, rfl⟩ := ri
  obtain ⟨its, n, r, ho, hz⟩ := I.lst hp
  obtain ⟨h1, h2, h3, h4⟩ := ixN_seq hj
  have hl := r.length
  have hn := line63
  have I' : Inv X pins σ (upd H p (.lst (xs.set j v))) { s with heap := s.heap.update p (Obj.mapSeq (·.setIfInBounds j u)) } :=
    I.lstUpd hp ho (mapSeq_set its n j u) (r.set rv j) (by rw [List.length_set]; exact hz) s.toks
  by_cases h0 : 0 ≤ k
  · have hk : k.toNat = j := by
      rw [seqIndex_of h0 h4] at h1
      exact Option.some.inj h1
    exact PySem.W.ki_setAt ho h0 (by omega) (by rw [List.size_toArray, ← hl]; exact h4) (by rw [hk]; exact ⟨_, I', q⟩)
  · have hk : (k + (its.toArray.size : Int)).toNat = j := by
      rw [seqIndex_neg (by omega) h3] at h1
      rw [List.size_toArray, ← hl]
      exact Option.some.inj h1
    exact PySem.W.ki_setBack ho (by omega) (by rw [List.size_toArray, ← hl]; exact h3) (by omega) (by rw [hk]; exact ⟨_, I', q⟩)
theorem slice_bounds (lo hi : Option Int) (n : Nat) : (sliceBounds lo hi none n).1 = ((HT.sIx n 0 lo : Nat) : Int) ∧ (sliceBounds lo hi none n).2.1 = ((HT.sIx n n hi : Nat) : Int) ∧ (sliceBounds lo hi none n).2.2 = 1 := by
  refine ⟨?_, ?_, rfl⟩
  · cases lo with
    | none => simp [sliceBounds, HT.sIx]
    | some i =>
      simp only [sliceBounds, HT.sIx, Option.getD_none, show (1 : Int) > 0 by decide, if_true]
      by_cases h : i < 0
      · simp only [h, if_true] <;> omega
      · simp only [h, if_false] <;> omega
  · cases hi with
    | none => simp [sliceBounds, HT.sIx]
    | some i =>
      simp only [sliceBounds, HT.sIx, Option.getD_none, show (1 : Int) > 0 by decide, if_true]
      by_cases h : i < 0
      · simp only [h, if_true] <;> omega
      · simp only [h, if_false] <;> omega
theorem slicePick_cut (its : List Value) (lo hi : Option Int) : slicePick its.toArray lo hi none = ((its.drop (HT.sIx its.length 0 lo)).take (HT.sIx its.length its.length hi - HT.sIx its.length 0 lo)).toArray := by
  obtain ⟨h1, h2, h3⟩ := slice_bounds lo hi its.toArray.size
  unfold slicePick
  rw [h1, h2, h3]
  simp only [sliceRange_one, pick_run, List.size_toArray] <;> rfl
def rSlL (K : PySem.W.Frag) : V → Option Int → Option Int → Hp → VK → Prop := fun x lo hi H Q => ∃ a xs, x = .ref a ∧ SqL K H a xs ∧ ∀ p, H p = none → Q (.ref p) (upd H p (.lst (cutV xs lo hi)))
theorem sl_list : SlR X (rSlL X.K) := by
  intro pins s σ H x v vl vu lo hi sl Q I rx hs pl pu h
  obtain ⟨a, xs, rfl, hx, q⟩ := h
  cases rx
  obtain ⟨its, r, ht, hz⟩ := I.list hx
  have hlen := r.length
  refine ⟨"list", _, slot_list_getitem.lookup, ht.isList.typeIs, ?_⟩
  refine wpAny_getItem_list_slice ht.isList hs pl pu .none (by simp) ?_ (by rw [List.size_toArray] <;> omega)
  rw [slicePick_cut, ← hlen]
  refine ⟨.ref s.heap.objs.size, _, I.laid (t' := s.toks) (o := .lst (cutV xs lo hi)) (fun b ob q => Heap.get?_push_of_some _ q) (Nat.le_refl _) ?_, rfl, q _ (I.hok.fresh (Nat.le_refl _))⟩
  exact ⟨Nat.le_trans (cutV_length xs lo hi) hz, _, 0, (r.drop (HT.sIx xs.length 0 lo)).take (HT.sIx xs.length xs.length hi - HT.sIx xs.length 0 lo), Heap.get?_push_size _ rfl⟩
def flatV : V → Bool
  | .non => true
  | .bl _ => true
  | .int _ => true
  | .str _ => true
  | _ => false
def eqV : V → V → Bool
  | .non, .non => true
  | .bl a, .bl b => a == b
  | .bl a, .int b => (if a then 1 else 0) == b
  | .int a, .bl b => a == (if b then 1 else 0)
  | .int a, .int b => a == b
  | .str a, .str b => a == b
  | _, _ => false
theorem eqAt_V {A : Around} {s : Shared} {y x : V} {u v : Value} (ry : RelV y u) (rx : RelV x v) (fy : flatV y = true) (fx : flatV x = true) : SeqAt.EqAt A s u v (eqV y x) := by
  cases y with
  | non =>
    cases ry
    cases x with
    | non => cases rx; exact SeqAt.EqAt.same _
    | bl b => cases rx; exact SeqAt.EqAt.none_bool b
    | int b => obtain ⟨t, rfl⟩ := rx; exact SeqAt.EqAt.none_int b t
    | str b => obtain ⟨t, rfl⟩ := rx; exact SeqAt.EqAt.none_str b t
    | _ => exact absurd (show false = true from fx) Bool.false_ne_true
  | bl a =>
    cases ry
    cases x with
    | non => cases rx; exact SeqAt.EqAt.bool_none a
    | bl b => cases rx; exact SeqAt.EqAt.bool_bool a b
    | int b => obtain ⟨t, rfl⟩ := rx; exact SeqAt.EqAt.bool_int a b t
    | str b => obtain ⟨t, rfl⟩ := rx; exact SeqAt.EqAt.bool_str a b t
    | _ => exact absurd (show false = true from fx) Bool.false_ne_true
  | int a =>
    obtain ⟨t', rfl⟩ := ry
    cases x with
    | non => cases rx; exact SeqAt.EqAt.int_none a t'
    | bl b => cases rx; exact SeqAt.EqAt.int_bool a t' b
    | int b => obtain ⟨t, rfl⟩ := rx; exact SeqAt.EqAt.int_int a t' b t
    | str b => obtain ⟨t, rfl⟩ := rx; exact SeqAt.EqAt.int_str a t' b t
    | _ => exact absurd (show false = true from fx) Bool.false_ne_true
  | str a =>
    obtain ⟨t', rfl⟩ := ry
    cases x with
    | non => cases rx; exact SeqAt.EqAt.str_none a t'
    | bl b => cases rx; exact SeqAt.EqAt.str_bool a t' b
    | int b => obtain ⟨t, rfl⟩ := rx; exact SeqAt.EqAt.str_int a t' b t
    | str b => obtain ⟨t, rfl⟩ := rx; exact SeqAt.EqAt.str_str a t' b t
    | _ => exact absurd (show false = true from fx) Bool.false_ne_true
  | _ => exact absurd (show false = true from fy) Bool.false_ne_true
def eqU (x : V) (u : Value) : Bool := match u with
  | .none => eqV .non x
  | .bool b => eqV (.bl b) x
  | .int i _ => eqV (.int i) x
  | .str z _ => eqV (.str z) x
  | _ => false
theorem eqU_of {x y : V} {u : Value} (r : RelV y u) (f : flatV y = true) : eqU x u = eqV y x := by
  cases y with
  | non => cases r; rfl
  | bl b => cases r; rfl
  | int i => obtain ⟨t, rfl⟩ := r; rfl
  | str z => obtain ⟨t, rfl⟩ := r; rfl
  | _ => exact absurd (show false = true from f) Bool.false_ne_true
theorem any_eqU {x : V} : ∀ {xs : List V} {us : List Value}, Vals xs us → xs.all flatV = true → us.any (eqU x) = xs.any fun y => eqV y x
  | _, _, .nil, _ => rfl
  | y :: xs, u :: us, .cons r t, f => by
    rw [List.all_cons, Bool.and_eq_true] at f
    rw [List.any_cons, List.any_cons, eqU_of r f.1, any_eqU t f.2]
theorem mem_eqAt {A : Around} {s : Shared} {x : V} {v : Value} (rx : RelV x v) (fx : flatV x = true) : ∀ {xs : List V} {us : List Value}, Vals xs us → xs.all flatV = true → ∀ u ∈ us, SeqAt.EqAt A s u v (eqU x u)
  | _, _, .nil, _ => fun u hu => by cases hu
  | y :: xs, u :: us, .cons r t, f => fun u' hu => by
    rw [List.all_cons, Bool.and_eq_true] at f
    rcases List.mem_cons.mp hu with rfl | hu
    · rw [eqU_of r f.1]; exact eqAt_V r rx f.1 fx
    · exact mem_eqAt rx fx t f.2 u' hu
def inV (x : V) (xs : List V) : Bool := xs.any fun y => eqV y x
def rIn (K : PySem.W.Frag) (neg : Bool) : R2 := fun x y H Q => ∃ p xs, y = .ref p ∧ (SqL K H p xs ∨ SqT K H p xs) ∧ flatV x = true ∧ xs.all flatV = true ∧ Q (.bl (if neg then !inV x xs else inV x xs)) H
theorem op_in_seq : OpR X (compareOp .In) (rIn X.K false) := by
  intro pins s σ H x y v u Q I rx ry h
  obtain ⟨p, xs, rfl, hq, fx, fs, q⟩ := h
  cases ry
  rcases hq with hq | hq
  · obtain ⟨its, r, pl, hz⟩ := I.list hq
    refine SeqAt.in_listAt (eqU x) pl.isList (fun w hw => mem_eqAt rx fx r fs w (by simpa using hw)) ⟨.bl _, H, I, rfl, ?_⟩
    rw [show its.toArray.any (eqU x) = its.any (eqU x) by simp, any_eqU r fs]
    exact q
  · obtain ⟨its, r, pl, hz⟩ := I.tuple hq
    refine SeqAt.in_tupleAt (eqU x) pl (fun w hw => mem_eqAt rx fx r fs w (by simpa using hw)) ⟨.bl _, H, I, rfl, ?_⟩
    rw [show its.toArray.any (eqU x) = its.any (eqU x) by simp, any_eqU r fs]
    exact q
theorem call_len_seq : CallR X (.builtin "len") (fun xs H Q => ∃ p ys, xs = [.ref p] ∧ (SqL X.K H p ys ∨ SqT X.K H p ys) ∧ Q (.int ys.length) H) := by
  intro pins s σ H xs us Q I r h
  obtain ⟨p, ys, rfl, hq, q⟩ := h
  obtain ⟨u, rfl, rx⟩ := vals1 r
  cases rx
  have hn := line63
  rcases hq with hq | hq
  · obtain ⟨its, r', pl, hz⟩ := I.list hq
    have hlen := r'.length
    exact Calls.call_len_list pl.isList (by simp only [List.size_toArray] <;> omega) ⟨.int ys.length, H, I.tok _, ⟨s.toks + 1, by rw [List.size_toArray, hlen]⟩, q⟩
  · obtain ⟨its, r', pl, hz⟩ := I.tuple hq
    have hlen := r'.length
    exact len_tuple pl (by simp only [List.size_toArray] <;> omega) ⟨.int ys.length, H, I.tok _, ⟨s.toks + 1, by rw [List.size_toArray, hlen]⟩, q⟩
theorem call_list_of : CallR X (.type "list") (fun xs H Q => ∃ p ys, xs = [.ref p] ∧ (SqL X.K H p ys ∨ SqT X.K H p ys) ∧ ∀ l, H l = none → Q (.ref l) (upd H l (.lst ys))) := by
  intro pins s σ H xs us Q I r h
  obtain ⟨p, ys, rfl, hq, q⟩ := h
  obtain ⟨u, rfl, rx⟩ := vals1 r
  cases rx
  have fin : ∀ (its : List Value), Vals ys its → ys.length ≤ sizeLine → ∀ (h' : Heap) (c' : Nat), (∀ b o', s.heap.get? b = some o' → h'.get? b = some o') →
      h'.get? s.heap.objs.size = some { cls := .type "list", dict := none, data := .seq its.toArray c', slots := #[] } → EP X pins σ Q (.ref s.heap.objs.size) { s with heap := h' } := fun its r' hz h' c' kp e =>
    ⟨.ref s.heap.objs.size, _, I.laid (t' := s.toks) kp (Nat.le_refl _) (show ObjOk X.prog X.w _ h' _ (.lst ys) from ⟨hz, its, c', r', e⟩), rfl, q _ (I.hok.fresh (Nat.le_refl _))⟩
  rcases hq with hq | hq
  · obtain ⟨its, r', pl, hz⟩ := I.list hq
    have hlen := r'.length
    obtain ⟨o, ho, hc, n, hd⟩ := pl.isList
    exact call_list_seq p (.inl rfl) ho hc hd (fun h' c' kp e => fin its r' hz h' c' kp e) (by simp only [List.size_toArray] <;> omega)
  · obtain ⟨its, r', pl, hz⟩ := I.tuple hq
    have hlen := r'.length
    obtain ⟨o, ho, hc, n, hd⟩ := pl
    exact call_list_seq p (.inr rfl) ho hc hd (fun h' c' kp e => fin its r' hz h' c' kp e) (by simp only [List.size_toArray] <;> omega)
def tyV (K : PySem.W.Frag) (T : String) (x : V) (H : Hp) : Prop := match x with
  | .str _ => T = "str"
  | .int _ => T = "int"
  | .ref p => (T = "list" ∧ ∃ xs, SqL K H p xs) ∨ (T = "tuple" ∧ ∃ o, K.lookup p = some o ∧ o.cls = .type "tuple" ∧ o.dict = none) ∨
      (T = "dict" ∧ ((∃ kvs, H p = some (.dK kvs)) ∨ ∃ kvs, H p = some (.dT kvs))) ∨ (T = "set" ∧ ∃ S n, H p = some (.set S n))
  | _ => False
theorem tyV_is {pins : List (Addr × Obj)} {σ : St} {H : Hp} {s : Shared} {T : String} {x : V} {v : Value} (I : Inv X pins σ H s) (r : RelV x v) (ty : tyV X.K T x H) :
    s.TypeIs v T ∧ ∀ a, v = .ref a → ∃ ob, s.heap.get? a = some ob ∧ ob.dict = none := by
  cases x with
  | str z =>
    obtain ⟨t, rfl⟩ := r
    cases (show T = "str" from ty)
    exact ⟨typeIs_str s z t, fun _ e => nomatch e⟩
  | int i =>
    obtain ⟨t, rfl⟩ := r
    cases (show T = "int" from ty)
    exact ⟨typeIs_int s i t, fun _ e => nomatch e⟩
  | ref p =>
    cases r
    rcases ty with ⟨rfl, xs, hq⟩ | ⟨rfl, o, hk, hc, hd⟩ | ⟨rfl, hk⟩ | ⟨rfl, S, n, hk⟩
    · obtain ⟨its, _, pl, _⟩ := I.list hq
      refine ⟨pl.isList.typeIs, fun a e => ?_⟩
      cases e
      obtain ⟨o, n, e, c, hd, _⟩ := pl
      exact ⟨o, e, hd⟩
    · refine ⟨⟨o, I.kIn p o hk, hc⟩, fun a e => ?_⟩
      cases e
      exact ⟨o, I.kIn _ o hk, hd⟩
    · have z : ∃ o, s.heap.get? p = some o ∧ o.ExactDict := by
        rcases hk with ⟨kvs, hk⟩ | ⟨kvs, hk⟩
        · obtain ⟨_, _, _, _, o, _, _, e, ex, _⟩ := I.hok p _ hk
          exact ⟨o, e, ex⟩
        · obtain ⟨_, _, _, _, o, _, _, e, ex, _⟩ := I.hok p _ hk
          exact ⟨o, e, ex⟩
      obtain ⟨o, e, ex⟩ := z
      refine ⟨⟨o, e, ex.1⟩, fun a e2 => ?_⟩
      cases e2
      exact ⟨o, e, ex.2.1⟩
    · obtain ⟨o, _, _, _, e, ex, _⟩ := I.hok p _ hk
      refine ⟨⟨o, e, ex.1⟩, fun a e2 => ?_⟩
      cases e2
      exact ⟨o, e, ex.2.1⟩
  | _ => exact False.elim ty
def tBM0 (K : PySem.W.Frag) (T : String) (r : V → List V → Hp → VK → Prop) (to : TE) : TE := fun σ H Q => to σ H fun x H1 => tyV K T x H1 ∧ r x [] H1 Q
def tBM (K : PySem.W.Frag) (T : String) (r : V → List V → Hp → VK → Prop) (to : TE) (t : TA) : TE := fun σ H Q => to σ H fun x H1 => tyV K T x H1 ∧ t σ H1 fun xs H2 => r x xs H2 Q
variable {o e : Expr} {es : List Expr} {to : TE} {t : TA} {name : Str} {apos cpos : Pos} {T id : String} {r : V → List V → Hp → VK → Prop}
theorem pe_bm0 (pa : PlainAttrs T) (slot : Slot T name id) (hty : typeOf (.builtin id) = pure (.type "method_descriptor")) (hm : MtR X id r) (ho : PE X o to)
    (hbase : attributeBase o name X.env (eval o X.env) = eval o X.env := by rfl) (hline : (apos.endLine == cpos.line) = true := by rfl) : PE X (.Call (.Attribute o name apos) [] [] cpos) (tBM0 X.K T r to) := by
  intro pins s σ H Q I h
  refine wpAny_Call_method0_late hbase hline (thn (ho pins s σ H _ I h) fun v s1 ⟨x, H1, I1, r1, ty, q1⟩ => ?_)
  obtain ⟨h1, h2⟩ := tyV_is I1 r1 ty
  exact ⟨T, id, pa, slot, hty, h1, h2, Calls.callWith_builtin rfl (PySem.evalArgs_none (hm pins s1 σ H1 x [] v [] Q I1 r1 .nil q1))⟩
theorem pe_bm (pa : PlainAttrs T) (slot : Slot T name id) (hty : typeOf (.builtin id) = pure (.type "method_descriptor")) (hm : MtR X id r) (ho : PE X o to) (ha : PA X (e :: es) t)
    (hbase : attributeBase o name X.env (eval o X.env) = eval o X.env := by rfl)
    (hfew : ((backTo cpos (starEach (e :: es) X.env)).all (fun x => !x.1) && (backToKw cpos (keywordEach [] X.env)).all (fun x => x.1.isSome)
      && decide ((e :: es).length + ([] : List Keyword).length + (if ([] : List Keyword).isEmpty then 0 else 1) < 30)) = true := by rfl)
    (hline : (apos.endLine == cpos.line) = true := by rfl) (hs : starEach (e :: es) X.env = (false, eval e X.env) :: starEach es X.env := by rfl) (hplain : (backTo cpos (starEach es X.env)).any (·.1) = false := by rfl) :
    PE X (.Call (.Attribute o name apos) (e :: es) [] cpos) (tBM X.K T r to t) := by
  intro pins s σ H Q I h
  refine wpAny_Call_method_late hbase hfew hline rfl (thn (ho pins s σ H _ I h) fun v s1 ⟨x, H1, I1, r1, ty, q1⟩ => ?_)
  obtain ⟨h1, h2⟩ := tyV_is I1 r1 ty
  refine ⟨T, id, pa, slot, hty, h1, h2, ?_⟩
  have hA := ha cpos pins s1 σ H1 _ I1 q1
  rw [hs] at hA ⊢
  refine Calls.callWith_builtin (by show (false || (backTo cpos (starEach es X.env)).any (·.1)) = false; rw [hplain] <;> rfl) (Calls.evalArgs_plain ?_)
  exact thn hA fun us s2 ⟨vs, H2, I2, r2, q2⟩ => hm pins s2 σ H2 x vs v us Q I2 r1 r2 q2
/- xs.append(e), list.index on a module's tuple .. are MtR facts of 06m -/
end
end L2
namespace L2
open PySem PySem.Spec PyProof.Rows
def MtM (X : Cx) (id : String) (r : V → List V → Hp → VK → Prop) : Prop :=
  ∀ (pins : List (Addr × Obj)) (s : Shared) (σ : St) (H : Hp) (x : V) (xs : List V) (v : Value) (us : List Value) (Q : VK), Inv X pins σ H s → RelV x v → Vals xs us → r x xs H Q →
    wpAny (model X.prog X.w) X.A (call (.builtin id) (v :: us)) (EP X pins σ Q) X.xe s
theorem Vals.one : ∀ {x : V} {us : List Value}, Vals [x] us → ∃ u, us = [u] ∧ RelV x u
  | _, _, .cons r .nil => ⟨_, rfl, r⟩
theorem Vals.zero : ∀ {us : List Value}, Vals [] us → us = []
  | _, .nil => rfl
theorem Vals.dropLast {xs : List V} {us : List Value} (h : Vals xs us) : Vals xs.dropLast us.dropLast := by
  induction h with
  | nil => exact .nil
  | cons r t ih =>
    cases t with
    | nil => exact .nil
    | cons q t' => exact .cons r ih
theorem Vals.reverse {xs : List V} {us : List Value} (h : Vals xs us) : Vals xs.reverse us.reverse := by
  induction h with
  | nil => exact .nil
  | cons r t ih => rw [List.reverse_cons, List.reverse_cons]; exact Vals.append ih (.cons r .nil)
theorem Vals.rep {xs : List V} {us : List Value} (h : Vals xs us) : ∀ k : Nat, Vals (List.replicate k xs).flatten (List.replicate k us).flatten
  | 0 => .nil
  | k + 1 => by
    rw [List.replicate_succ, List.replicate_succ, List.flatten_cons, List.flatten_cons]
    exact Vals.append h (Vals.rep h k)
theorem erase_last {α : Type} (l : List α) : l.eraseIdx (l.length - 1) = l.dropLast := by
  induction l with
  | nil => rfl
  | cons a r ih =>
    cases r with
    | nil => rfl
    | cons b r =>
      have e : (a :: b :: r).length - 1 = ((b :: r).length - 1) + 1 := by
        have h1 : (a :: b :: r).length = r.length + 2 := rfl
        have h2 : (b :: r).length = r.length + 1 := rfl
        omega
      rw [e, List.eraseIdx_cons_succ, ih]
      all_goals rfl
theorem foldl_rep (its : List Value) : ∀ (k : Nat) (acc : List Value),
    List.foldl (fun x1 x2 => x1 ++ x2) acc.toArray (List.replicate k its.toArray) = (acc ++ (List.replicate k its).flatten).toArray
  | 0, acc => by simp
  | k + 1, acc => by
    have e : acc.toArray ++ its.toArray = (acc ++ its).toArray := by simp
    have e2 : (acc ++ its) ++ (List.replicate k its).flatten = acc ++ (List.replicate (k + 1) its).flatten := by
      rw [List.replicate_succ, List.flatten_cons, List.append_assoc]
    rw [← e2, ← foldl_rep its k (acc ++ its), ← e, List.replicate_succ, List.foldl_cons]
section
variable {X : Cx} {pins : List (Addr × Obj)} {σ : St} {H : Hp} {s : Shared} {l b : Addr} {xs ys zs : List V}
theorem Inv.lset {its its' : List Value} {n : Nat} {f : Array Value → Array Value} {t' : Nat} (I : Inv X pins σ H s) (hH : H l = some (.lst xs))
    (e : s.heap.get? l = some { cls := .type "list", data := .seq its.toArray n }) (hf : f its.toArray = its'.toArray) (hv : Vals ys its') (hz : ys.length ≤ sizeLine) :
    Inv X pins σ (upd H l (.lst ys)) { s with heap := s.heap.update l (Obj.mapSeq f), toks := t' } := by
  have q := PySem.IsL.update e f
  rw [hf] at q
  refine I.write (x := l) (e := l) (by rw [hH]; exact trivial) (.inl rfl) (fun b' u hb hu => (Heap.get?_update_other s.heap (Obj.mapSeq f) (Ne.symm hb)).trans hu) ⟨_, q⟩ ?_
  exact ⟨hz, its', _, hv, q⟩
theorem Inv.lnew {its : List Value} {t' : Nat} (I : Inv X pins σ H s) (hv : Vals ys its) (hz : ys.length ≤ sizeLine) :
    Inv X pins σ (upd H s.heap.objs.size (.lst ys)) { s with heap := s.heap.push { cls := .type "list", data := .seq its.toArray }, toks := t' } :=
  I.laid (fun _ _ q => Heap.get?_push_of_some _ q) (Nat.le_refl _) ⟨hz, its, 0, hv, Heap.get?_push_size _ rfl⟩
theorem Inv.fresh (I : Inv X pins σ H s) : H s.heap.objs.size = none := I.hok.fresh (Nat.le_refl _)
theorem Inv.lstM (I : Inv X pins σ H s) (hH : H l = some (.lst xs)) : xs.length ≤ sizeLine ∧ ∃ (its : List Value) (n : Nat), Vals xs its ∧ xs.length = its.length ∧ s.heap.get? l = some { cls := .type "list", data := .seq its.toArray n } := by
  obtain ⟨z, its, n, r, e⟩ := I.hok l _ hH
  exact ⟨z, its, n, r, r.length, e⟩
theorem notLongL {n : Nat} (h : n ≤ sizeLine) : Builtin.List.listTooLong n = false := by
  unfold Builtin.List.listTooLong
  exact decide_eq_false (by omega)
end
section
variable {X : Cx}
def rAppend : V → List V → Hp → VK → Prop := fun x vs H Q => ∃ l xs y, x = .ref l ∧ vs = [y] ∧ H l = some (.lst xs) ∧ xs.length < sizeLine ∧ Q .non (upd H l (.lst (xs ++ [y])))
theorem mt_append : MtM X "list.append" rAppend := by
  intro pins s σ H x vs v us Q I rx rv h
  obtain ⟨l, xs, y, rfl, rfl, hH, hz, q⟩ := h
  cases rx
  obtain ⟨u, rfl, ru⟩ := rv.one
  obtain ⟨z, its, n, r, hl, e⟩ := I.lstM hH
  refine call_meets F.slot_list_append ⟨_, e, rfl⟩ F.entry_list_append (F.args_list_append_2 _ _) (PySem.list_append l its.toArray n u (by rw [List.size_toArray]; omega)) ⟨e, ?_⟩
  refine ⟨.non, _, I.lset (its' := its ++ [u]) hH e (by simp) (r.append (.cons ru .nil)) ?_, rfl, q⟩
  rw [List.length_append, List.length_singleton]
  omega
def rExtend : V → List V → Hp → VK → Prop := fun x vs H Q => ∃ l b xs zs, x = .ref l ∧ vs = [.ref b] ∧ H l = some (.lst xs) ∧ H b = some (.lst zs) ∧ xs.length + zs.length ≤ sizeLine ∧ Q .non (upd H l (.lst (xs ++ zs)))
theorem mt_extend : MtM X "list.extend" rExtend := by
  intro pins s σ H x vs v us Q I rx rv h
  obtain ⟨l, b, xs, zs, rfl, rfl, hH, hB, hz, q⟩ := h
  cases rx
  obtain ⟨u, rfl, ru⟩ := rv.one
  cases ru
  obtain ⟨z, its, n, r, hl, e⟩ := I.lstM hH
  obtain ⟨z2, its2, n2, r2, hl2, e2⟩ := I.lstM hB
  have hsz : its.toArray.size + its2.toArray.size ≤ sizeLine := by rw [List.size_toArray, List.size_toArray]; omega
  have hlong : ¬ (!its.toArray.isEmpty && Builtin.List.listTooLong (its.toArray.size + its2.toArray.size)) = true := by
    rw [notLongL hsz, Bool.and_false]
    exact Bool.false_ne_true
  refine call_meets F.slot_list_extend ⟨_, e, rfl⟩ F.entry_list_extend (F.args_list_extend_2 _ _)
    (AutoSeq1.list_extend_list_list_0 l its.toArray n b its2.toArray n2 hlong (by rw [List.size_toArray]; omega) (by omega)) ⟨e, e2, ?_⟩
  refine ⟨.non, _, I.lset (its' := its ++ its2) hH e (by simp) (r.append r2) ?_, rfl, q⟩
  rw [List.length_append]
  omega
def rPop : V → List V → Hp → VK → Prop := fun x vs H Q => ∃ l xs y, x = .ref l ∧ vs = [] ∧ H l = some (.lst xs) ∧ xs[xs.length - 1]? = some y ∧ Q y (upd H l (.lst xs.dropLast))
theorem mt_pop : MtM X "list.pop" rPop := by
  intro pins s σ H x vs v us Q I rx rv h
  obtain ⟨l, xs, y, rfl, rfl, hH, hy, q⟩ := h
  cases rx
  have hus := rv.zero
  subst hus
  obtain ⟨z, its, n, r, hl, e⟩ := I.lstM hH
  obtain ⟨u, hu, ru⟩ := r.get hy
  have hy' : its.toArray[its.toArray.size - 1]? = some u := by
    show its.toArray[its.length - 1]? = some u
    rw [← Array.getElem?_toList, ← hl]
    exact hu
  refine call_meets F.slot_list_pop ⟨_, e, rfl⟩ F.entry_list_pop (F.args_list_pop_1 _) (MeetsSeq.list_pop_last l its.toArray n u hy' (by rw [List.size_toArray]; omega)) ⟨e, ?_⟩
  refine ⟨y, _, I.lset (its' := its.dropLast) hH e ?_ r.dropLast ?_, ru, q⟩
  · show its.toArray.eraseIdxIfInBounds (its.toArray.size - 1) = its.dropLast.toArray
    rw [List.size_toArray, List.eraseIdxIfInBounds_toArray, erase_last]
  · rw [List.length_dropLast]
    omega
def rReverse : V → List V → Hp → VK → Prop := fun x vs H Q => ∃ l xs, x = .ref l ∧ vs = [] ∧ H l = some (.lst xs) ∧ Q .non (upd H l (.lst xs.reverse))
theorem mt_reverse : MtM X "list.reverse" rReverse := by
  intro pins s σ H x vs v us Q I rx rv h
  obtain ⟨l, xs, rfl, rfl, hH, q⟩ := h
  cases rx
  have hus := rv.zero
  subst hus
  obtain ⟨z, its, n, r, hl, e⟩ := I.lstM hH
  refine call_meets F.slot_list_reverse ⟨_, e, rfl⟩ F.entry_list_reverse (F.args_list_reverse_1 _) (AutoSeq1.list_reverse_list_0 l its.toArray n (by rw [List.size_toArray]; omega)) ⟨e, ?_⟩
  refine ⟨.non, _, I.lset (its' := its.reverse) hH e (by simp) r.reverse ?_, rfl, q⟩
  rw [List.length_reverse]
  omega
def rCat : R2 := fun x y H Q => ∃ l b xs zs, x = .ref l ∧ y = .ref b ∧ H l = some (.lst xs) ∧ H b = some (.lst zs) ∧ xs.length + zs.length ≤ sizeLine ∧ ∀ p, H p = none → Q (.ref p) (upd H p (.lst (xs ++ zs)))
theorem op_cat : OpR X (binaryOp .Add) rCat := by
  intro pins s σ H x y v u Q I rx ry h
  obtain ⟨l, b, xs, zs, rfl, rfl, hH, hB, hz, q⟩ := h
  cases rx
  cases ry
  obtain ⟨z, its, n, r, hl, e⟩ := I.lstM hH
  obtain ⟨z2, its2, n2, r2, hl2, e2⟩ := I.lstM hB
  refine PySem.P.add_list e e2 ?_ (by rw [List.size_toArray, List.size_toArray]; omega)
  have ea : its.toArray ++ its2.toArray = (its ++ its2).toArray := by simp
  rw [ea]
  exact ⟨.ref _, _, I.lnew (t' := s.toks) (r.append r2) (by rw [List.length_append]; omega), rfl, q _ I.fresh⟩
def rRep : R2 := fun x y H Q => ∃ l k xs, x = .ref l ∧ y = .int k ∧ H l = some (.lst xs) ∧ -(2 ^ 63) ≤ k ∧ k < 2 ^ 63 ∧ xs.length * k.toNat ≤ sizeLine ∧
  ∀ p, H p = none → Q (.ref p) (upd H p (.lst (List.replicate k.toNat xs).flatten))
theorem len_rep {α : Type} (xs : List α) (k : Nat) : (List.replicate k xs).flatten.length = k * xs.length := by
  induction k with
  | zero => simp
  | succ k ih => rw [List.replicate_succ, List.flatten_cons, List.length_append, ih, Nat.succ_mul, Nat.add_comm]
theorem op_rep : OpR X (binaryOp .Mult) rRep := by
  intro pins s σ H x y v u Q I rx ry h
  obtain ⟨l, k, xs, rfl, rfl, hH, h1, h2, hz, q⟩ := h
  cases rx
  obtain ⟨t, rfl⟩ := ry
  obtain ⟨z, its, n, r, hl, e⟩ := I.lstM hH
  have hlen : its.toArray.size * k.toNat ≤ sizeLine := by rw [List.size_toArray, ← hl]; exact hz
  have hcap : ¬ its.toArray.size * k.toNat > (2 ^ 63 - 1) / 8 := by
    have : (sizeLine : Nat) ≤ (2 ^ 63 - 1) / 8 := by decide
    omega
  have hfit : ¬ (!Builtin.List.listFitsIndex k) = true := by
    rw [fitsIndex_both h1 h2]
    exact Bool.false_ne_true
  have hlong : ¬ Builtin.List.listTooLong (its.toArray.size * k.toNat) = true := by
    rw [notLongL hlen]
    exact Bool.false_ne_true
  have hnew : List.foldl (fun x1 x2 => x1 ++ x2) #[] (List.replicate (if its.toArray.isEmpty = true then 0 else k.toNat) its.toArray) = (List.replicate k.toNat its).flatten.toArray := by
    have f0 : ∀ m : Nat, List.foldl (fun x1 x2 => x1 ++ x2) #[] (List.replicate m its.toArray) = (List.replicate m its).flatten.toArray := fun m => by
      have := foldl_rep its m []
      rw [List.nil_append] at this
      exact this
    rw [f0]
    cases its with
    | nil => simp
    | cons a r' => rw [if_neg (by simp)]
  refine wpAny_binaryOp_repeat_ref (T := "list") (U := "int") (by decide) ⟨_, e, rfl⟩ (fun s' => typeIs_int s' k t) noFill_list_mul F.fills_int_mul F.slot_int_rmul repeat_list F.slot_int_index.lookup
    (call_meets F.slot_int_rmul (typeIs_int s k t) F.entry_int_rmul (F.args_int_rmul_2 _ _) (int___rmul___int_list k t l its.toArray n)
      ⟨e, rfl, ⟨_, e, rfl⟩, call_meets F.slot_list_mul ⟨_, e, rfl⟩ F.entry_list_mul (F.args_list_mul_2 _ _) (AutoListH.list___mul___list_int_3 l its.toArray n k t hfit hcap hlong) ⟨e, ?_⟩⟩)
  rw [hnew]
  exact ⟨.ref _, _, I.lnew (t' := s.toks) (r.rep k.toNat) (by rw [len_rep, Nat.mul_comm]; exact hz), rfl, q _ I.fresh⟩
end
section
variable {prog : Program} {w : World} {A : Around} {E : Value → Shared → Prop} {s : Shared}
end
section
variable {X : Cx}
end
end L2
namespace Att
open PySem PySem.W PySem.Calls PyProof.Rows
theorem ints_of_wellAll {P : Params} {h : Heap} : ∀ (ns : List Int) (vs : List Value), WellAll P h vs (ns.map WData.int) → IntsAre vs ns := by
  intro ns
  induction ns with
  | nil =>
    intro vs w
    rw [List.map_nil] at w
    cases w
    exact .nil
  | cons n ns ih =>
    intro vs w
    rw [List.map_cons] at w
    cases w with
    | cons a b =>
      cases a
      exact .cons _ _ (ih _ b)
theorem script_of {l : OpenLaw} {n : Nat} (hn : l.most = some n) {P : Params} {h : Heap} {args : List WData} {vals : List Value}
    (hpre : l.row.toRowW.claim.pre args = true) (hwl : WellAll P h vals args) :
    ∃ a vs ns, vals = [Value.ref a] ∧ args = [WData.list (ns.map WData.int)] ∧ h.get? a = some { cls := .type "list", data := .seq vs.toArray } ∧ IntsAre vs ns ∧ ns.length ≤ n := by
  have hsh : WShape.hasAll [] args [.list .int] = true := (pre_splitW hpre).1
  have hc : l.pre.holds [] { args := args } = true := (pre_splitW hpre).2
  obtain ⟨d, r, rfl, h1, h2⟩ := hasAllW_cons hsh
  obtain rfl := hasAllW_nil h2
  obtain ⟨xs, rfl, h3⟩ := hasW_list h1
  obtain ⟨ns, rfl⟩ := items_int h3
  have hlen : ns.length ≤ n := by
    unfold OpenLaw.pre at hc
    have h4 : (WTm.not (.lt (.lit (.int (n : Int))) (.len (.arg 0)))).holds [] { args := [.list (ns.map .int)] } = true := by
      have h4 := (holds_andW hc).1
      rw [hn] at h4
      exact h4
    have h5 := condW_of h4 (w_not (w_lt w_lit (w_len_list (w_arg rfl))))
    rw [List.length_map] at h5
    refine Nat.le_of_not_lt fun q => ?_
    have q' : (n : Int) < ((ns.length : Nat) : Int) := by omega
    first
      | (rw [decide_eq_true q'] at h5; exact absurd h5 (by decide))
      | (simp at h5; omega)
  cases hwl with
  | cons w1 w2 =>
    cases w2
    cases w1 with
    | list ho hall => exact ⟨_, _, ns, rfl, rfl, ho, ints_of_wellAll ns _ hall, hlen⟩
theorem post_true (l : OpenLaw) (args : List WData) : l.row.toRowW.claim.post args (.bool true) args = true :=
  postW_of (r := l.row.toRowW) (X := (true == true))
    (show WShape.has [] (.bool true) .bool = true by first | rfl | decide | simp [WShape.has, WShape.arms, WShape.armsAll])
    (show (WTm.eq .res (.lit (.bool true))).value [] { args := args, res := some (.bool true), after := args } = some (.bool (true == true)) from w_eq_bool (w_res rfl) w_lit) rfl
section
variable {prog : Program} {w : World} {A : Around} {E : Value → Shared → Prop} {s : Shared} {K : Frag}
end
end Att
namespace L2
open PySem PySem.Spec PyProof.Rows
theorem vals_ints : ∀ {vs : List Value} {ns : List Int}, IntsAre vs ns → Vals (ns.map V.int) vs
  | _, _, .nil => .nil
  | _, _, .cons n t h => .cons ⟨t, rfl⟩ (vals_ints h)
def Only (H : Hp) : Prop := ∀ b, H b = none ∨ ∃ o xs, H b = some (.frz o (.lst xs))
theorem law_call {P : Program} {w : World} {K : PySem.W.Frag} {mg mb : Str → Option Value} {CX : CXT} {k : Nat} {fa a : Addr} {fd : FuncData} {x : Str} {sp : Sp} {s₁ : Shared} {vs : List Value} {ns : List Int}
    (KX : K.In s₁.heap) (hns : s₁.heap.Ns mainGlobals mg) (hb : s₁.heap.Ns builtinsNs mb) (hbb : ∀ x : Str, x ≠ "__name__" → mb x = bootBuiltins x) (hlim : s₁.heap.NoLimit) (hg : s₁.gens = #[])
    (ha : s₁.heap.get? a = some { cls := .type "list", data := .seq vs.toArray }) (hi : IntsAre vs ns) (hl : ns.length ≤ sizeLine) (hr : Room k callerA)
    (F : ∀ base : Heap, K.In base → base.Ns mainGlobals mg → FnOk P w K mg base CX k fa fd [x] sp) (hbind : ∀ (s : Shared) (u : Value), BindsTo s fd ⟨[u], []⟩ [(x, u)])
    (hsp : ∀ H : Hp, Only H → SqL K H a (ns.map V.int) → sp [.ref a] H (fun v _ => v = .bl true) fun _ _ _ => False)
    (hCX : ∀ H e s', CX [] H s₁ (fun _ _ _ => False) e s' → False) :
    codeAny (model P w) callerA (.call (.ref fa) ⟨[.ref a], []⟩) (fun r s' => r = .ok (.ret (.bool true)) ∧ OldK s₁.heap s'.heap ∧ s'.os = s₁.os ∧ AllBare s'.gens) s₁ := by
  have rv := vals_ints hi
  have lenV := hi.length
  have core : ∀ H : Hp, Only H → SqL K H a (ns.map V.int) → HOk P w H s₁.heap → (∀ b, H b ≠ none → b = a) → (H a ≠ none → K.lookup a = none) →
      codeAny (model P w) callerA (.call (.ref fa) ⟨[.ref a], []⟩) (fun r s' => r = .ok (.ret (.bool true)) ∧ OldK s₁.heap s'.heap ∧ s'.os = s₁.os ∧ AllBare s'.gens) s₁ := by
    intro H hO hS hok hA hK
    have base_of : ∀ {b : Addr} {o : Obj}, s₁.heap.get? b = some o → H b = none → (hidT s₁.heap H).get? b = some o := fun e n => hidT_get e n
    have noA : ∀ {b : Addr} {o : Obj} {es : Array DictEntry} {ep : Nat}, s₁.heap.get? b = some o → o.data = .dict es ep → H b = none := fun {b o es ep} e d => by
      cases q : H b with
      | none => rfl
      | some u =>
        have e' : b = a := hA b (by rw [q]; simp)
        subst e'
        rw [ha] at e; cases e
        have d' : Data.seq vs.toArray _ = Data.dict es ep := d
        cases d'
    have nsK : ∀ {b : Addr} {m : Str → Option Value}, s₁.heap.Ns b m → (hidT s₁.heap H).Ns b m := fun {b m} ⟨o, es, ep, e, d, r⟩ => ⟨o, es, ep, base_of e (noA e d), d, r⟩
    have hKb : K.In (hidT s₁.heap H) := fun b o e => base_of (KX b o e) (by
      cases q : H b with
      | none => rfl
      | some u =>
        have e' : b = a := hA b (by rw [q]; simp)
        subst e'
        rw [hK (by rw [q]; simp)] at e; cases e)
    have hM : Mod K mg (hidT s₁.heap H) := ⟨hKb, nsK hns, ⟨mb, nsK hb, hbb⟩, let ⟨mc, h1, h2⟩ := hlim; ⟨mc, nsK h1, h2⟩⟩
    have e0 : Env0 P w K mg (hidT s₁.heap H) callerA [] s₁ H := ⟨rfl, hM, fun b o e => of_hidT e, Nat.le_of_eq (hidT_size _ _), trivial, fun b hb => absurd (show b ∈ ([] : List Addr) from hb) (by simp), hok, .of_eq hg⟩
    refine codeAny_mono ((F _ hKb (nsK hns)).run callerA [] s₁ H ⟨[.ref a], []⟩ [.ref a] [.ref a] _ _ hr e0 (hbind s₁ (.ref a)) (.cons rfl .nil) (hsp H hO hS)) fun r s' h => ?_
    cases r with
    | error e => exact (hCX H e s' h).elim
    | ok fl =>
      cases fl with
      | next => exact False.elim h
      | brk => exact False.elim h
      | cont => exact False.elim h
      | ret u =>
        obtain ⟨v, H', os, bare, un, hok', r', q⟩ := h
        have q' : v = .bl true := q
        subst q'
        obtain rfl : u = Value.bool true := r'
        refine ⟨rfl, OldK.of_keep fun b o e => ?_, os, bare⟩
        cases q : H b with
        | none => exact un.keep b o e q (by intro z; exact absurd (show b ∈ ([] : List Addr) from z) (by simp)) (by simp)
        | some u =>
          rcases hO b with z | ⟨ob, xs, z⟩
          · rw [q] at z; cases z
          · have z2 := un.frzs b ob _ z
            obtain ⟨e1, _⟩ := hok b _ z
            obtain ⟨e2, _⟩ := hok' b _ z2
            rw [e] at e1; cases e1
            exact e2
  cases hk : K.lookup a with
  | some o =>
    have e := KX a o hk
    rw [ha] at e
    cases e
    refine core (fun _ => none) (fun _ => .inl rfl) (.inr ⟨_, vs.toArray, _, hk, rfl, rfl, rfl, by rw [List.size_toArray, lenV]; exact hl, by simpa using rv⟩) (fun b u z => by have z' : (none : Option HO) = some u := z; cases z') (fun b z => absurd rfl z) fun z => absurd rfl z
  | none =>
    refine core (fun b => if b = a then some (.frz { cls := .type "list", data := .seq vs.toArray } (.lst (ns.map V.int))) else none) (fun b => ?_) (.inl (.inr ⟨{ cls := .type "list", data := .seq vs.toArray }, if_pos rfl⟩)) (fun b u z => ?_) (fun b z => ?_) fun _ => hk
    · by_cases hb : b = a
      · exact .inr ⟨_, _, if_pos hb⟩
      · exact .inl (if_neg hb)
    · by_cases hb : b = a
      · have z' := (if_pos hb).symm.trans z
        cases z'
        subst hb
        exact ⟨ha, by rw [List.length_map]; exact hl, vs, _, rv, ha⟩
      · have z' := (if_neg hb).symm.trans z
        cases z'
    · by_cases hb : b = a
      · exact hb
      · exact absurd (if_neg hb) z
end L2
namespace L2
open PySem PySem.Spec PyProof.Rows
abbrev KOf {K : PySem.W.Frag} {h : Heap} (_ : K.In h) : PySem.W.Frag := K
end L2
/- THE LAST THEOREM (shape; LID, My.* are yours):
   My.Adr: a structure of the addresses that your layer names (classes, functions); My.Txt K t: a structure (Prop) of the equations over K;
   My.txt_mk : {K} {implicit addresses ..} (e1 : nsIn K mainGlobals "law" = some (some (.ref f))) (e2 : K.lookup f = some ⟨oc, od, .func (fnOf "law" "law" params body scope dV kV doc pm an cdv ct), sl⟩) (e3 : codeIn K cdv "law" = true) .. : ∃ t, My.Txt K t
set_option maxRecDepth 100000 in
set_option maxHeartbeats 0 in
theorem PySem.Challenge.cw_LID_holds : PySem.Challenge.rw_LID.Holds := by
  w_on; o_law; k_head; (case hw => w_witness2)
  k_fill
  refine L2.walk_of (l := PySem.Challenge.rw_LID) (n := 63) (k := 40) (x := "script") (CX := fun w => ..) (sp := fun _ => My.sp_law) rfl (by decide) rfl ⟨rfl, by decide, by decide⟩ (fun w h Y => PySem.W.kIn_of Y) ?F ?S ?C
  case F =>
    intro w mg fa h KX G hmg
    have T : ∃ t, My.Txt (L2.KOf KX) t := by
      dsimp only [L2.KOf]                          -- K must stand as «<heap const> w.params» for k_is
      refine' My.txt_mk ?e1 ?e2 ?e3 ..
      (case e1 => PySem.W.k_is)                    -- in the order: a name -> its address -> its object -> its parts
      (case e2 => PySem.W.k_is)
      ..
    obtain ⟨t, T⟩ := T
    have e0 := hmg.symm.trans (PySem.W.mg_of KX G T.law)
    cases e0                                       -- fa is the law's own address
    exact ⟨_, fun s u => .of_eq rfl, fun base kb nb => My.law_fn T kb nb⟩     -- if «.of_eq rfl» comes too early: refine' ⟨_, ?b, fun base kb nb => My.law_fn T kb nb⟩; exact fun s u => .of_eq rfl
  case S => exact fun w H a ns hl hO hS => ..
  case C => exact ..
(the tactic k_is has no namespace: write k_is) -/
namespace L2
open PySem PySem.Spec PyProof.Rows
def inClass (s : Stmt) (j : Nat) : Stmt := match s with
  | .ClassDef _ _ _ body _ _ _ _ _ _ _ => body.getD j (.Pass ⟨0, 0, 0, 0⟩)
  | _ => .Pass ⟨0, 0, 0, 0⟩
def defArgs (s : Stmt) : Arguments := match s with
  | .FunctionDef _ a _ _ _ _ _ _ _ _ => a
  | _ => { posonlyargs := [], args := [], vararg := none, kwonlyargs := [], kw_defaults := [], kwarg := none, defaults := [] }
def defBody (s : Stmt) : List Stmt := match s with
  | .FunctionDef _ _ b _ _ _ _ _ _ _ => b
  | _ => []
def defScope (s : Stmt) : Scope := match s with
  | .FunctionDef _ _ _ _ _ _ sc _ _ _ => sc
  | _ => { kind := .function, names := [], isGenerator := false, isCoroutine := false }
abbrev CX0 : CXT := fun _ _ _ _ _ _ => False
abbrev E0 : XK := fun _ _ _ => False
theorem pass0 {X : Cx} : Passes CX0 X E0 := fun _ _ _ _ _ _ _ h => h.elim
structure Fun (K : PySem.W.Frag) (x qual : Str) (st : Stmt) (f : Addr) (fd : FuncData) : Prop where
  ex : ∃ (oc : Value) (od : Option Addr) (kV doc pm : Value) (an : Option Addr) (cdv ct : Value) (osl : Array (Option Value)),
    fd = PySem.W.fnOf x qual (defArgs st) (defBody st) (defScope st) .none kV doc pm an cdv ct ∧ K.lookup f = some ⟨oc, od, .func fd, osl⟩ ∧ PySem.W.codeIn K cdv qual = true
  kp : PySem.W.keepIn K (.ref f) = true
section
variable {P : Program} {w : World} {K : PySem.W.Frag} {mg : Str → Option Value} {base : Heap}
theorem Fun.ok {x qual : Str} {st : Stmt} {f : Addr} {fd : FuncData} {N ps : List Str} {k : Nat} {sp : Sp} (F : Fun K x qual st f fd) (S : FnScope N ps (defScope st)) (len : ∀ vs H Q E, sp vs H Q E → vs.length = ps.length)
    (hbody : ∀ (cdv : Value) (A : Around) (outer : List Env) (s : Shared) (H : Hp) (vs : List V) (Q : VK) (E : XK), Room k (A.deeper (envOfC qual (defScope st) s.heap.objs.size f cdv)) → sp vs H Q E →
      ∃ t, PSs (cxOf CX0 P w K mg base N qual (defScope st) f cdv A outer s H E).nox (defBody st) t ∧ t { nx := fun _ H' => Q .non H', rt := Q } (start N vs) H) : FnOk P w K mg base CX0 (k + 1) f fd ps sp := by
  obtain ⟨oc, od, kV, doc, pm, an, cdv, ct, osl, rfl, lk, hcd⟩ := F.ex
  refine fn_of lk hcd S len fun A outer s H vs Q E hr hsp => ?_
  obtain ⟨t, h, q⟩ := hbody cdv A outer s H vs Q E hr hsp
  exact ⟨t, h.nox, q⟩
theorem Fun.binds {x qual : Str} {st : Stmt} {f : Addr} {fd : FuncData} {ps : List Str} (F : Fun K x qual st f fd)
    (h : ∀ (kV doc pm : Value) (an : Option Addr) (cdv ct : Value) (us : List Value), us.length = ps.length → bindArgs (PySem.W.fnOf x qual (defArgs st) (defBody st) (defScope st) .none kV doc pm an cdv ct) ⟨us, []⟩ = pure (ps.zip us)) : Binds K fd ps [] := by
  obtain ⟨oc, od, kV, doc, pm, an, cdv, ct, osl, rfl, lk, hcd⟩ := F.ex
  exact .all (h kV doc pm an cdv ct)
theorem fun_mk {x qual : Str} {st : Stmt} {f : Addr} {oc : Value} {od an : Option Addr} {osl : Array (Option Value)} {kV doc pm cdv ct : Value} (l : K.lookup f = some ⟨oc, od, .func (PySem.W.fnOf x qual (defArgs st) (defBody st) (defScope st) .none kV doc pm an cdv ct), osl⟩)
    (c : PySem.W.codeIn K cdv qual = true) (k : PySem.W.keepIn K (.ref f) = true) : Fun K x qual st f (PySem.W.fnOf x qual (defArgs st) (defBody st) (defScope st) .none kV doc pm an cdv ct) := ⟨⟨oc, od, kV, doc, pm, an, cdv, ct, osl, rfl, l, c⟩, k⟩
end
theorem small1000 {n : Nat} (h : n ≤ 1000) : n < sizeLine := Nat.lt_of_le_of_lt h (by decide)
section
variable {X : Cx}
theorem pv (i : Nat) {x : Str} {pos : Pos} (hN : X.N[i]? = some x := by rfl) (hv : Vis X.env.scope x := by first | exact Or.inl rfl | exact Or.inr (Or.inl rfl) | exact Or.inr (Or.inr rfl)) (hd : (x == ("__debug__" : Str)) = false := by decide)
    (hcd : (x == ("__classdict__" : Str)) = false := by decide) : PE X (.Name x pos) (tVar i) := pe_var hN hv hd hcd
end
theorem iteF {A B : Prop} (h : B) : if false = true then A else B := by
  rw [if_neg Bool.false_ne_true]
  exact h
theorem iteT {A B : Prop} (h : A) : if true = true then A else B := by
  rw [if_pos rfl]
  exact h
theorem ite2 {c A B : Prop} [Decidable c] (h1 : c → A) (h2 : ¬ c → B) : if c then A else B := by
  by_cases h : c
  · rw [if_pos h]
    exact h1 h
  · rw [if_neg h]
    exact h2 h
theorem iteNS {c A B : Prop} [Decidable c] (hc : c) (h : B) : if (!decide c) = true then A else B := by
  rw [decide_eq_true hc]
  exact iteF h
def Same (H H' : Hp) : Prop := ∀ b o, H b = some o → H' b = some o
theorem Same.refl (H : Hp) : Same H H := fun _ _ h => h
theorem Same.trans {H H1 H2 : Hp} (a : Same H H1) (b : Same H1 H2) : Same H H2 := fun c o h => b c o (a c o h)
theorem Same.free {H H' : Hp} (e : Same H H') {l : Addr} (h : H' l = Option.none) : H l = Option.none := by
  cases q : H l with
  | none => rfl
  | some o =>
    rw [e l o q] at h
    cases h
theorem Same.seq {K : PySem.W.Frag} {H H' : Hp} {a : Addr} {xs : List V} (e : Same H H') (h : SqL K H a xs) : SqL K H' a xs := by
  rcases h with (h | ⟨o, h⟩) | h
  · exact .inl (.inl (e _ _ h))
  · exact .inl (.inr ⟨o, e _ _ h⟩)
  · exact .inr h
end L2
set_option Elab.async false
set_option linter.all false
set_option maxRecDepth 100000
set_option maxHeartbeats 4000000
namespace L2
open PySem PySem.Spec PySem.Calls PyProof.Rows
section
variable {X : Cx} {pins : List (Addr × Obj)} {σ : St} {H : Hp} {s : Shared} {h' : Heap}
theorem Inv.turns {t' : Nat} {ch : List Addr} (I : Inv X pins σ H s) (k : ∀ b o, b ∉ ch → s.heap.get? b = some o → h'.get? b = some o) (hf : ∀ b ∈ ch, FpOk X pins H b) :
    Inv X pins σ H { s with heap := h', toks := t' } := by
  have nit : ∀ b u, H b = some u → b ∉ ch := fun b u e z => by rw [(hf b z).1] at e; cases e
  refine I.step (g' := s.gens) (d' := s.drawn) (ch := ch) (fun b hb => ?_) (fun b o _ _ hc e _ => k b o hc e) (fun b o _ _ hc e _ => ⟨o.slots, k b o hc e⟩) (fun _ _ _ _ n => n)
    (fun b o hc e => ⟨o, k b o hc e⟩) (fun _ _ e => e) (fun _ _ _ e => e) (fun b ps e => ⟨#[], by rw [e]; simp⟩) (fun m hm => ?_) (fun b u e => ?_) I.bare
  · obtain ⟨_, f1, _, f3, f4, f5⟩ := hf b hb
    exact ⟨f3, f1, f4, f5⟩
  · obtain ⟨o, es, ep, ho, r⟩ := hm
    exact ⟨o, es, ep, k _ o (fun z => (hf _ z).2.1 rfl) ho, r⟩
  · refine (I.hok b u e).stay (fun c v hc q => k c v ?_ q) (fun _ q => q) fun _ _ q => q
    rcases hc with z | z
    · rw [z]; exact nit b u e
    · exact nit c _ z
theorem HOk.track {P : Program} {w : World} {h : Heap} {a : Addr} {o : HO} (x : HOk P w H h) (hn : H a = none) (new : ObjOk P w (upd H a o) h a o) : HOk P w (upd H a o) h := fun b u e => by
  by_cases hb : b = a
  · subst hb; rw [upd_same] at e; cases e; exact new
  · rw [upd_ne hb] at e
    exact (x b u e).stay (fun c v _ q => q) (fun c q => by rw [upd_ne (ne_of_none q hn)]; exact q) fun c xs q => by rw [upd_ne (ne_of_none q hn)]; exact q
theorem Inv.track {a : Addr} {o : HO} (I : Inv X pins σ H s) (f : FpOk X pins H a) (new : ObjOk X.prog X.w (upd H a o) s.heap a o) : Inv X pins σ (upd H a o) s := by
  obtain ⟨f0, f1, _, f3, f4, f5⟩ := f
  have r := I.step (h' := s.heap) (H' := upd H a o) (g' := s.gens) (d' := s.drawn) (t' := s.toks) (ch := [a]) (fun b hb => by
      obtain rfl : b = a := by simpa using hb
      exact ⟨f3, f1, f4, f5⟩) (fun b ob _ _ _ e _ => e) (fun b ob _ _ _ e _ => ⟨ob.slots, e⟩) (fun b ob hc _ n => by rw [upd_ne (fun z => hc (by simp [z]))]; exact n)
    (fun b ob _ e => ⟨ob, e⟩) (fun b xs e => by rw [upd_ne (ne_of_none e f0)]; exact e) (fun b ob u e => by rw [upd_ne (ne_of_none e f0)]; exact e) (fun b ps e => ⟨#[], by rw [upd_ne (ne_of_none e f0), e]; simp⟩)
    (fun m hm => hm) (I.hok.track f0 new) I.bare
  exact r
end
def compCx (X : Cx) (scope : Scope) (cl : List (Str × Addr)) (N' : List Str) (C : Addr) (fp : List Addr) (pins : List (Addr × Obj)) (s : Shared) (H : Hp) : Cx :=
  { X with N := N', s₀ := s, H₀ := H, env := compEnvC scope cl C X.env, outer := X.stack, ex := fp, fn := fun _ => false, pn := X.pn ++ pins, xe := fun _ _ => False }
def cst (k : Nat) (idx : List Nat) (σ : St) : St := List.replicate k none ++ idx.map fun i => (σ[i]?).join
structure CompScope (X : Cx) (scope : Scope) (cl : List (Str × Addr)) (own fr : List Str) (idx : List Nat) : Prop where
  kind : scope.kind = .function
  nocell : ∀ y ∈ scope.names, y.2 ≠ .cell
  names : ∀ y ∈ scope.names, y.2 = .local → scope.names.lookup y.1 = some .local
  clos : closureFor scope X.env = pure cl
  sub : ∀ x c, cl.lookup x = some c → X.env.cells.lookup x = some c
  has : ∀ x, ((relabel scope X.env).names.lookup x = some .cell ∨ (relabel scope X.env).names.lookup x = some .free) → ∃ c, cl.lookup x = some c
  at' : ∀ (j : Nat) (x : Str), fr[j]? = some x → ∃ i, idx[j]? = some i ∧ X.N[i]? = some x ∧ (X.env.kindOf x = some .cell ∨ X.env.kindOf x = some .free) ∧
    ((relabel scope X.env).names.lookup x = some .cell ∨ (relabel scope X.env).names.lookup x = some .free)
  len : idx.length = fr.length
theorem CompScope.none {X : Cx} {scope : Scope} (own : List Str) (kind : scope.kind = .function := by rfl) (nocell : ∀ y ∈ scope.names, y.2 ≠ .cell := by decide +kernel)
    (names : ∀ y ∈ scope.names, y.2 = .local → scope.names.lookup y.1 = some .local := by decide +kernel) (nofree : ∀ y ∈ scope.names, y.2 ≠ .free := by decide +kernel) : CompScope X scope [] own [] [] where
  kind := kind
  nocell := nocell
  names := names
  clos := closureFor_none nofree
  sub := fun x c e => by cases e
  has := fun x hx => by
    exfalso
    have go : ∀ k : NameKind, (k = .cell ∨ k = .free) → (x, k) ∈ (relabel scope X.env).names → False := fun k hk hm => by
      obtain ⟨⟨n, k'⟩, hm', e⟩ := List.mem_map.mp (show (x, k) ∈ scope.names.map _ from hm)
      have h1 : k' ≠ .free := nofree _ hm'
      have h2 : k' ≠ .cell := nocell _ hm'
      have h3 : (k' == NameKind.free) = false := by simpa using h1
      dsimp only at e
      rw [h3] at e
      simp only [Bool.false_and, Bool.false_eq_true, if_false] at e
      cases e
      rcases hk with z | z
      · exact h2 z
      · exact h1 z
    rcases hx with hx | hx
    · exact go _ (.inl rfl) (PySem.mem_of_lookup hx)
    · exact go _ (.inr rfl) (PySem.mem_of_lookup hx)
  at' := fun j x h => by simp at h
  len := rfl
theorem CompScope.one {X : Cx} {scope : Scope} (own : List Str) (x : Str) (i : Nat) (kind : scope.kind = .function := by rfl) (nocell : ∀ y ∈ scope.names, y.2 ≠ .cell := by decide +kernel)
    (names : ∀ y ∈ scope.names, y.2 = .local → scope.names.lookup y.1 = some .local := by decide +kernel) (clos : closureFor scope X.env = pure X.env.cells := by rfl)
    (hasB : ((relabel scope X.env).names.all fun y => !(y.2 == NameKind.cell || y.2 == NameKind.free) || (X.env.cells.lookup y.1).isSome) = true := by rfl)
    (hi : X.N[i]? = some x := by rfl) (hk : X.env.kindOf x = some .cell := by rfl) (hr : (relabel scope X.env).names.lookup x = some .cell := by rfl) : CompScope X scope X.env.cells own [x] [i] where
  kind := kind
  nocell := nocell
  names := names
  clos := clos
  sub := fun _ _ e => e
  has := fun y hy => by
    have go : ∀ k : NameKind, (k = .cell ∨ k = .free) → (y, k) ∈ (relabel scope X.env).names → ∃ c, X.env.cells.lookup y = some c := fun k hk hm => by
      have z := List.all_eq_true.mp hasB _ hm
      have e : (!(k == NameKind.cell || k == NameKind.free)) = false := by rcases hk with rfl | rfl <;> rfl
      have z' : (!(k == NameKind.cell || k == NameKind.free) || (X.env.cells.lookup y).isSome) = true := z
      rw [e, Bool.false_or] at z'
      exact Option.isSome_iff_exists.mp z'
    rcases hy with h | h
    · exact go _ (.inl rfl) (PySem.mem_of_lookup h)
    · exact go _ (.inr rfl) (PySem.mem_of_lookup h)
  at' := fun j y h => by
    match j, h with
    | 0, h =>
      obtain rfl : x = y := by simpa using h
      exact ⟨i, rfl, hi, .inl hk, .inl hr⟩
    | j + 1, h => simp at h
  len := rfl
section
variable {X : Cx} {scope : Scope} {cl : List (Str × Addr)} {own fr : List Str} {idx : List Nat} {pins : List (Addr × Obj)} {σ : St} {H : Hp} {s : Shared}
theorem cst_own {j : Nat} (h : j < own.length) (v : V) : (cst own.length idx σ)[j]? ≠ some (some v) := fun e => by
  unfold cst at e
  rw [List.getElem?_append_left (by simpa using h), List.getElem?_replicate] at e
  split at e <;> cases e
theorem cst_free {j : Nat} {v : V} (h : own.length ≤ j) (e : (cst own.length idx σ)[j]? = some (some v)) : ∃ i, idx[j - own.length]? = some i ∧ σ[i]? = some (some v) := by
  unfold cst at e
  rw [List.getElem?_append_right (by simpa using h), List.length_replicate, List.getElem?_map] at e
  cases q : idx[j - own.length]? with
  | none => rw [q] at e; cases e
  | some i =>
    rw [q] at e
    refine ⟨i, rfl, ?_⟩
    have e' : (σ[i]?).join = some v := Option.some.inj e
    cases z : σ[i]? with
    | none => rw [z] at e'; cases e'
    | some o => rw [z] at e'; exact congrArg some e'
theorem Inv.comp (CS : CompScope X scope cl own fr idx) (I : Inv X pins σ H s) {fp : List Addr} (hf : ∀ b ∈ fp, FpOk X pins H b) (hlt : ∀ b ∈ fp, b < s.heap.objs.size) {C : Addr} {h₁ : Heap} {t' : Nat} (hC : s.heap.objs.size ≤ C)
    {m₁ : Str → Option Value} (hns : h₁.Ns C m₁) (k : ∀ b o, s.heap.get? b = some o → h₁.get? b = some o) {pl : List (Addr × Obj)} (hp : ∀ p ∈ pl, h₁.get? p.1 = some p.2 ∧ H p.1 = none ∧ p.1 ≠ C ∧ p.1 ∉ frs X.stack ∧ ∀ v, p.2.data ≠ .cell v) :
    Inv (compCx X scope cl (own ++ fr) C fp pins s H) pl (cst own.length idx σ) H { s with heap := h₁, toks := t' } := by
  have nstk : ∀ b, b ≠ X.env.locals → b ∉ X.fs → b ∉ frs X.stack := fun b h1 h2 z => (List.mem_cons.mp (I.stkSub b z)).elim h1 h2
  refine ⟨⟨I.ok.mod, CS.kind, I.ok.glob, I.ok.blt, hC, fun x y c h1 h2 => I.ok.inj x y c (CS.sub x c h1) (CS.sub y c h2), fun x hx => CS.has x hx, fun x c z _ => absurd (show false = true from z) (by decide), I.ok.hd, I.ok.frames, .inl rfl,
    fun b hb => ⟨Nat.ne_of_lt (Nat.lt_of_lt_of_le (hlt b hb) hC), fun x c e => (hf b hb).2.2.2.2.1 x c (CS.sub x c e)⟩, I.bs, Nat.le_trans I.ok.bsz I.sz, fun b o e hb => ?_, fun b hb => nstk b (hf b hb).2.1 (hf b hb).2.2.1, I.stack, I.stkFree⟩,
    rfl, I.bare, Un.kept k, ⟨m₁, hns, fun i x v e1 e2 e3 => ?_⟩, fun x c e => ?_, I.hok.fresh hC, fun x c e => I.freeC x c (CS.sub x c e), fun p hpp => ?_, I.hok.kept k, ?_⟩
  · rcases (hf b hb).2.2.2.1 with z | z
    · exact I.ok.noex b o e z
    · exact absurd (Nat.lt_of_lt_of_le (Heap.lt_size (I.ok.bs b o e).1) z) (Nat.lt_irrefl _)
  · by_cases hi : i < own.length
    · exact absurd e2 (cst_own hi v)
    · have hi' : own.length ≤ i := Nat.le_of_not_lt hi
      obtain ⟨i', hx', hσ⟩ := cst_free hi' e2
      have e1' : fr[i - own.length]? = some x := by
        have e1'' : (own ++ fr)[i]? = some x := e1
        rw [List.getElem?_append_right hi'] at e1''
        exact e1''
      obtain ⟨i'', hi2, hN, hk, hr⟩ := CS.at' _ x e1'
      rw [hx'] at hi2
      cases hi2
      obtain ⟨m, hn, hl⟩ := I.loc
      obtain ⟨u, r, l⟩ := hl i' x v hN hσ (.inr hk)
      refine ⟨u, r, ?_⟩
      rcases l with ⟨kl, _⟩ | ⟨_, c, hc, o, ho, hd⟩
      · exfalso
        rcases hk with z | z <;> (rw [kl] at z; cases z)
      · obtain ⟨c', hc'⟩ := CS.has x hr
        have e := CS.sub x c' hc'
        rw [hc] at e
        cases e
        exact .inr ⟨hr, c, hc', o, k _ _ ho, hd⟩
  · obtain ⟨v, o, ho, hd⟩ := I.cell x c (CS.sub x c e)
    exact ⟨v, o, k _ _ ho, hd⟩
  · rcases List.mem_append.mp (show p ∈ (X.pn ++ pins) ++ pl from hpp) with z | z
    · obtain ⟨e, n, ne, nf, d⟩ := I.pin p z
      exact ⟨k _ _ e, n, Nat.ne_of_lt (Nat.lt_of_lt_of_le (Heap.lt_size e) hC), nstk _ ne nf, d⟩
    · exact hp p z
  · show (cst own.length idx σ).length = (own ++ fr).length
    unfold cst
    rw [List.length_append, List.length_replicate, List.length_map, List.length_append, CS.len]
end
section
variable {prog : Program} {w : World} {A : Around} {R : Result → Shared → Prop} {s : Shared}
theorem comp_loop {el tgt itr : Expr} {sc : Scope} {ps : Pos} {itv ac : Value} {ev : Env} (Iv : Nat → Shared → Prop)
    (turn : ∀ k z, Iv k z → wpAny (model prog w) A (pyNext itv) (fun r z1 => match r with
      | none => R (.ok .next) z1
      | some v => wpAny (model prog w) A (letOwnedTupleGo tgt itv v) (fun _ z2 => wpAny (model prog w) A (assign tgt ev v) (fun _ z3 => wpAny (model prog w) A (eval el ev) (fun x z4 =>
          wpAny (model prog w) A (call (.builtin "list.append") [ac, x]) (fun _ z5 => ∃ m, m < k ∧ Iv m z5) (fun _ _ => False) z4) (fun _ _ => False) z3) (fun _ _ => False) z2) (fun _ _ => False) z1) (fun _ _ => False) z)
    (n : Nat) (h : Iv n s) : codeAny (model prog w) A (.compLoop (.ListComp el [⟨tgt, itr, [], 0⟩] sc ps) 0 itv ac ev) R s := by
  refine codeAny_loop rfl Iv (fun k z hI => ?_) n h
  show wpAny _ A ((compTurn (.ListComp el [⟨tgt, itr, [], 0⟩] sc ps) 0 itv ac ev).onRaise (fun x => do noteFrame x ev; theTreesLotGoes x)) _ _ z
  refine wpAny_noted ?_
  rw [compTurn_list1]
  refine wpAny_bind (wpAny_standAt (wpAny_bind (wpAny_mono (turn k z hI) (fun r z1 h1 => ?_) fun _ _ q => q.elim)))
  cases r with
  | none => exact wpAny_pure h1
  | some v =>
    refine wpAny_bind (wpAny_mono h1 (fun _ z2 h2 => ?_) fun _ _ q => q.elim)
    refine wpAny_bind (wpAny_mono h2 (fun _ z3 h3 => ?_) fun _ _ q => q.elim)
    refine wpAny_bind (wpAny_bind (wpAny_mono h3 (fun x z4 h4 => ?_) fun _ _ q => q.elim))
    exact wpAny_bind (wpAny_mono h4 (fun _ z5 h5 => wpAny_pure (wpAny_pure ⟨rfl, h5⟩)) fun _ _ q => q.elim)
end
section
variable {X : Cx} {scope : Scope} {cl : List (Str × Addr)} {own fr : List Str} {idx : List Nat} {elt tg iter : Expr} {pos : Pos} {g : TG} {te : TE} {wi : TI}
abbrev lobj (its : List Value) (c : Nat) : Obj := { cls := .type "list", data := .seq its.toArray c }
theorem comp_core {E : Value → Shared → Prop} {pins : List (Addr × Obj)} {σ : St} {H2 : Hp} {s2 : Shared} {it : Addr} {fp : List Addr} {tn : Nat → Heap → Prop} {J : It}
    (CS : CompScope X scope cl own fr idx) (hc : X.calm = true) (hg : ∀ C fp pins s H, PG (compCx X scope cl (own ++ fr) C fp pins s H) tg g) (he : ∀ C fp pins s H, PE (compCx X scope cl (own ++ fr) C fp pins s H) elt te)
    (I2 : Inv X pins σ H2 s2) (T : Turn X.prog X.w X.K tg J fp it tn) (st : tn 0 s2.heap) (f2 : ∀ b ∈ fp, FpOk X pins H2 b)
    {W : Nat → List V → Hp → Prop} {n : Nat} {Fin : List V → Hp → Prop} (hn : n ≤ sizeLine) (w0 : W 0 [] H2)
    (turn : ∀ i ys H, W i ys H → (J.stop i H ∧ Fin ys H) ∨ (J.go i H ∧ i < n ∧ ∀ x H', J.yld i H x H' → g x (cst own.length idx σ) H' fun σ' H'' =>
      (σ'.drop own.length = (cst own.length idx σ).drop own.length ∧ σ'.length = (cst own.length idx σ).length) ∧ te σ' H'' fun y H3 => W (i + 1) (ys ++ [y]) H3))
    {RR : Value → Addr → Result → Shared → Prop}
    (hRR : ∀ D C s' m' ys H', Inv X pins σ (upd H' D (.lst ys)) s' → s'.heap.Ns C m' → FpOk X pins (upd H' D (.lst ys)) C → H' D = none → Fin ys H' → RR (.ref D) C (.ok .next) s') :
    wpAny (model X.prog X.w) X.A (newList []) (fun acc s3 => wpAny (model X.prog X.w) X.A (newFunctionEnv scope X.env.globals cl [] X.env.qual none .none (some X.env)) (fun cenv s4 =>
      codeAny (model X.prog X.w) X.A (.compStart (.ListComp elt [⟨tg, iter, [], 0⟩] scope pos) 0 (.ref it) acc { cenv with scope := relabel scope X.env }) (RR acc cenv.locals) s4) E s3) E s2 := by
  have hob := T.obj 0 _ st
  have hlt : ∀ b ∈ fp, b < s2.heap.objs.size := fun b hb => by obtain ⟨o, e, _⟩ := hob b hb; exact Heap.lt_size e
  refine wpAny_newObj_type (wpAny_newFunctionEnv CS.nocell (by intro y hy; simp at hy) (fun h₁ hns₁ hsb₁ => ?_) CS.kind)
  dsimp only at hns₁ hsb₁ ⊢
  generalize hH : s2.heap.push { cls := .type "list", dict := none, data := .seq ([] : List Value).toArray } = hp at hns₁ hsb₁ ⊢
  have hCs : hp.objs.size = s2.heap.objs.size + 1 := by rw [← hH, Heap.size_push]
  have hDC : s2.heap.objs.size ≠ hp.objs.size := by omega
  have hCge : s2.heap.objs.size ≤ hp.objs.size := by omega
  have old : ∀ b o, s2.heap.get? b = some o → h₁.get? b = some o := fun b o e => by
    have hb := Heap.lt_size e
    exact hsb₁.extBut b o (Nat.ne_of_lt (Nat.lt_of_lt_of_le hb hCge)) (Heap.get?_push_of_some _ (hH ▸ Heap.get?_push_of_some _ e))
  have hacc : h₁.get? s2.heap.objs.size = some (lobj [] 0) := hsb₁.extBut _ _ hDC (Heap.get?_push_of_some _ (hH ▸ Heap.get?_push_size _ rfl))
  have hst₁ : tn 0 h₁ := T.keep _ _ _ st fun b _ o e => old b o e
  have hDfs : s2.heap.objs.size ∉ frs X.stack := fun z => by
    rcases List.mem_cons.mp (I2.stkSub _ z) with e | e
    · exact absurd I2.lt (by rw [← e]; exact Nat.lt_irrefl _)
    · exact I2.nofs (Nat.le_refl _) e
  have cellNe : ∀ x c, cl.lookup x = some c → c ≠ s2.heap.objs.size := fun x c e z => by
    obtain ⟨v, o, ho, hd⟩ := I2.cell x c (CS.sub x c e)
    exact absurd (Heap.lt_size ho) (by rw [z]; exact Nat.lt_irrefl _)
  have key : ∀ s3 : Shared, s3 = { s2 with heap := h₁, toks := s2.toks + ([] : List (Str × Value)).length } →
      codeAny (model X.prog X.w) X.A (.compLoop (.ListComp elt [⟨tg, iter, [], 0⟩] scope pos) 0 (.ref it) (.ref s2.heap.objs.size) (compEnvC scope cl hp.objs.size X.env)) (RR (.ref s2.heap.objs.size) hp.objs.size) s3 := by
    rintro s3 rfl
    have I0 : Inv (compCx X scope cl (own ++ fr) hp.objs.size fp pins s2 H2) [(s2.heap.objs.size, lobj [] 0)] (cst own.length idx σ) H2 { s2 with heap := h₁, toks := s2.toks + ([] : List (Str × Value)).length } :=
      Inv.comp CS I2 f2 hlt hCge hns₁ old fun p hp' => by
        obtain rfl := List.mem_singleton.mp hp'
        exact ⟨hacc, I2.hok.fresh (Nat.le_refl _), hDC, hDfs, fun v z => by cases z⟩
    refine comp_loop (fun k s' => ∃ i ys its c H', k = n + 1 - i ∧ ys.length = i ∧ i ≤ n ∧ Vals ys its ∧ Inv (compCx X scope cl (own ++ fr) hp.objs.size fp pins s2 H2) [(s2.heap.objs.size, lobj its c)] (cst own.length idx σ) H' s' ∧
      tn i s'.heap ∧ (∀ b ∈ fp, H' b = none) ∧ W i ys H') ?_ (n + 1) ⟨0, [], [], 0, H2, rfl, rfl, Nat.zero_le _, .nil, I0, hst₁, fun b hb => (f2 b hb).1, w0⟩
    rintro k s' ⟨i, ys, its, c, H', rfl, hyl, hin, rv, I', st', fr', w'⟩
    have fpc : ∀ {Hx : Hp} {itx : List Value} {cx : Nat}, (∀ b ∈ fp, Hx b = none) → ∀ b ∈ fp, FpOk (compCx X scope cl (own ++ fr) hp.objs.size fp pins s2 H2) [(s2.heap.objs.size, lobj itx cx)] Hx b := fun {Hx itx cx} hx b hb => by
      obtain ⟨f0, f1, f3, f4, f5, f6⟩ := f2 b hb
      refine ⟨hx b hb, ?_, fun z => (List.mem_cons.mp (I2.stkSub b z)).elim f1 f3, .inl hb, fun x c' e => f5 x c' (CS.sub x c' e), fun p hpp => ?_⟩
      · exact Nat.ne_of_lt (Nat.lt_of_lt_of_le (hlt b hb) hCge)
      · rcases List.mem_append.mp (show p ∈ (X.pn ++ pins) ++ [(s2.heap.objs.size, lobj itx cx)] from hpp) with z | z
        · exact f6 p z
        · obtain rfl := List.mem_singleton.mp z
          exact Nat.ne_of_gt (hlt b hb)
    rcases turn i ys H' w' with ⟨stop, fin⟩ | ⟨go, hilt, step⟩
    · refine thn (T.done (compCx X scope cl (own ++ fr) hp.objs.size fp pins s2 H2) rfl rfl rfl hc i _ s' _ H' (fun _ _ => False) I' (fpc fr') st' stop) fun r s1 ⟨hr, I1⟩ => ?_
      subst hr
      obtain ⟨eD, nD, _, _, _⟩ := I1.pin (s2.heap.objs.size, lobj its c) (List.mem_append_right _ (List.mem_singleton.mpr rfl))
      have un : Un (frs X.stack) fp H2 H' s2.heap s1.heap := I1.base
      have Ix : Inv X pins σ H' s1 := I2.call' I1.os un I1.hok I1.bare fun b hb => ⟨(f2 b hb).2.2.2.1, (f2 b hb).2.1, (f2 b hb).2.2.2.2.1, (f2 b hb).2.2.2.2.2⟩
      obtain ⟨m, hnm, _⟩ := I1.loc
      refine hRR s2.heap.objs.size hp.objs.size s1 m ys H' (Ix.track (I2.fpOk (Nat.le_refl _) nD) ⟨by rw [hyl]; exact Nat.le_trans hin hn, its, c, rv, eD⟩) hnm (I2.fpOk hCge ?_) nD fin
      rw [upd_ne (Ne.symm hDC)]
      exact I1.free
    · refine thn (T.item (compCx X scope cl (own ++ fr) hp.objs.size fp pins s2 H2) rfl rfl rfl hc i _ s' _ H' (fun _ _ => False) I' (fpc fr') st' go) fun r s1 ⟨u, hr, h1⟩ => ?_
      subst hr
      refine thn h1 fun _ s3 ⟨x, H3, I3, rx, yl, st3, fr3⟩ => ?_
      have I3' := I3.pinned (fpc fr3) (T.obj _ _ st3)
      refine thn (hg hp.objs.size fp pins s2 H2 _ s3 _ H3 x u _ I3' rx (step x H3 yl)) fun _ s4 ⟨σ4, H4, I4, ⟨q4, q4'⟩, q4''⟩ => ?_
      refine thn (he hp.objs.size fp pins s2 H2 _ s4 σ4 H4 _ I4 q4'') fun y s5 ⟨yv, H5, I5, ry, q5⟩ => ?_
      obtain ⟨eD, nD, neD, nfD, dD⟩ := I5.pin (s2.heap.objs.size, lobj its c) (List.mem_append_right _ (List.mem_append_left _ (List.mem_singleton.mpr rfl)))
      have hil : its.length = i := by rw [← rv.length]; exact hyl
      refine append_at (hsz := by rw [List.size_toArray, hil]; exact Nat.le_trans hin hn) eD fun h6 sb e6 => ?_
      have pinF : ∀ b ∈ fp, ∀ o, s3.heap.get? b = some o → s5.heap.get? b = some o ∧ H5 b = none := fun b hb o e => by
        have z := I5.pin (b, o) (List.mem_append_right _ (List.mem_append_right _ (mem_pinsAt hb e)))
        exact ⟨z.1, z.2.1⟩
      have I5a : Inv (compCx X scope cl (own ++ fr) hp.objs.size fp pins s2 H2) [] σ4 H5 s5 := I5.pins_of fun p hp' => nomatch hp'
      have I6 : Inv (compCx X scope cl (own ++ fr) hp.objs.size fp pins s2 H2) [] σ4 H5 { s5 with heap := h6 } := by
        refine I5a.turned (t' := s5.toks) (it := s2.heap.objs.size) (fun b o hb e => (sb.2 b hb).trans e) nD neD (.inr (Nat.le_refl _)) (fun x c' e => cellNe x c' e) fun p hpp => ?_
        rcases List.mem_append.mp (show p ∈ (X.pn ++ pins) ++ [] from hpp) with z | z
        · exact Nat.ne_of_lt (Heap.lt_size (I2.pin p z).1)
        · cases z
      have I7 : Inv (compCx X scope cl (own ++ fr) hp.objs.size fp pins s2 H2) [(s2.heap.objs.size, lobj (its ++ [y]) (c + 1))] σ4 H5 { s5 with heap := h6 } := I6.pins_of fun p hp' => by
        obtain rfl := List.mem_singleton.mp hp'
        refine ⟨?_, nD, neD, nfD, fun v z => by cases z⟩
        show h6.get? s2.heap.objs.size = some (lobj (its ++ [y]) (c + 1))
        rw [e6, List.push_toArray]
      have I8 := I7.weak (σ' := cst own.length idx σ) q4'.symm fun j v hj => by
        by_cases hjo : j < own.length
        · exact absurd hj (cst_own hjo v)
        · have z : (σ4.drop own.length)[j - own.length]? = ((cst own.length idx σ).drop own.length)[j - own.length]? := by rw [q4]
          rw [List.getElem?_drop, List.getElem?_drop, show own.length + (j - own.length) = j by omega] at z
          rw [z]; exact hj
      refine ⟨n + 1 - (i + 1), by omega, i + 1, ys ++ [yv], its ++ [y], c + 1, H5, rfl, by rw [List.length_append, hyl]; rfl, hilt, rv.append (.cons ry .nil), I8, ?_, fun b hb => ?_, q5⟩
      · refine T.keep _ _ _ st3 fun b hb o e => ?_
        have z := (pinF b hb o e).1
        exact (sb.2 b (Nat.ne_of_lt (hlt b hb))).trans z
      · obtain ⟨o, e, _⟩ := T.obj _ _ st3 b hb
        exact (pinF b hb o e).2
  exact codeAny_compStart_list (key _ rfl) (T.self _ 0 _ _ _ hst₁ (key _ rfl))
def tComp (wi : TI) (g : TG) (te : TE) (k : Nat) (idx : List Nat) : TE := fun σ H Q => wi σ H fun J H1 => ∃ (W : Nat → List V → Hp → Prop) (n : Nat), n ≤ sizeLine ∧ W 0 [] H1 ∧ ∀ i ys H, W i ys H →
  (J.stop i H ∧ ∀ D, H D = none → Q (.ref D) (upd H D (.lst ys))) ∨ (J.go i H ∧ i < n ∧ ∀ x H', J.yld i H x H' → g x (cst k idx σ) H' fun σ' H'' =>
    (σ'.drop k = (cst k idx σ).drop k ∧ σ'.length = (cst k idx σ).length) ∧ te σ' H'' fun y H3 => W (i + 1) (ys ++ [y]) H3)
theorem pe_comp (hc : X.calm = true) (CS : CompScope X scope cl own fr idx) (hi : PI X tg iter wi) (hg : ∀ C fp pins s H, PG (compCx X scope cl (own ++ fr) C fp pins s H) tg g) (he : ∀ C fp pins s H, PE (compCx X scope cl (own ++ fr) C fp pins s H) elt te)
    (hs : ∀ x, foldedSetIterable iter X.env x = pure x := by intro _; rfl) : PE X (.ListComp elt [⟨tg, iter, [], 0⟩] scope pos) (tComp wi g te own.length idx) := by
  intro pins s σ H Q I h
  rw [eval_ListComp]
  refine wpAny_comprehension_free (use := none) rfl hs CS.clos CS.kind CS.names (thn (hi pins s σ H _ I h) fun v s1 h1 => thn h1 fun itv s2 h2 => ?_)
  obtain ⟨it, fp, tn, J, H2, e, I2, T, st, f2, W, n, hn, w0, turn⟩ := h2
  subst e
  refine comp_core (RR := fun acc C => compPost (model X.prog X.w) X.A X.xe none (EP X pins σ Q) acc C) CS hc hg he I2 T st f2 hn w0 turn fun D C s' m' ys H' I' hns fC nD fin => ?_
  refine ⟨m', hns, fun h'' sb => ⟨.ref D, _, ?_, rfl, fin D nD⟩⟩
  obtain ⟨f0, f1, _, f3, f4, f5⟩ := fC
  exact I'.turned (t' := s'.toks) (fun b o hb e => (sb.2 b hb).trans e) f0 f1 f3 f4 f5
theorem ps_comp {i : Nat} {y : Str} {py spos : Pos} (hc : X.calm = true) (hN : X.N.Nodup) (hiN : X.N[i]? = some y) (hy : X.env.kindOf y = some .local) (CS : CompScope X scope cl own fr idx) (hi : PI X tg iter wi)
    (hg : ∀ C fp pins s H, PG (compCx X scope cl (own ++ fr) C fp pins s H) tg g) (he : ∀ C fp pins s H, PE (compCx X scope cl (own ++ fr) C fp pins s H) elt te)
    (hsw : swapsWith (.ListComp elt [⟨tg, iter, [], 0⟩] scope pos) (some (.Name y py)) spos.line X.env = pure true := by rfl)
    (hs : ∀ x, foldedSetIterable iter X.env x = pure x := by intro _; rfl) : PS X (.Assign [.Name y py] (.ListComp elt [⟨tg, iter, [], 0⟩] scope pos) spos) (tAsg (tComp wi g te own.length idx) (gName i)) := by
  intro pins s σ H Dn I h
  rw [exec_Assign_Name_used _ _ _ _ hsw]
  refine wpAny_bind (wpAny_standAt (wpAny_bind ?_))
  show wpAny _ X.A (do let _ ← comprehension (.ListComp elt [⟨tg, iter, [], 0⟩] scope pos) scope X.env _ (newList []) false (eval iter X.env) (some (assign (.Name y py) X.env))) _ _ s
  refine wpAny_bind (wpAny_mono (wpAny_comprehension_free (use := some (assign (.Name y py) X.env)) (Q := fun _ s' => SP X pins Dn .next s') rfl hs CS.clos CS.kind CS.names
    (thn (hi pins s σ H _ I h) fun v s1 h1 => thn h1 fun itv s2 h2 => ?_)) (fun _ s' hq => wpAny_pure (wpAny_pure hq)) fun _ _ e => e)
  obtain ⟨it, fp, tn, J, H2, e, I2, T, st, f2, W, n, hn, w0, turn⟩ := h2
  subst e
  refine comp_core (RR := fun acc C => compPost (model X.prog X.w) X.A X.xe (some (assign (.Name y py) X.env)) (fun _ s' => SP X pins Dn .next s') acc C) CS hc hg he I2 T st f2 hn w0 turn fun D C s' m' ys H' I' hns fC nD fin => ?_
  obtain ⟨oC, es, ep, hoC, hdC, rC⟩ := id hns
  have Ip : Inv X (pins ++ [(C, oC)]) σ (upd H' D (.lst ys)) s' := I'.pins_of fun p hp => (List.mem_append.mp hp).elim (fun z => I'.pin p (List.mem_append_right _ z)) fun z => by
    obtain rfl := List.mem_singleton.mp z
    exact ⟨hoC, fC.1, fC.2.1, fC.2.2.1, fun v q => by rw [hdC] at q; cases q⟩
  show wpAny _ X.A (assign (.Name y py) X.env (.ref D)) _ _ _
  refine wpAny_assign_Name (store_ok (v := .ref D) Ip hN hiN (.inl hy) rfl (fun s2' I3 => ?_) (.inr hy))
  have eC := (I3.pin (C, oC) (List.mem_append_right _ (List.mem_append_right _ (List.mem_singleton.mpr rfl)))).1
  refine ⟨m', ⟨oC, es, ep, eC, hdC, rC⟩, fun h'' sb => ⟨_, _, ?_, fin D nD⟩⟩
  obtain ⟨f0, f1, _, f3, f4, f5⟩ := fC
  exact I3.unpinned.turned (t' := s2'.toks) (fun b o hb e => (sb.2 b hb).trans e) f0 f1 f3 f4 f5
end
end L2
set_option Elab.async false
set_option linter.all false
set_option maxRecDepth 100000
set_option maxHeartbeats 4000000
namespace L2
open PySem PySem.Spec PySem.Calls PyProof.Rows
theorem ne_cls {h : Heap} {a b : Addr} {o o' : Obj} (e : h.get? a = some o) (e' : h.get? b = some o') (d : o.cls ≠ o'.cls) : a ≠ b := fun z => by
  subst z; rw [e] at e'; cases e'; exact d rfl
theorem list_ne {h : Heap} {a b : Addr} {its : Array Value} {o' : Obj} (e : h.IsList a its) (e' : h.get? b = some o') (d : o'.cls ≠ .type "list") : a ≠ b := by
  obtain ⟨o, ho, hc, _⟩ := e
  exact ne_cls ho e' (by rw [hc]; exact fun z => d z.symm)
theorem vt_ne {a b : String} (h : a ≠ b) : Value.type a ≠ Value.type b := fun z => h (by injection z)
def Itz (K : PySem.W.Frag) (a b : Addr) : It :=
  ⟨fun i H => ∃ xs ys x y, SqL K H a xs ∧ SqL K H b ys ∧ xs[i]? = some x ∧ ys[i]? = some y,
   fun i H v H' => ∃ p x y, H p = none ∧ v = .ref p ∧ H' = upd H p (.tup [x, y]) ∧ (∀ xs, SqL K H a xs → xs[i]? = some x) ∧ ∀ ys, SqL K H b ys → ys[i]? = some y,
   fun i H => ∃ xs ys, SqL K H a xs ∧ SqL K H b ys ∧ (xs.length ≤ i ∨ ys.length ≤ i)⟩
theorem turn_zip {P : Program} {w : World} {K : PySem.W.Frag} {elts : List Expr} {kk : Nat} {tp : Pos} (a b z TI TO i1 i2 : Addr) (n1 : TI ≠ z) (n2 : TO ≠ z) (n3 : i1 ≠ z) (n4 : i2 ≠ z) (n5 : TI ≠ TO) (n6 : TI ≠ i1) (n7 : TI ≠ i2) (n8 : TO ≠ i1) (n9 : TO ≠ i2) (n10 : i1 ≠ i2) :
    Turn P w K (.Tuple elts kk tp) (Itz K a b) [z, TI, TO, i1, i2] z (fun i h => IsZip h z TI TO .none ∧ IsPair h TI (.ref i1) (.ref i2) ∧ (∃ u v, IsPair h TO u v) ∧ h.IsListIter i1 a i ∧ h.IsListIter i2 b i) := by
  have apart : ∀ {h : Heap} {its1 its2 : Array Value} {i : Nat} {u v f0 : Value}, IsZip h z TI TO f0 → IsPair h TO u v → h.IsListIter i1 a i → h.IsListIter i2 b i → h.IsList a its1 → h.IsList b its2 → ZipApart z TI TO i1 i2 a b := fun {h its1 its2 i u v f0} hz hTO h1 h2 l1 l2 => by
    obtain ⟨o1, e1, c1, _⟩ := h1
    obtain ⟨o2, e2, c2, _⟩ := h2
    exact ⟨n1, n2, n3, n4, n5, n6, n7, n8, n9, n10, list_ne l1 hz (vt_ne (by decide)), list_ne l1 hTO (vt_ne (by decide)), list_ne l1 e1 (by rw [c1]; decide), list_ne l1 e2 (by rw [c2]; decide),
      list_ne l2 hz (vt_ne (by decide)), list_ne l2 hTO (vt_ne (by decide)), list_ne l2 e1 (by rw [c1]; decide), list_ne l2 e2 (by rw [c2]; decide)⟩
  have objs : ∀ i h, (IsZip h z TI TO .none ∧ IsPair h TI (.ref i1) (.ref i2) ∧ (∃ u v, IsPair h TO u v) ∧ h.IsListIter i1 a i ∧ h.IsListIter i2 b i) → ∀ c ∈ [z, TI, TO, i1, i2], ∃ o, h.get? c = some o ∧ ∀ v, o.data ≠ .cell v := by
    rintro i h ⟨hz, hTI, ⟨u, v, hTO⟩, ⟨o1, e1, c1, d1⟩, ⟨o2, e2, c2, d2⟩⟩ c hc
    simp only [List.mem_cons, List.not_mem_nil, or_false] at hc
    rcases hc with rfl | rfl | rfl | rfl | rfl
    · exact ⟨_, hz, fun v q => by cases q⟩
    · exact ⟨_, hTI, fun v q => by cases q⟩
    · exact ⟨_, hTO, fun v q => by cases q⟩
    · exact ⟨_, e1, fun v q => by rw [d1] at q; cases q⟩
    · exact ⟨_, e2, fun v q => by rw [d2] at q; cases q⟩
  refine ⟨by simp, objs, ?_, ?_, ?_, fun A i s Q E st h => wpAny_pyIter_zip st.1 h⟩
  · rintro i h h' ⟨hz, hTI, ⟨u, v, hTO⟩, h1, h2⟩ k
    exact ⟨k z (by simp) _ hz, k TI (by simp) _ hTI, ⟨u, v, k TO (by simp) _ hTO⟩, h1.at fun o e => k i1 (by simp) o e, h2.at fun o e => k i2 (by simp) o e⟩
  · intro X hP hw hK hc i pins s σ H E I hf st hg
    subst hP hw hK
    obtain ⟨xs, ys, x, y, hq1, hq2, hx, hy⟩ := hg
    obtain ⟨its1, rv1, p1, hz1⟩ := I.list hq1
    obtain ⟨its2, rv2, p2, hz2⟩ := I.list hq2
    obtain ⟨u1, hu1, ru1⟩ := rv1.get hx
    obtain ⟨u2, hu2, ru2⟩ := rv2.get hy
    have hlt : ∀ c ∈ [z, TI, TO, i1, i2], c < s.heap.objs.size := fun c hc => by obtain ⟨o, e, _⟩ := objs i _ st c hc; exact Heap.lt_size e
    obtain ⟨sz, sTI, ⟨ta, tb, sTO⟩, s1, s2⟩ := id st
    have W := WalksT.zip2 (prog := X.prog) (w := X.w) (A := X.A) (I.ok.hd hc) z TI TO i1 i2 a b (apart sz sTO s1 s2 p1.isList p2.isList) its1.toArray its2.toArray
    have l1 : i < its1.length := (List.getElem?_eq_some_iff.mp hu1).1
    have l2 : i < its2.length := (List.getElem?_eq_some_iff.mp hu2).1
    refine W.item i s _ _ (by rw [List.size_toArray, List.size_toArray]; omega) ⟨sz, sTI, ⟨ta, tb, sTO⟩, s1, s2, p1.isList, p2.isList⟩ fun T vals h' tk hv hT htup hmid hk => ?_
    obtain ⟨v1, v2, e1, e2, rfl⟩ := hv
    have e1' : v1 = u1 := by
      have q : its1[i]? = some v1 := by simpa using e1
      rw [hu1] at q; exact (Option.some.inj q).symm
    have e2' : v2 = u2 := by
      have q : its2[i]? = some v2 := by simpa using e2
      rw [hu2] at q; exact (Option.some.inj q).symm
    subst e1' e2'
    refine ⟨.ref T, rfl, W.go elts kk tp i T { s with heap := h', toks := tk } _ _ hmid fun h'' hst hk2 => ?_⟩
    have I1 : Inv X pins σ H { s with heap := h'', toks := tk } := I.turns (ch := [z, TO, i1, i2]) (fun c o hb e => hk2 c o hb (hk c o hb e)) fun c hb => hf c (by
      simp only [List.mem_cons, List.not_mem_nil, or_false] at hb ⊢
      rcases hb with q | q | q | q <;> simp [q])
    have hTn : H T = none := I.hok.fresh hT
    have tupT : h''.IsTuple T #[v1, v2] := by
      obtain ⟨o, e, r⟩ := htup
      exact ⟨o, hk2 T o (W.apart i T h' hmid) e, r⟩
    refine ⟨.ref T, upd H T (.tup [x, y]), I1.track (I.fpOk hT hTn) ⟨by show 2 ≤ sizeLine; decide, [v1, v2], .cons ru1 (.cons ru2 .nil), tupT⟩, rfl,
      ⟨T, x, y, hTn, rfl, rfl, fun zs h => by rw [I.list_inj h hq1]; exact hx, fun zs h => by rw [I.list_inj h hq2]; exact hy⟩, ⟨hst.1, hst.2.1, hst.2.2.1, hst.2.2.2.1, hst.2.2.2.2.1⟩, fun c hc' => ?_⟩
    rw [upd_ne (Nat.ne_of_lt (Nat.lt_of_lt_of_le (hlt c hc') hT))]
    exact (hf c hc').1
  · intro X hP hw hK hc i pins s σ H E I hf st hg
    subst hP hw hK
    obtain ⟨xs, ys, hq1, hq2, hend⟩ := hg
    obtain ⟨its1, rv1, p1, hz1⟩ := I.list hq1
    obtain ⟨its2, rv2, p2, hz2⟩ := I.list hq2
    obtain ⟨sz, sTI, ⟨ta, tb, sTO⟩, s1, s2⟩ := id st
    have m1 := rv1.length
    have m2 := rv2.length
    refine wpAny_pyNext_zip_end (I.ok.hd hc) (apart sz sTO s1 s2 p1.isList p2.isList) sz sTI sTO s1 s2 p1.isList p2.isList (hend.imp (fun q => by simp; omega) fun q => by simp; omega) fun h' hk => ⟨rfl, ?_⟩
    refine I.turns (t' := s.toks) (ch := [z, TO, i1, i2]) (fun c o hb e => ?_) fun c hb => hf c (by
      simp only [List.mem_cons, List.not_mem_nil, or_false] at hb ⊢
      rcases hb with q | q | q | q <;> simp [q])
    simp only [List.mem_cons, List.not_mem_nil, or_false, not_or] at hb
    exact hk c o hb.1 hb.2.1 hb.2.2.1 hb.2.2.2 e
section
variable {X : Cx} {elts : List Expr} {kk : Nat} {tp : Pos}
def iZip (K : PySem.W.Frag) (ta : TA) : TI := fun σ H R => ta σ H fun vs H1 => ∃ a b, vs = [.ref a, .ref b] ∧ (∃ xs, SqL K H1 a xs) ∧ (∃ ys, SqL K H1 b ys) ∧ R (Itz K a b) H1
theorem boot_zipT : bootBuiltins "zip" = some (.type "zip") := by decide +kernel
theorem boot_enumT : bootBuiltins "enumerate" = some (.type "enumerate") := by decide +kernel
theorem pi_zip {a b : Expr} {ta : TA} {p pos : Pos} (hg : Gl X "zip") (hm : X.mg "zip" = none) (ha : PA X [a, b] ta) (hs : starEach [a, b] X.env = [(false, eval a X.env), (false, eval b X.env)] := by rfl) (hs2 : starEach [b] X.env = [(false, eval b X.env)] := by rfl) :
    PI X (.Tuple elts kk tp) (.Call (.Name "zip" p) [a, b] [] pos) (iZip X.K ta) := by
  intro pins s σ H R I h
  refine Call_ (ld_blt I hg hm boot_zipT (PyProof.Rows.callWith_type1 (thn (ha pos pins s σ H _ I h) fun us s1 ⟨vs, H1, I1, r1, q1⟩ => ?_) (by rw [hs, hs2]) (by rw [hs2]; rfl)))
  obtain ⟨l1, l2, e, ⟨xs, hq1⟩, ⟨ys, hq2⟩, q⟩ := q1
  subst e
  cases r1 with
  | cons ra rr =>
    cases rr with
    | cons rb rr =>
      cases rr
      cases ra
      cases rb
      obtain ⟨its1, rv1, p1, _⟩ := I1.list hq1
      obtain ⟨its2, rv2, p2, _⟩ := I1.list hq2
      refine call_zip_2 p1.isList p2.isList fun h' hz hTI hTO h1 h2 hsz hk => ?_
      have I2 : Inv X pins σ H1 { s1 with heap := h' } := I1.kept (t' := s1.toks) hk
      refine wpAny_pyIter_zip hz ⟨s1.heap.objs.size + 4, [s1.heap.objs.size + 4, s1.heap.objs.size + 2, s1.heap.objs.size + 3, s1.heap.objs.size, s1.heap.objs.size + 1], _, _, H1, rfl, I2,
        turn_zip l1 l2 _ _ _ _ _ (by show @Ne Nat _ _; omega) (by show @Ne Nat _ _; omega) (by show @Ne Nat _ _; omega) (by show @Ne Nat _ _; omega) (by show @Ne Nat _ _; omega) (by show @Ne Nat _ _; omega) (by show @Ne Nat _ _; omega) (by show @Ne Nat _ _; omega) (by show @Ne Nat _ _; omega) (by show @Ne Nat _ _; omega), ⟨hz, hTI, ⟨_, _, hTO⟩, h1, h2⟩, fun c hc => ?_, q⟩
      have hge : s1.heap.objs.size ≤ c := by
        simp only [List.mem_cons, List.not_mem_nil, or_false] at hc
        rcases hc with q | q | q | q | q <;> (rw [q]; show (_ : Nat) ≤ _; omega)
      exact I1.fpOk hge (I1.hok.fresh hge)
end
def Ite (K : PySem.W.Frag) (a : Addr) : It :=
  ⟨fun i H => ∃ xs x, SqL K H a xs ∧ xs[i]? = some x,
   fun i H v H' => ∃ p x, H p = none ∧ v = .ref p ∧ H' = upd H p (.tup [.int i, x]) ∧ ∀ xs, SqL K H a xs → xs[i]? = some x,
   fun i H => ∃ xs, SqL K H a xs ∧ xs.length ≤ i⟩
theorem turn_enum {P : Program} {w : World} {K : PySem.W.Frag} {elts : List Expr} {kk : Nat} {tp : Pos} (a e it : Addr) (hei : e ≠ it) :
    Turn P w K (.Tuple elts kk tp) (Ite K a) [e, it] e (fun i h => (∃ old, IsEnum h e it i old) ∧ h.IsListIter it a i) := by
  have objs : ∀ (i : Nat) (h : Heap), ((∃ old, IsEnum h e it i old) ∧ h.IsListIter it a i) → ∀ c ∈ [e, it], ∃ o, h.get? c = some o ∧ ∀ v, o.data ≠ .cell v := by
    rintro i h ⟨⟨old, he⟩, ⟨o1, e1, c1, d1⟩⟩ c hc
    simp only [List.mem_cons, List.not_mem_nil, or_false] at hc
    rcases hc with rfl | rfl
    · exact ⟨_, he, fun v q => by cases q⟩
    · exact ⟨_, e1, fun v q => by rw [d1] at q; cases q⟩
  refine ⟨by simp, objs, ?_, ?_, ?_, fun A i s Q E st h => by obtain ⟨⟨old, he⟩, _⟩ := st; exact wpAny_pyIter_enum he h⟩
  · rintro i h h' ⟨⟨old, he⟩, h1⟩ k
    exact ⟨⟨old, k e (by simp) _ he⟩, h1.at fun o q => k it (by simp) o q⟩
  · intro X hP hw hK hc i pins s σ H E I hf st hg
    subst hP hw hK
    obtain ⟨xs, x, hq, hx⟩ := hg
    obtain ⟨its, rv, p1, hz⟩ := I.list hq
    obtain ⟨u, hu, ru⟩ := rv.get hx
    have hlt : ∀ c ∈ [e, it], c < s.heap.objs.size := fun c hc => by obtain ⟨o, q, _⟩ := objs i _ st c hc; exact Heap.lt_size q
    obtain ⟨⟨old, he⟩, hit⟩ := id st
    obtain ⟨o1, e1, c1, _⟩ := id hit
    have W := WalksT.enumerate (prog := X.prog) (w := X.w) (A := X.A) (I.ok.hd hc) e it a hei (list_ne p1.isList he (vt_ne (by decide))) (list_ne p1.isList e1 (by rw [c1]; decide)) its.toArray
    have l1 : i < its.length := (List.getElem?_eq_some_iff.mp hu).1
    refine W.item i s _ _ (by rw [List.size_toArray]; exact l1) ⟨⟨old, he⟩, hit, p1.isList⟩ fun T vals h' tk hv hT htup hmid hk => ?_
    obtain ⟨t, v1, q1, rfl⟩ := hv
    have e1' : v1 = u := by
      have q : its[i]? = some v1 := by simpa using q1
      rw [hu] at q; exact (Option.some.inj q).symm
    subst e1'
    refine ⟨.ref T, rfl, W.go elts kk tp i T { s with heap := h', toks := tk } _ _ hmid fun h'' hst hk2 => ?_⟩
    have I1 : Inv X pins σ H { s with heap := h'', toks := tk } := I.turns (ch := [e, it]) (fun c o hb q => hk2 c o hb (hk c o hb q)) hf
    have hTn : H T = none := I.hok.fresh hT
    have tupT : h''.IsTuple T #[.int i t, v1] := by
      obtain ⟨o, q, r⟩ := htup
      exact ⟨o, hk2 T o (W.apart i T h' hmid) q, r⟩
    refine ⟨.ref T, upd H T (.tup [.int i, x]), I1.track (I.fpOk hT hTn) ⟨by show 2 ≤ sizeLine; decide, [.int i t, v1], .cons ⟨t, rfl⟩ (.cons ru .nil), tupT⟩, rfl,
      ⟨T, x, hTn, rfl, rfl, fun zs h => by rw [I.list_inj h hq]; exact hx⟩, ⟨hst.1, hst.2.1⟩, fun c hc' => ?_⟩
    rw [upd_ne (Nat.ne_of_lt (Nat.lt_of_lt_of_le (hlt c hc') hT))]
    exact (hf c hc').1
  · intro X hP hw hK hc i pins s σ H E I hf st hg
    subst hP hw hK
    obtain ⟨xs, hq, hend⟩ := hg
    obtain ⟨its, rv, p1, hz⟩ := I.list hq
    obtain ⟨⟨old, he⟩, hit⟩ := id st
    have m1 := rv.length
    refine wpAny_pyNext_enum_end (I.ok.hd hc) he hit p1.isList (by simp; omega) fun h' hk => ⟨rfl, ?_⟩
    exact I.turns (t' := s.toks) (ch := [e, it]) (fun c o hb q => hk c o (fun z => hb (by simp [z])) q) hf
section
variable {X : Cx} {elts : List Expr} {kk : Nat} {tp : Pos}
def iEnum (K : PySem.W.Frag) (ta : TA) : TI := fun σ H R => ta σ H fun vs H1 => ∃ a, vs = [.ref a] ∧ (∃ xs, SqL K H1 a xs) ∧ R (Ite K a) H1
theorem pi_enum {a : Expr} {ta : TA} {p pos : Pos} (hg : Gl X "enumerate") (hm : X.mg "enumerate" = none) (ha : PA X [a] ta) (hs : starEach [a] X.env = [(false, eval a X.env)] := by rfl) :
    PI X (.Tuple elts kk tp) (.Call (.Name "enumerate" p) [a] [] pos) (iEnum X.K ta) := by
  intro pins s σ H R I h
  refine Call_ (ld_blt I hg hm boot_enumT (PyProof.Rows.callWith_type1 (thn (ha pos pins s σ H _ I h) fun us s1 ⟨vs, H1, I1, r1, q1⟩ => ?_) hs rfl))
  obtain ⟨l1, e, ⟨xs, hq1⟩, q⟩ := q1
  subst e
  cases r1 with
  | cons ra rr =>
    cases rr
    cases ra
    obtain ⟨its1, rv1, p1, _⟩ := I1.list hq1
    refine call_enumerate_list p1.isList fun h' he hit hsz hk => ?_
    have I2 : Inv X pins σ H1 { s1 with heap := h' } := I1.kept (t' := s1.toks) hk
    refine wpAny_pyIter_enum he ⟨s1.heap.objs.size + 1, [s1.heap.objs.size + 1, s1.heap.objs.size], _, _, H1, rfl, I2, turn_enum l1 _ _ (by show @Ne Nat _ _; omega), ⟨⟨_, he⟩, hit⟩, fun c hc => ?_, q⟩
    have hge : s1.heap.objs.size ≤ c := by
      simp only [List.mem_cons, List.not_mem_nil, or_false] at hc
      rcases hc with q | q <;> (rw [q]; show (_ : Nat) ≤ _; omega)
    exact I1.fpOk hge (I1.hok.fresh hge)
end
theorem for_enum {K : PySem.W.Frag} {a : Addr} {xs : List V} {g : TG} {tb : TS} {D : Ends} {σ : St} {H : Hp} (Pv : Nat → St → Hp → Prop) (h0 : Pv 0 σ H) (hl : ∀ i σ H, i ≤ xs.length → Pv i σ H → SqL K H a xs)
    (hs : ∀ (i : Nat) x σ H p, xs[i]? = some x → Pv i σ H → H p = none → g (.ref p) σ (upd H p (.tup [.int i, x])) fun σ2 H2 => tb { D with nx := Pv (i + 1), ct := Pv (i + 1), bk := D.nx } σ2 H2) (hd : ∀ σ H, Pv xs.length σ H → D.nx σ H) :
    ∃ W : Nat → Nat → St → Hp → Prop, (∃ m, W 0 m σ H) ∧ ∀ i m σ H, W i m σ H →
      ((Ite K a).stop i H ∧ D.nx σ H) ∨ ((Ite K a).go i H ∧ ∃ N : St → Hp → Prop, (∀ σ' H', N σ' H' → ∃ m', m' < m ∧ W (i + 1) m' σ' H') ∧ ∀ x H', (Ite K a).yld i H x H' → g x σ H' fun σ2 H2 => tb { D with nx := N, ct := N, bk := D.nx } σ2 H2) := by
  refine ⟨fun i m σ H => m = xs.length - i ∧ i ≤ xs.length ∧ Pv i σ H, ⟨xs.length, by simp, Nat.zero_le _, h0⟩, ?_⟩
  rintro i m σ H ⟨rfl, hi, p⟩
  have q := hl i σ H hi p
  by_cases hlt : i < xs.length
  · refine .inr ⟨⟨xs, xs[i], q, by simp [hlt]⟩, Pv (i + 1), fun σ' H' p' => ⟨xs.length - (i + 1), by omega, rfl, hlt, p'⟩, fun x H' y => ?_⟩
    obtain ⟨pp, xx, hp, rfl, rfl, hy⟩ := y
    exact hs i xx σ H pp (hy xs q) p hp
  · have e : i = xs.length := by omega
    subst e
    exact .inl ⟨⟨xs, q, Nat.le_refl _⟩, hd σ H p⟩
theorem comp_list {K : PySem.W.Frag} {a : Addr} {xs : List V} {g : TG} {te : TE} {σ0 : St} {k : Nat} {H : Hp} {Fin : List V → Hp → Prop} (hz : xs.length ≤ sizeLine) (Pv : Nat → List V → Hp → Prop) (h0 : Pv 0 [] H) (hl : ∀ i ys H, i ≤ xs.length → Pv i ys H → SqL K H a xs)
    (hs : ∀ i x ys H, xs[i]? = some x → Pv i ys H → g x σ0 H fun σ' H'' => (σ'.drop k = σ0.drop k ∧ σ'.length = σ0.length) ∧ te σ' H'' fun y H3 => Pv (i + 1) (ys ++ [y]) H3)
    (hd : ∀ ys H, Pv xs.length ys H → Fin ys H) :
    ∃ (W : Nat → List V → Hp → Prop) (n : Nat), n ≤ sizeLine ∧ W 0 [] H ∧ ∀ i ys H, W i ys H →
      ((Itl K a).stop i H ∧ Fin ys H) ∨ ((Itl K a).go i H ∧ i < n ∧ ∀ x H', (Itl K a).yld i H x H' → g x σ0 H' fun σ' H'' =>
        (σ'.drop k = σ0.drop k ∧ σ'.length = σ0.length) ∧ te σ' H'' fun y H3 => W (i + 1) (ys ++ [y]) H3) := by
  refine ⟨fun i ys H => i ≤ xs.length ∧ Pv i ys H, xs.length, hz, ⟨Nat.zero_le _, h0⟩, ?_⟩
  rintro i ys H ⟨hi, p⟩
  have q := hl i ys H hi p
  by_cases hlt : i < xs.length
  · refine .inr ⟨⟨xs, xs[i], q, by simp [hlt]⟩, hlt, fun x H' y => ?_⟩
    obtain ⟨e, y⟩ := y
    subst e
    have z := hs i x ys _ (y xs q) p
    have e2 : (fun (y : V) (H3 : Hp) => i + 1 ≤ xs.length ∧ Pv (i + 1) (ys ++ [y]) H3) = fun y H3 => Pv (i + 1) (ys ++ [y]) H3 := by
      funext y H3
      exact propext ⟨fun h => h.2, fun h => ⟨hlt, h⟩⟩
    show g x σ0 _ fun σ' H'' => (σ'.drop k = σ0.drop k ∧ σ'.length = σ0.length) ∧ te σ' H'' fun y H3 => i + 1 ≤ xs.length ∧ Pv (i + 1) (ys ++ [y]) H3
    rw [e2]
    exact z
  · have e : i = xs.length := by omega
    subst e
    exact .inl ⟨⟨xs, q, Nat.le_refl _⟩, hd ys H p⟩
theorem comp_zip {K : PySem.W.Frag} {a b : Addr} {xs zs : List V} {g : TG} {te : TE} {σ0 : St} {k : Nat} {H : Hp} {Fin : List V → Hp → Prop} (hz : xs.length ≤ sizeLine) (hlen : xs.length = zs.length) (Pv : Nat → List V → Hp → Prop) (h0 : Pv 0 [] H)
    (hl : ∀ i ys H, i ≤ xs.length → Pv i ys H → SqL K H a xs ∧ SqL K H b zs)
    (hs : ∀ i x z ys H p, xs[i]? = some x → zs[i]? = some z → Pv i ys H → H p = none → g (.ref p) σ0 (upd H p (.tup [x, z])) fun σ' H'' => (σ'.drop k = σ0.drop k ∧ σ'.length = σ0.length) ∧ te σ' H'' fun y H3 => Pv (i + 1) (ys ++ [y]) H3)
    (hd : ∀ ys H, Pv xs.length ys H → Fin ys H) :
    ∃ (W : Nat → List V → Hp → Prop) (n : Nat), n ≤ sizeLine ∧ W 0 [] H ∧ ∀ i ys H, W i ys H →
      ((Itz K a b).stop i H ∧ Fin ys H) ∨ ((Itz K a b).go i H ∧ i < n ∧ ∀ x H', (Itz K a b).yld i H x H' → g x σ0 H' fun σ' H'' =>
        (σ'.drop k = σ0.drop k ∧ σ'.length = σ0.length) ∧ te σ' H'' fun y H3 => W (i + 1) (ys ++ [y]) H3) := by
  refine ⟨fun i ys H => i ≤ xs.length ∧ Pv i ys H, xs.length, hz, ⟨Nat.zero_le _, h0⟩, ?_⟩
  rintro i ys H ⟨hi, p⟩
  obtain ⟨q1, q2⟩ := hl i ys H hi p
  by_cases hlt : i < xs.length
  · have hlt2 : i < zs.length := by omega
    refine .inr ⟨⟨xs, zs, xs[i], zs[i], q1, q2, by simp [hlt], by simp [hlt2]⟩, hlt, fun x H' y => ?_⟩
    obtain ⟨pp, xx, zz, hp, rfl, rfl, hx, hy⟩ := y
    have z := hs i xx zz ys H pp (hx xs q1) (hy zs q2) p hp
    have e2 : (fun (y : V) (H3 : Hp) => i + 1 ≤ xs.length ∧ Pv (i + 1) (ys ++ [y]) H3) = fun y H3 => Pv (i + 1) (ys ++ [y]) H3 := by
      funext y H3
      exact propext ⟨fun h => h.2, fun h => ⟨hlt, h⟩⟩
    show g _ σ0 _ fun σ' H'' => (σ'.drop k = σ0.drop k ∧ σ'.length = σ0.length) ∧ te σ' H'' fun y H3 => i + 1 ≤ xs.length ∧ Pv (i + 1) (ys ++ [y]) H3
    rw [e2]
    exact z
  · have e : i = xs.length := by omega
    subst e
    exact .inl ⟨⟨xs, zs, q1, q2, .inl (Nat.le_refl _)⟩, hd ys H p⟩
theorem getD_at {α : Type} {l : List α} {i : Nat} {d : α} (h : i < l.length) : l.getD i d = l[i] := by simp [h]
theorem not_here {h : Heap} {b : Addr} {o : Obj} (e : h.get? b = some o) : b ∉ [h.objs.size] := fun z => by
  have := Heap.lt_size e
  rw [List.mem_singleton.mp z] at this
  exact Nat.lt_irrefl _ this
theorem range_all : ∀ bs : List Bool, (List.range bs.length).all (fun i => bs.getD i true) = bs.all fun b => b
  | [] => rfl
  | b :: bs => by
    rw [List.length_cons, List.range_succ_eq_map, List.all_cons, List.all_map, List.all_cons, ← range_all bs]
    rfl
section
variable {X : Cx}
theorem call_sumL (hc : X.calm = true) : CallR X (.builtin "sum") (fun xs H Q => ∃ (p : Addr) (ns : List Int), xs = [.ref p] ∧ SqL X.K H p (ns.map V.int) ∧ Q (.int ns.sum) H) := by
  intro pins s σ H xs us Q I r h
  obtain ⟨p, ns, rfl, hq, q⟩ := h
  obtain ⟨u, rfl, rx⟩ := vals1 r
  cases rx
  obtain ⟨its, rv, pl, hz⟩ := I.list hq
  have hi : IntsAre its ns := intsAre_of rv
  obtain ⟨xs, e⟩ := hi.allInts.items
  have hns : ns = xs.toList.map (·.1) := by rw [← hi.numsOf, ← nums_intItems, ← e]
  have hl := pl.isList
  rw [e] at hl
  refine sum_intListG (I.ok.hd hc) hl fun h' tk t' hk => ⟨.int ns.sum, H, I.kept hk, ⟨t', ?_⟩, q⟩
  rw [hns, preSum_eq, List.take_of_length_le (by simp)]
theorem call_sortedL : CallR X (.builtin "sorted") (fun xs H Q => ∃ (p : Addr) (ns : List Int), xs = [.ref p] ∧ SqL X.K H p (ns.map V.int) ∧ ns.length < 64 ∧ ∀ (ns' : List Int) (l : Addr), ns'.Perm ns → ns'.Pairwise (· ≤ ·) → H l = none → Q (.ref l) (upd H l (.lst (ns'.map V.int)))) := by
  intro pins s σ H xs us Q I r h
  obtain ⟨p, ns, rfl, hq, h64, q⟩ := h
  obtain ⟨u, rfl, rx⟩ := vals1 r
  cases rx
  obtain ⟨its, rv, pl, hz⟩ := I.list hq
  have hi : IntsAre its ns := intsAre_of rv
  have hl : its.length = ns.length := by rw [← rv.length, List.length_map]
  refine sorted_ints pl.isList hi (by omega) fun out ns' a1 a2 a3 => ?_
  obtain ⟨e, he⟩ := sortedAll_at s.heap its out
  have hn : H (s.heap.objs.size + 1) = none := I.hok.fresh (Nat.le_succ _)
  refine ⟨.ref (s.heap.objs.size + 1), _, I.laid (t' := s.toks) (o := .lst (ns'.map V.int)) (fun b o q => sortedAll_old q) (Nat.le_succ _) ?_, rfl, q ns' _ a2 a3 hn⟩
  refine ⟨?_, out.toList, e, vals_ints a1, ?_⟩
  · rw [List.length_map, a2.length_eq]
    rw [List.length_map] at hz
    exact hz
  · rw [he]
    all_goals first | rfl | simp [seqObj]
theorem call_allL (hc : X.calm = true) : CallR X (.builtin "all") (fun xs H Q => ∃ (p : Addr) (bs : List Bool), xs = [.ref p] ∧ SqL X.K H p (bs.map V.bl) ∧ Q (.bl (bs.all fun b => b)) H) := by
  intro pins s σ H xs us Q I r h
  obtain ⟨p, bs, rfl, hq, q⟩ := h
  obtain ⟨u, rfl, rx⟩ := vals1 r
  cases rx
  obtain ⟨its, rv, pl, hz⟩ := I.list hq
  have hlen : its.length = bs.length := by rw [← rv.length, List.length_map]
  have hlt : p < s.heap.objs.size := by obtain ⟨_, e, _⟩ := pl.isList; exact Heap.lt_size e
  refine call_all_walk (wpAny_pyIter_list pl.isList ⟨s.heap.objs.size, _, _, _, _, _, fun i => bs.getD i true, rfl, Walks.list (A := X.A.in1) (I.ok.hd hc) s.heap.objs.size p (Nat.ne_of_lt hlt) its.toArray,
    ⟨⟨_, Heap.get?_push_size _ rfl, rfl, rfl⟩, pl.isList.push _⟩, ?_, fun h' tk hk => ⟨.bl (bs.all fun b => b), H, ?_, ?_, q⟩⟩)
  · intro i v s' Q' E' hP hQ
    have hP' : its[i]? = some v := by simpa using hP
    have hi : i < bs.length := by have := (List.getElem?_eq_some_iff.mp hP').1; omega
    obtain ⟨u, hu, ru⟩ := rv.get (i := i) (x := V.bl bs[i]) (by rw [List.getElem?_map, List.getElem?_eq_getElem hi]; rfl)
    rw [hP'] at hu
    cases hu
    cases (show v = Value.bool bs[i] from ru)
    refine wpAny_truthy_bool ?_
    have e : bs.getD i true = bs[i] := getD_at hi
    rw [← e]
    exact hQ
  · exact I.kept fun b o e => hk b o (not_here e) (Heap.get?_push_of_some _ e)
  · show Value.bool _ = Value.bool _
    congr 1
    rw [List.size_toArray, hlen, range_all]
theorem call_isi : CallR X (.builtin "isinstance") (fun xs H Q => ∃ x c t b, xs = [x, .ty c] ∧ TyOf X.K H x t ∧ PySem.W.kitOne X.K t (.type c) = some b ∧ Q (.bl b) H) := by
  intro pins s σ H xs us Q I r h
  obtain ⟨x, c, t, b, rfl, ht, hb, q⟩ := h
  obtain ⟨u1, u2, rfl, r1, r2⟩ := vals2 r
  cases (show u2 = Value.type c from r2)
  exact isinst_ok I r1 ht hb fun tk => ⟨.bl b, H, I.tok tk, rfl, q⟩
end
section
variable {X : Cx} {K : PySem.W.Frag}
theorem ix_tupK (hK : X.K = K) : IxR X (rIxT K) := by subst hK; exact ix_tup
theorem ix_listK (hK : X.K = K) : IxR X (rIxL K) := by subst hK; exact ix_list
theorem pg_two {x y : Str} {i j : Nat} {px py tp : Pos} {kk : Nat} (hK : X.K = K) (hc : X.calm = true) (hN : X.N.Nodup) (hi : X.N[i]? = some x) (hj : X.N[j]? = some y) (hx : X.env.scope.names.lookup x = some .local) (hy : X.env.scope.names.lookup y = some .local) :
    PG X (.Tuple [.Name x px, .Name y py] kk tp) (gTup K 2 (gCons (gName i) (gCons (gName j) gNil))) := by
  subst hK
  exact pg_tup hc (pgs_cons (pg_name hN hi (.inl hx) (.inr hx)) (pgs_cons (pg_name hN hj (.inl hy) (.inr hy)) pgs_nil rfl) rfl) rfl rfl
end
theorem kit_ii {K : PySem.W.Frag} : PySem.W.kitOne K (.type "int") (.type "int") = some true := by rfl
theorem kit_ib {K : PySem.W.Frag} : PySem.W.kitOne K (.type "int") (.type "bool") = some false := by kernel_rfl
theorem kit_ll {K : PySem.W.Frag} : PySem.W.kitOne K (.type "list") (.type "list") = some true := by rfl
theorem kit_tt {K : PySem.W.Frag} : PySem.W.kitOne K (.type "tuple") (.type "tuple") = some true := by rfl
theorem boot_intT : bootBuiltins "int" = some (.type "int") := by decide +kernel
theorem boot_boolT : bootBuiltins "bool" = some (.type "bool") := by decide +kernel
theorem boot_listT : bootBuiltins "list" = some (.type "list") := by decide +kernel
theorem boot_tupleT : bootBuiltins "tuple" = some (.type "tuple") := by decide +kernel
theorem boot_isi : bootBuiltins "isinstance" = some (.builtin "isinstance") := by decide +kernel
theorem boot_allB : bootBuiltins "all" = some (.builtin "all") := by decide +kernel
theorem boot_absB : bootBuiltins "abs" = some (.builtin "abs") := by decide +kernel
section
variable {prog : Program} {w : World} {A : Around} {R : Result → Shared → Prop} {I : Addr} {fp wr : List Addr} {n : Nat} {P : Nat → Value → Prop} {St : Nat → Heap → Prop} {d : Value}
theorem args_maxD (a v : Value) : argsOk "max" ⟨[a], [(Str.ofString "default", v)]⟩ := by unfold argsOk; kernel_rfl
theorem max_loopD (W : Walks prog w A.in1 I fp wr n P St) (val : Nat → Int) (hval : ∀ i v, P i v → ∃ t, v = .int (val i) t) (S : Addr) (hSf : S ∉ fp) :
    ∀ (k i j : Nat) (z : Shared) (vb : Value) (c : Nat), n - i = k → i ≤ n → j < i → St i z.heap → P j vb → (∀ i', i' < i → val i' ≤ val j) →
    z.heap.get? S = some { cls := .type "list", dict := none, data := .seq #[vb, vb] c, slots := #[] } →
    (∀ j' v h' tk, j' < n → P j' v → (∀ i', i' < n → val i' ≤ val j') → (∀ b o, b ∉ wr → b ≠ S → z.heap.get? b = some o → h'.get? b = some o) → R (.ok (.ret v)) { z with heap := h', toks := tk }) →
    codeAny (model prog w) A (.builtin "max.loop" ⟨[.ref I, .none, .ref S], [(Str.ofString "default", d)]⟩) R z := by
  have hSw : S ∉ wr := fun h => hSf (W.sub _ h)
  have hname : (toString "max" ++ toString ".loop" : String) = "max.loop" := by decide
  intro k
  induction k with
  | zero =>
    intro i j z vb c hk hi hj hst hPb hbest hS hR
    have hin : i = n := by omega
    subst hin
    refine codeAny_builtin PySem.F.entry_max_loop ?_
    rw [Around.under_plainId PySem.F.plain_max_loop _]
    show wpAny _ A.in1 (seqItems? (.ref S) >>= _) _ _ z
    refine wpAny_bind (wpAny_seqItems hS rfl ?_)
    show wpAny _ A.in1 (tryCatch (pyNext (.ref I)) _ >>= _) _ _ z
    refine wpAny_bind (wpAny_tryCatch (W.done z _ _ hst fun h' tk hk' => ?_))
    show wpAny _ A.in1 (updateSeq S (fun _ => #[]) >>= _) _ _ _
    refine wpAny_bind (wpAny_updateSeq (hk' S _ hSw hS) rfl (wpAny_bind (wpAny_letGo (wpAny_pure ?_))))
    exact hR j vb _ tk hj hPb hbest fun b o hbw hbS e => (Heap.get?_update_other _ _ (Ne.symm hbS)).trans (hk' b o hbw e)
  | succ k ih =>
    intro i j z vb c hk hi hj hst hPb hbest hS hR
    have hlt : i < n := by omega
    refine codeAny_builtin PySem.F.entry_max_loop ?_
    rw [Around.under_plainId PySem.F.plain_max_loop _]
    show wpAny _ A.in1 (seqItems? (.ref S) >>= _) _ _ z
    refine wpAny_bind (wpAny_seqItems hS rfl ?_)
    show wpAny _ A.in1 (tryCatch (pyNext (.ref I)) _ >>= _) _ _ z
    refine wpAny_bind (wpAny_tryCatch (W.item i z _ _ hlt hst fun v h' tk hP hst' hk' => ?_))
    have hS' := hk' S _ hSw hS
    show wpAny _ A.in1 (tryCatch (holding [v, v] (richCompare .Gt v vb >>= _)) _ >>= _) _ _ _
    refine wpAny_bind (wpAny_tryCatch (wpAny_holding (wpAny_bind (CmpOf.ints_gt val hval i j v vb _ _ _ hP hPb ?_))))
    refine wpAny_bind (wpAny_holding (wpAny_truthy_bool ?_))
    refine wpAny_bind (wpAny_letGo (wpAny_pure ?_))
    by_cases hb : val i > val j
    · simp only [decide_eq_true hb, if_true]
      refine wpAny_bind (wpAny_updateSeq hS' rfl (wpAny_bind (wpAny_letGo ?_)))
      rw [hname]
      refine wpAny_pure ⟨plainId_quiet PySem.F.plain_max_loop _, ih (i + 1) i _ v _ (by omega) hlt (Nat.lt_succ_self _) (W.frame _ _ _ hst' fun b hbf o e => ?_) hP (fun i' hi' => ?_) (Heap.get?_update_self _ hS' rfl) fun j' v' h'' tk'' q1 q2 q3 q4 => ?_⟩
      · exact (Heap.get?_update_other _ _ (fun h : S = b => hSf (by rw [h]; exact hbf))).trans e
      · by_cases q : i' = i
        · subst q; exact Int.le_refl _
        · have := hbest i' (by omega)
          omega
      · exact hR j' v' h'' tk'' q1 q2 q3 fun b o hbw hbS e => q4 b o hbw hbS ((Heap.get?_update_other _ _ (Ne.symm hbS)).trans (hk' b o hbw e))
    · simp only [decide_eq_false hb, Bool.false_eq_true, if_false]
      refine wpAny_bind (wpAny_letGo ?_)
      rw [hname]
      refine wpAny_pure ⟨plainId_quiet PySem.F.plain_max_loop _, ih (i + 1) j _ vb c (by omega) hlt (by omega) hst' hPb (fun i' hi' => ?_) hS' fun j' v' h'' tk'' q1 q2 q3 q4 => ?_⟩
      · by_cases q : i' = i
        · subst q; omega
        · exact hbest i' (by omega)
      · exact hR j' v' h'' tk'' q1 q2 q3 fun b o hbw hbS e => q4 b o hbw hbS (hk' b o hbw e)
theorem max_loopD0 (W : Walks prog w A.in1 I fp wr n P St) (val : Nat → Int) (hval : ∀ i v, P i v → ∃ t, v = .int (val i) t) (S : Addr) (hSf : S ∉ fp) {z : Shared} {c : Nat} (hst : St 0 z.heap)
    (hS : z.heap.get? S = some { cls := .type "list", dict := none, data := .seq #[] c, slots := #[] })
    (h0 : n = 0 → ∀ h' tk, (∀ b o, b ∉ wr → b ≠ S → z.heap.get? b = some o → h'.get? b = some o) → R (.ok (.ret d)) { z with heap := h', toks := tk })
    (hR : ∀ j' v h' tk, j' < n → P j' v → (∀ i', i' < n → val i' ≤ val j') → (∀ b o, b ∉ wr → b ≠ S → z.heap.get? b = some o → h'.get? b = some o) → R (.ok (.ret v)) { z with heap := h', toks := tk }) :
    codeAny (model prog w) A (.builtin "max.loop" ⟨[.ref I, .none, .ref S], [(Str.ofString "default", d)]⟩) R z := by
  have hSw : S ∉ wr := fun h => hSf (W.sub _ h)
  have hname : (toString "max" ++ toString ".loop" : String) = "max.loop" := by decide
  refine codeAny_builtin PySem.F.entry_max_loop ?_
  rw [Around.under_plainId PySem.F.plain_max_loop _]
  show wpAny _ A.in1 (seqItems? (.ref S) >>= _) _ _ z
  refine wpAny_bind (wpAny_seqItems hS rfl ?_)
  show wpAny _ A.in1 (tryCatch (pyNext (.ref I)) _ >>= _) _ _ z
  by_cases hn : n = 0
  · subst hn
    refine wpAny_bind (wpAny_tryCatch (W.done z _ _ hst fun h' tk hk' => ?_))
    show wpAny _ A.in1 (rule _ >>= fun _ => ret d) _ _ _
    exact wpAny_bind (wpAny_rule (wpAny_pure (h0 rfl h' tk fun b o hbw _ e => hk' b o hbw e)))
  · refine wpAny_bind (wpAny_tryCatch (W.item 0 z _ _ (by omega) hst fun v h' tk hP hst' hk' => ?_))
    have hS' := hk' S _ hSw hS
    show wpAny _ A.in1 (updateSeq S (fun _ => #[v, v]) >>= _) _ _ _
    refine wpAny_bind (wpAny_updateSeq hS' rfl ?_)
    rw [hname]
    refine wpAny_pure ⟨plainId_quiet PySem.F.plain_max_loop _, max_loopD W val hval S hSf _ 1 0 _ v _ rfl (by omega) (by omega) (W.frame _ _ _ hst' fun b hbf o e => ?_) hP (fun i' hi' => by
      have : i' = 0 := by omega
      subst this; exact Int.le_refl _) (Heap.get?_update_self _ hS' rfl) fun j' v' h'' tk'' q1 q2 q3 q4 => ?_⟩
    · exact (Heap.get?_update_other _ _ (fun h : S = b => hSf (by rw [h]; exact hbf))).trans e
    · exact hR j' v' h'' tk'' q1 q2 q3 fun b o hbw hbS e => q4 b o hbw hbS ((Heap.get?_update_other _ _ (Ne.symm hbS)).trans (hk' b o hbw e))
end
section
variable {X : Cx}
theorem max_defaultL (hc : X.calm = true) {pins : List (Addr × Obj)} {s : Shared} {σ : St} {H : Hp} {p : Addr} {ns : List Int} {dv : V} {du : Value} {Q : VK} (I : Inv X pins σ H s) (hq : SqL X.K H p (ns.map V.int)) (rd : RelV dv du)
    (h0 : ns = [] → Q dv H) (h1 : ∀ M, M ∈ ns → (∀ a ∈ ns, a ≤ M) → Q (.int M) H) :
    wpAny (model X.prog X.w) X.A (call (.builtin "max") [.ref p] [(Str.ofString "default", du)]) (EP X pins σ Q) X.xe s := by
  have hname : (toString "max" ++ toString ".loop" : String) = "max.loop" := by decide
  obtain ⟨its, rv, pl, hz⟩ := I.list hq
  have hi : IntsAre its ns := intsAre_of rv
  have hlen : its.length = ns.length := by rw [← rv.length, List.length_map]
  have hlt : p < s.heap.objs.size := by obtain ⟨_, e, _⟩ := pl.isList; exact Heap.lt_size e
  refine kmb_tree PySem.F.kind_max PySem.F.plain_max PySem.F.entry_max (args_maxD _ _) ?_
  show wpAny _ X.A.in1 (Builtin.Builtins.bindParams "max" ["key", "default"] 0 ⟨[], [(Str.ofString "default", du)]⟩ >>= _) _ _ s
  refine wpAny_bind (wpAny_of_eq (show Builtin.Builtins.bindParams "max" ["key", "default"] 0 ⟨[], [(Str.ofString "default", du)]⟩ = pure [none, some du] from rfl) ?_)
  refine wpAny_bind (wpAny_pure ?_)
  refine wpAny_bind (wpAny_pyIter_list pl.isList ?_)
  refine wpAny_bind (wpAny_newObj_type ?_)
  rw [hname]
  have szp : (s.heap.push { cls := .type "list_iterator", data := .fields #[.ref p, .int 0 0] }).objs.size = s.heap.objs.size + 1 := Heap.size_push ..
  have W := Walks.list (prog := X.prog) (w := X.w) (A := X.A.in1) (I.ok.hd hc) s.heap.objs.size p (Nat.ne_of_lt hlt) its.toArray
  have hval : ∀ (i : Nat) (v : Value), its.toArray[i]? = some v → ∃ t, v = .int (ns.getD i 0) t := fun i v e => by
    have e' : its[i]? = some v := by simpa using e
    have hil : i < ns.length := by have := (List.getElem?_eq_some_iff.mp e').1; omega
    obtain ⟨u, hu, t, ru⟩ := rv.get (i := i) (x := V.int ns[i]) (by rw [List.getElem?_map, List.getElem?_eq_getElem hil]; rfl)
    rw [e'] at hu
    cases hu
    exact ⟨t, by rw [getD_at hil]; exact ru⟩
  refine wpAny_pure ⟨plainId_quiet PySem.F.plain_max_loop _, max_loopD0 W (fun i => ns.getD i 0) hval (s.heap.push { cls := .type "list_iterator", data := .fields #[.ref p, .int 0 0] }).objs.size (fun z => ?_) (c := 0)
    ⟨⟨_, Heap.get?_push_of_some _ (Heap.get?_push_size _ rfl), rfl, rfl⟩, (pl.isList.push _).push _⟩ (Heap.get?_push_size _ rfl) (fun hn h' tk hk => ?_) fun j v h' tk hj hP hb hk => ?_⟩
  · rw [szp] at z
    simp only [List.mem_cons, List.not_mem_nil, or_false] at z
    rcases z with z | z
    · exact absurd z (Nat.ne_of_gt (Nat.lt_succ_self _))
    · exact absurd hlt (by rw [← z]; exact Nat.not_lt.mpr (Nat.le_succ _))
  · have hns : ns = [] := by
      rw [List.size_toArray, hlen] at hn
      exact List.eq_nil_of_length_eq_zero hn
    refine ⟨dv, H, I.kept (t' := tk) fun b o e => ?_, rd, h0 hns⟩
    have hbl := Heap.lt_size e
    exact hk b o (not_here e) (by rw [szp]; exact Nat.ne_of_lt (Nat.lt_succ_of_lt hbl)) (Heap.get?_push_of_some _ (Heap.get?_push_of_some _ e))
  · rw [List.size_toArray, hlen] at hj hb
    obtain ⟨t, rfl⟩ := hval j v hP
    refine ⟨.int (ns.getD j 0), H, I.kept (t' := tk) fun b o e => ?_, ⟨t, rfl⟩, h1 _ ?_ fun a ha => ?_⟩
    · have hbl := Heap.lt_size e
      exact hk b o (not_here e) (by rw [szp]; exact Nat.ne_of_lt (Nat.lt_succ_of_lt hbl)) (Heap.get?_push_of_some _ (Heap.get?_push_of_some _ e))
    · rw [getD_at hj]
      exact List.getElem_mem hj
    · obtain ⟨i', hi', rfl⟩ := List.mem_iff_getElem.mp ha
      have z := hb i' hi'
      rw [getD_at hi'] at z
      exact z
def tmaxD (K : PySem.W.Frag) (ta : TA) (tk : TA) : TE := fun σ H Q => ta σ H fun vs H1 => tk σ H1 fun zs H2 => ∃ (p : Addr) (ns : List Int) (dv : V), vs = [.ref p] ∧ zs = [dv] ∧ SqL K H2 p (ns.map V.int) ∧ (ns = [] → Q dv H2) ∧ ∀ M, M ∈ ns → (∀ a ∈ ns, a ≤ M) → Q (.int M) H2
theorem pe_maxD {e : Expr} {p pos : Pos} {ta tk : TA} {kws : List Keyword} (hc : X.calm = true) (hg : Gl X "max") (hm : X.mg "max" = none) (ha : PA X [e] ta) (hkw : PK X kws tk)
    (hks : (backToKw pos (keywordEach kws X.env)).filterMap (·.1) = [Str.ofString "default"] := by rfl)
    (he : backTo pos (starEach [e] X.env) = (false, eval e X.env) :: backTo pos (starEach [] X.env) := by rfl) (hpl : (backTo pos (starEach [e] X.env)).any (·.1) = false := by rfl)
    (hall : (backToKw pos (keywordEach kws X.env)).all (·.1.isSome) = true := by rfl) (hno : (backToKw pos (keywordEach kws X.env)).any (·.1.isNone) = false := by rfl) :
    PE X (.Call (.Name "max" p) [e] kws pos) (tmaxD X.K ta tk) := by
  intro pins s σ H Q I h
  refine wpAny_Call_Name_kw (ld_blt I hg hm boot_max ?_)
  refine PyProof.Rows.callWith_kw (thn (ha pos pins s σ H _ I h) fun us s1 ⟨vs, H1, I1, r1, q1⟩ => ?_) he hpl hall hno
  refine thn (hkw pos pins s1 σ H1 _ I1 q1) fun ws s2 ⟨zs, H2, I2, rz, q2⟩ => ?_
  obtain ⟨l, ns, dv, rfl, rfl, hq, h0, h1⟩ := q2
  obtain ⟨u, rfl, ru⟩ := vals1 r1
  obtain ⟨wv, rfl, rw'⟩ := vals1 rz
  cases ru
  rw [hks]
  exact max_defaultL hc I2 hq rw' h0 h1
end
section
variable {prog : Program} {w : World} {A : Around} {R : Result → Shared → Prop} {I : Addr} {fp wr : List Addr} {n : Nat} {P : Nat → Value → Prop} {St : Nat → Heap → Prop} {d : Value}
theorem args_minD (a v : Value) : argsOk "min" ⟨[a], [(Str.ofString "default", v)]⟩ := by unfold argsOk; kernel_rfl
theorem min_loopD (W : Walks prog w A.in1 I fp wr n P St) (val : Nat → Int) (hval : ∀ i v, P i v → ∃ t, v = .int (val i) t) (S : Addr) (hSf : S ∉ fp) :
    ∀ (k i j : Nat) (z : Shared) (vb : Value) (c : Nat), n - i = k → i ≤ n → j < i → St i z.heap → P j vb → (∀ i', i' < i → val j ≤ val i') →
    z.heap.get? S = some { cls := .type "list", dict := none, data := .seq #[vb, vb] c, slots := #[] } →
    (∀ j' v h' tk, j' < n → P j' v → (∀ i', i' < n → val j' ≤ val i') → (∀ b o, b ∉ wr → b ≠ S → z.heap.get? b = some o → h'.get? b = some o) → R (.ok (.ret v)) { z with heap := h', toks := tk }) →
    codeAny (model prog w) A (.builtin "min.loop" ⟨[.ref I, .none, .ref S], [(Str.ofString "default", d)]⟩) R z := by
  have hSw : S ∉ wr := fun h => hSf (W.sub _ h)
  have hname : (toString "min" ++ toString ".loop" : String) = "min.loop" := by decide
  intro k
  induction k with
  | zero =>
    intro i j z vb c hk hi hj hst hPb hbest hS hR
    have hin : i = n := by omega
    subst hin
    refine codeAny_builtin PySem.F.entry_min_loop ?_
    rw [Around.under_plainId PySem.F.plain_min_loop _]
    show wpAny _ A.in1 (seqItems? (.ref S) >>= _) _ _ z
    refine wpAny_bind (wpAny_seqItems hS rfl ?_)
    show wpAny _ A.in1 (tryCatch (pyNext (.ref I)) _ >>= _) _ _ z
    refine wpAny_bind (wpAny_tryCatch (W.done z _ _ hst fun h' tk hk' => ?_))
    show wpAny _ A.in1 (updateSeq S (fun _ => #[]) >>= _) _ _ _
    refine wpAny_bind (wpAny_updateSeq (hk' S _ hSw hS) rfl (wpAny_bind (wpAny_letGo (wpAny_pure ?_))))
    exact hR j vb _ tk hj hPb hbest fun b o hbw hbS e => (Heap.get?_update_other _ _ (Ne.symm hbS)).trans (hk' b o hbw e)
  | succ k ih =>
    intro i j z vb c hk hi hj hst hPb hbest hS hR
    have hlt : i < n := by omega
    refine codeAny_builtin PySem.F.entry_min_loop ?_
    rw [Around.under_plainId PySem.F.plain_min_loop _]
    show wpAny _ A.in1 (seqItems? (.ref S) >>= _) _ _ z
    refine wpAny_bind (wpAny_seqItems hS rfl ?_)
    show wpAny _ A.in1 (tryCatch (pyNext (.ref I)) _ >>= _) _ _ z
    refine wpAny_bind (wpAny_tryCatch (W.item i z _ _ hlt hst fun v h' tk hP hst' hk' => ?_))
    have hS' := hk' S _ hSw hS
    show wpAny _ A.in1 (tryCatch (holding [v, v] (richCompare .Lt v vb >>= _)) _ >>= _) _ _ _
    refine wpAny_bind (wpAny_tryCatch (wpAny_holding (wpAny_bind (CmpOf.ints_lt val hval i j v vb _ _ _ hP hPb ?_))))
    refine wpAny_bind (wpAny_holding (wpAny_truthy_bool ?_))
    refine wpAny_bind (wpAny_letGo (wpAny_pure ?_))
    by_cases hb : val i < val j
    · simp only [decide_eq_true hb, if_true]
      refine wpAny_bind (wpAny_updateSeq hS' rfl (wpAny_bind (wpAny_letGo ?_)))
      rw [hname]
      refine wpAny_pure ⟨plainId_quiet PySem.F.plain_min_loop _, ih (i + 1) i _ v _ (by omega) hlt (Nat.lt_succ_self _) (W.frame _ _ _ hst' fun b hbf o e => ?_) hP (fun i' hi' => ?_) (Heap.get?_update_self _ hS' rfl) fun j' v' h'' tk'' q1 q2 q3 q4 => ?_⟩
      · exact (Heap.get?_update_other _ _ (fun h : S = b => hSf (by rw [h]; exact hbf))).trans e
      · by_cases q : i' = i
        · subst q; exact Int.le_refl _
        · have := hbest i' (by omega)
          omega
      · exact hR j' v' h'' tk'' q1 q2 q3 fun b o hbw hbS e => q4 b o hbw hbS ((Heap.get?_update_other _ _ (Ne.symm hbS)).trans (hk' b o hbw e))
    · simp only [decide_eq_false hb, Bool.false_eq_true, if_false]
      refine wpAny_bind (wpAny_letGo ?_)
      rw [hname]
      refine wpAny_pure ⟨plainId_quiet PySem.F.plain_min_loop _, ih (i + 1) j _ vb c (by omega) hlt (by omega) hst' hPb (fun i' hi' => ?_) hS' fun j' v' h'' tk'' q1 q2 q3 q4 => ?_⟩
      · by_cases q : i' = i
        · subst q; omega
        · exact hbest i' (by omega)
      · exact hR j' v' h'' tk'' q1 q2 q3 fun b o hbw hbS e => q4 b o hbw hbS (hk' b o hbw e)
theorem min_loopD0 (W : Walks prog w A.in1 I fp wr n P St) (val : Nat → Int) (hval : ∀ i v, P i v → ∃ t, v = .int (val i) t) (S : Addr) (hSf : S ∉ fp) {z : Shared} {c : Nat} (hst : St 0 z.heap)
    (hS : z.heap.get? S = some { cls := .type "list", dict := none, data := .seq #[] c, slots := #[] })
    (h0 : n = 0 → ∀ h' tk, (∀ b o, b ∉ wr → b ≠ S → z.heap.get? b = some o → h'.get? b = some o) → R (.ok (.ret d)) { z with heap := h', toks := tk })
    (hR : ∀ j' v h' tk, j' < n → P j' v → (∀ i', i' < n → val j' ≤ val i') → (∀ b o, b ∉ wr → b ≠ S → z.heap.get? b = some o → h'.get? b = some o) → R (.ok (.ret v)) { z with heap := h', toks := tk }) :
    codeAny (model prog w) A (.builtin "min.loop" ⟨[.ref I, .none, .ref S], [(Str.ofString "default", d)]⟩) R z := by
  have hSw : S ∉ wr := fun h => hSf (W.sub _ h)
  have hname : (toString "min" ++ toString ".loop" : String) = "min.loop" := by decide
  refine codeAny_builtin PySem.F.entry_min_loop ?_
  rw [Around.under_plainId PySem.F.plain_min_loop _]
  show wpAny _ A.in1 (seqItems? (.ref S) >>= _) _ _ z
  refine wpAny_bind (wpAny_seqItems hS rfl ?_)
  show wpAny _ A.in1 (tryCatch (pyNext (.ref I)) _ >>= _) _ _ z
  by_cases hn : n = 0
  · subst hn
    refine wpAny_bind (wpAny_tryCatch (W.done z _ _ hst fun h' tk hk' => ?_))
    show wpAny _ A.in1 (rule _ >>= fun _ => ret d) _ _ _
    exact wpAny_bind (wpAny_rule (wpAny_pure (h0 rfl h' tk fun b o hbw _ e => hk' b o hbw e)))
  · refine wpAny_bind (wpAny_tryCatch (W.item 0 z _ _ (by omega) hst fun v h' tk hP hst' hk' => ?_))
    have hS' := hk' S _ hSw hS
    show wpAny _ A.in1 (updateSeq S (fun _ => #[v, v]) >>= _) _ _ _
    refine wpAny_bind (wpAny_updateSeq hS' rfl ?_)
    rw [hname]
    refine wpAny_pure ⟨plainId_quiet PySem.F.plain_min_loop _, min_loopD W val hval S hSf _ 1 0 _ v _ rfl (by omega) (by omega) (W.frame _ _ _ hst' fun b hbf o e => ?_) hP (fun i' hi' => by
      have : i' = 0 := by omega
      subst this; exact Int.le_refl _) (Heap.get?_update_self _ hS' rfl) fun j' v' h'' tk'' q1 q2 q3 q4 => ?_⟩
    · exact (Heap.get?_update_other _ _ (fun h : S = b => hSf (by rw [h]; exact hbf))).trans e
    · exact hR j' v' h'' tk'' q1 q2 q3 fun b o hbw hbS e => q4 b o hbw hbS ((Heap.get?_update_other _ _ (Ne.symm hbS)).trans (hk' b o hbw e))
end
section
variable {X : Cx}
theorem min_defaultL (hc : X.calm = true) {pins : List (Addr × Obj)} {s : Shared} {σ : St} {H : Hp} {p : Addr} {ns : List Int} {dv : V} {du : Value} {Q : VK} (I : Inv X pins σ H s) (hq : SqL X.K H p (ns.map V.int)) (rd : RelV dv du)
    (h0 : ns = [] → Q dv H) (h1 : ∀ M, M ∈ ns → (∀ a ∈ ns, M ≤ a) → Q (.int M) H) :
    wpAny (model X.prog X.w) X.A (call (.builtin "min") [.ref p] [(Str.ofString "default", du)]) (EP X pins σ Q) X.xe s := by
  have hname : (toString "min" ++ toString ".loop" : String) = "min.loop" := by decide
  obtain ⟨its, rv, pl, hz⟩ := I.list hq
  have hi : IntsAre its ns := intsAre_of rv
  have hlen : its.length = ns.length := by rw [← rv.length, List.length_map]
  have hlt : p < s.heap.objs.size := by obtain ⟨_, e, _⟩ := pl.isList; exact Heap.lt_size e
  refine kmb_tree PySem.F.kind_min PySem.F.plain_min PySem.F.entry_min (args_minD _ _) ?_
  show wpAny _ X.A.in1 (Builtin.Builtins.bindParams "min" ["key", "default"] 0 ⟨[], [(Str.ofString "default", du)]⟩ >>= _) _ _ s
  refine wpAny_bind (wpAny_of_eq (show Builtin.Builtins.bindParams "min" ["key", "default"] 0 ⟨[], [(Str.ofString "default", du)]⟩ = pure [none, some du] from rfl) ?_)
  refine wpAny_bind (wpAny_pure ?_)
  refine wpAny_bind (wpAny_pyIter_list pl.isList ?_)
  refine wpAny_bind (wpAny_newObj_type ?_)
  rw [hname]
  have szp : (s.heap.push { cls := .type "list_iterator", data := .fields #[.ref p, .int 0 0] }).objs.size = s.heap.objs.size + 1 := Heap.size_push ..
  have W := Walks.list (prog := X.prog) (w := X.w) (A := X.A.in1) (I.ok.hd hc) s.heap.objs.size p (Nat.ne_of_lt hlt) its.toArray
  have hval : ∀ (i : Nat) (v : Value), its.toArray[i]? = some v → ∃ t, v = .int (ns.getD i 0) t := fun i v e => by
    have e' : its[i]? = some v := by simpa using e
    have hil : i < ns.length := by have := (List.getElem?_eq_some_iff.mp e').1; omega
    obtain ⟨u, hu, t, ru⟩ := rv.get (i := i) (x := V.int ns[i]) (by rw [List.getElem?_map, List.getElem?_eq_getElem hil]; rfl)
    rw [e'] at hu
    cases hu
    exact ⟨t, by rw [getD_at hil]; exact ru⟩
  refine wpAny_pure ⟨plainId_quiet PySem.F.plain_min_loop _, min_loopD0 W (fun i => ns.getD i 0) hval (s.heap.push { cls := .type "list_iterator", data := .fields #[.ref p, .int 0 0] }).objs.size (fun z => ?_) (c := 0)
    ⟨⟨_, Heap.get?_push_of_some _ (Heap.get?_push_size _ rfl), rfl, rfl⟩, (pl.isList.push _).push _⟩ (Heap.get?_push_size _ rfl) (fun hn h' tk hk => ?_) fun j v h' tk hj hP hb hk => ?_⟩
  · rw [szp] at z
    simp only [List.mem_cons, List.not_mem_nil, or_false] at z
    rcases z with z | z
    · exact absurd z (Nat.ne_of_gt (Nat.lt_succ_self _))
    · exact absurd hlt (by rw [← z]; exact Nat.not_lt.mpr (Nat.le_succ _))
  · have hns : ns = [] := by
      rw [List.size_toArray, hlen] at hn
      exact List.eq_nil_of_length_eq_zero hn
    refine ⟨dv, H, I.kept (t' := tk) fun b o e => ?_, rd, h0 hns⟩
    have hbl := Heap.lt_size e
    exact hk b o (not_here e) (by rw [szp]; exact Nat.ne_of_lt (Nat.lt_succ_of_lt hbl)) (Heap.get?_push_of_some _ (Heap.get?_push_of_some _ e))
  · rw [List.size_toArray, hlen] at hj hb
    obtain ⟨t, rfl⟩ := hval j v hP
    refine ⟨.int (ns.getD j 0), H, I.kept (t' := tk) fun b o e => ?_, ⟨t, rfl⟩, h1 _ ?_ fun a ha => ?_⟩
    · have hbl := Heap.lt_size e
      exact hk b o (not_here e) (by rw [szp]; exact Nat.ne_of_lt (Nat.lt_succ_of_lt hbl)) (Heap.get?_push_of_some _ (Heap.get?_push_of_some _ e))
    · rw [getD_at hj]
      exact List.getElem_mem hj
    · obtain ⟨i', hi', rfl⟩ := List.mem_iff_getElem.mp ha
      have z := hb i' hi'
      rw [getD_at hi'] at z
      exact z
def tminD (K : PySem.W.Frag) (ta : TA) (tk : TA) : TE := fun σ H Q => ta σ H fun vs H1 => tk σ H1 fun zs H2 => ∃ (p : Addr) (ns : List Int) (dv : V), vs = [.ref p] ∧ zs = [dv] ∧ SqL K H2 p (ns.map V.int) ∧ (ns = [] → Q dv H2) ∧ ∀ M, M ∈ ns → (∀ a ∈ ns, M ≤ a) → Q (.int M) H2
theorem pe_minD {e : Expr} {p pos : Pos} {ta tk : TA} {kws : List Keyword} (hc : X.calm = true) (hg : Gl X "min") (hm : X.mg "min" = none) (ha : PA X [e] ta) (hkw : PK X kws tk)
    (hks : (backToKw pos (keywordEach kws X.env)).filterMap (·.1) = [Str.ofString "default"] := by rfl)
    (he : backTo pos (starEach [e] X.env) = (false, eval e X.env) :: backTo pos (starEach [] X.env) := by rfl) (hpl : (backTo pos (starEach [e] X.env)).any (·.1) = false := by rfl)
    (hall : (backToKw pos (keywordEach kws X.env)).all (·.1.isSome) = true := by rfl) (hno : (backToKw pos (keywordEach kws X.env)).any (·.1.isNone) = false := by rfl) :
    PE X (.Call (.Name "min" p) [e] kws pos) (tminD X.K ta tk) := by
  intro pins s σ H Q I h
  refine wpAny_Call_Name_kw (ld_blt I hg hm boot_min ?_)
  refine PyProof.Rows.callWith_kw (thn (ha pos pins s σ H _ I h) fun us s1 ⟨vs, H1, I1, r1, q1⟩ => ?_) he hpl hall hno
  refine thn (hkw pos pins s1 σ H1 _ I1 q1) fun ws s2 ⟨zs, H2, I2, rz, q2⟩ => ?_
  obtain ⟨l, ns, dv, rfl, rfl, hq, h0, h1⟩ := q2
  obtain ⟨u, rfl, ru⟩ := vals1 r1
  obtain ⟨wv, rfl, rw'⟩ := vals1 rz
  cases ru
  rw [hks]
  exact min_defaultL hc I2 hq rw' h0 h1
end
theorem sliceRange_rev (n : Nat) : sliceRange ((n : Int) - 1) (-1) (-1) = (List.range n).map fun k => n - 1 - k := by
  have e : (if (-1 : Int) > 0 then (if (n : Int) - 1 < -1 then (-1 - ((n : Int) - 1) + -1 - 1) / -1 else 0) else (if (n : Int) - 1 > -1 then ((n : Int) - 1 - -1 - -1 - 1) / (- -1) else 0)) = (n : Int) := by
    rw [if_neg (by decide)]
    by_cases h : (n : Int) - 1 > -1
    · rw [if_pos h]
      have : (- (-1 : Int)) = 1 := by decide
      rw [this, Int.ediv_one]; omega
    · rw [if_neg h]; omega
  unfold sliceRange
  simp only [e, Int.toNat_natCast]
  refine List.map_congr_left fun k hk => ?_
  have := List.mem_range.mp hk
  omega
theorem rev_pickA {α : Type} : ∀ (ks : List Nat) (xs : List α), (∀ k ∈ ks, k < xs.length) → (ks.map fun k => xs.length - 1 - k).filterMap (xs.toArray[·]?) = ks.filterMap fun k => xs.reverse[k]?
  | [], _, _ => rfl
  | k :: ks, xs, h => by
    have hk : k < xs.length := h k List.mem_cons_self
    have e : xs.toArray[xs.length - 1 - k]? = xs.reverse[k]? := by
      rw [List.getElem?_reverse hk]
      simp
    rw [List.map_cons, List.filterMap_cons, List.filterMap_cons, e, rev_pickA ks xs fun k hk => h k (List.mem_cons_of_mem _ hk)]
theorem fm_range {α : Type} (ys : List α) : (List.range ys.length).filterMap (fun k => ys[k]?) = ys := by
  induction ys with
  | nil => rfl
  | cons y ys ih =>
    rw [List.length_cons, List.range_succ_eq_map, List.filterMap_cons]
    simp only [List.getElem?_cons_zero, List.filterMap_map]
    congr 1
theorem rev_pick {α : Type} (xs : List α) : ((List.range xs.length).map fun k => xs.length - 1 - k).filterMap (xs.toArray[·]?) = xs.reverse := by
  rw [rev_pickA _ xs fun k hk => List.mem_range.mp hk]
  have e := fm_range xs.reverse
  rw [List.length_reverse] at e
  exact e
theorem slicePick_rev (its : List Value) : slicePick its.toArray none none (some (-1)) = its.reverse.toArray := by
  have e : sliceBounds none none (some (-1)) its.toArray.size = ((its.length : Int) - 1, -1, -1) := by
    simp [sliceBounds]
  unfold slicePick
  rw [e]
  show ((sliceRange ((its.length : Int) - 1) (-1) (-1)).filterMap (its.toArray[·]?)).toArray = _
  rw [sliceRange_rev, rev_pick]
section
variable {X : Cx}
def tRev (K : PySem.W.Frag) (te : TE) : TE := fun σ H Q => te σ H fun x H1 => ∃ a xs, x = .ref a ∧ SqL K H1 a xs ∧ ∀ p, H1 p = none → Q (.ref p) (upd H1 p (.lst xs.reverse))
theorem pe_rev {e : Expr} {te : TE} {j : Nat} {p1 p2 p3 pos : Pos} (he : PE X e te) : PE X (.Subscript e (.Slice none none (some (.UnaryOp .USub (.Constant (.int 1) j p1) p2)) p3) pos) (tRev X.K te) := by
  intro pins s σ H Q I h
  refine Subscript_ (thn (he pins s σ H _ I h) fun v s1 ⟨x, H1, I1, r1, q1⟩ => ?_)
  obtain ⟨a, xs, rfl, hx, q⟩ := q1
  cases r1
  refine wpAny_Slice ?_
  rw [evalPart_none]
  refine wpAny_pure (wpAny_pure ?_)
  rw [evalPart_some]
  have hm : PE X (.UnaryOp .USub (.Constant (.int 1) j p1) p2) (tUn (rU fun i => .int (-i)) (tC (.int 1))) := pe_un un_neg pe_int
  refine thn (hm pins s1 σ H1 (fun y H' => y = .int (-1) ∧ H' = H1) I1 ⟨1, rfl, rfl, rfl⟩) fun st s3 ⟨y, H3, I3, ry, ey, eh⟩ => ?_
  subst ey
  subst eh
  obtain ⟨t, rfl⟩ := ry
  have I4 : Inv X pins σ H3 { s3 with heap := s3.heap.push { cls := .type "slice", data := .fields #[.none, .none, .int (-1) t] } } := I3.kept (t' := s3.toks) fun b ob q => Heap.get?_push_of_some _ q
  obtain ⟨its, r, ht, hz⟩ := I4.list hx
  have hlen := r.length
  have hg : wpAny (model X.prog X.w) X.A (getItem (.ref a) (.ref s3.heap.objs.size)) (EP X pins σ Q) X.xe { s3 with heap := s3.heap.push { cls := .type "slice", data := .fields #[.none, .none, .int (-1) t] } } := by
    refine wpAny_getItem_list_slice ht.isList (Heap.IsSliceOf.new ..) .none .none (.int (-1) t) (by decide) ?_ (by rw [List.size_toArray] <;> omega)
    rw [slicePick_rev]
    refine ⟨.ref _, _, I4.laid (t' := s3.toks) (o := .lst xs.reverse) (fun b ob q => Heap.get?_push_of_some _ q) (Nat.le_refl _) ?_, rfl, q _ (I4.hok.fresh (Nat.le_refl _))⟩
    exact ⟨by rw [List.length_reverse]; exact hz, its.reverse, 0, r.reverse, Heap.get?_push_size _ rfl⟩
  show wpAny (model X.prog X.w) X.A (subscriptTail e (.Slice none none (some (.UnaryOp .USub (.Constant (.int 1) j p1) p2)) p3) (.ref a) (.ref s3.heap.objs.size)) (EP X pins σ Q) X.xe { s3 with heap := s3.heap.push { cls := .type "slice", data := .fields #[.none, .none, .int (-1) t] } }
  exact tail_any (ops := [.ref a, .ref s3.heap.objs.size]) ht.isList.typeIs slot_list_getitem.lookup hg (by with_unfolding_all rfl)
end
inductive EqR (K : PySem.W.Frag) (H : Hp) : Nat → V → V → Bool → Prop where
  | flat {n : Nat} {x y : V} (hx : flatV x = true) (hy : flatV y = true) : EqR K H n x y (eqV x y)
  | same {n : Nat} (a : Addr) : EqR K H n (.ref a) (.ref a) true
  | lst {n : Nat} {a b : Addr} {xs ys : List V} (e : Nat → Bool) (hne : a ≠ b) (ha : SqL K H a xs) (hb : SqL K H b ys) (hl : xs.length = ys.length) (h : ∀ (j : Nat) x y, xs[j]? = some x → ys[j]? = some y → EqR K H n x y (e j)) :
      EqR K H (n + 1) (.ref a) (.ref b) ((List.range xs.length).all e)
  | tup {n : Nat} {a b : Addr} {xs ys : List V} (e : Nat → Bool) (hne : a ≠ b) (ha : SqT K H a xs) (hb : SqT K H b ys) (hl : xs.length = ys.length) (h : ∀ (j : Nat) x y, xs[j]? = some x → ys[j]? = some y → EqR K H n x y (e j)) :
      EqR K H (n + 1) (.ref a) (.ref b) ((List.range xs.length).all e)
section
variable {X : Cx} {pins : List (Addr × Obj)} {σ : St} {H : Hp} {s : Shared}
theorem EqR.items {n : Nat} {xs ys : List V} {its its2 : List Value} {e : Nat → Bool} {A : Around} (r1 : Vals xs its) (r2 : Vals ys its2) (h : ∀ (j : Nat) x y u v, xs[j]? = some x → ys[j]? = some y → RelV x u → RelV y v → SeqAt.EqAt A s u v (e j)) :
    ∀ j (h1 : j < its.toArray.size) (h2 : j < its2.toArray.size), SeqAt.EqAt A s its.toArray[j] its2.toArray[j] (e j) := fun j h1 h2 => by
  rw [List.size_toArray] at h1 h2
  have l1 : j < xs.length := by rw [r1.length]; exact h1
  have l2 : j < ys.length := by rw [r2.length]; exact h2
  obtain ⟨u, hu, ru⟩ := r1.get (i := j) (x := xs[j]) (List.getElem?_eq_getElem l1)
  obtain ⟨v, hv, rv⟩ := r2.get (i := j) (x := ys[j]) (List.getElem?_eq_getElem l2)
  have e1 : its.toArray[j] = u := by
    rw [List.getElem?_eq_getElem h1] at hu
    simpa using hu
  have e2 : its2.toArray[j] = v := by
    rw [List.getElem?_eq_getElem h2] at hv
    simpa using hv
  rw [e1, e2]
  exact h j _ _ u v (List.getElem?_eq_getElem l1) (List.getElem?_eq_getElem l2) ru rv
theorem EqR.at {n : Nat} {x y : V} {b : Bool} (h : EqR X.K H n x y b) (I : Inv X pins σ H s) : ∀ {A : Around} {u v : Value}, A.units + n < cLine → RelV x u → RelV y v → SeqAt.EqAt A s u v b := by
  induction h with
  | flat hx hy => intro A u v _ ru rv; exact eqAt_V ru rv hx hy
  | same a => intro A u v _ ru rv; cases ru; cases rv; exact SeqAt.EqAt.same _
  | @lst n a b xs ys e hne ha hb hl _ ih =>
    intro A u v hu ru rv
    cases ru
    cases rv
    obtain ⟨its, r1, p1, _⟩ := I.list ha
    obtain ⟨its2, r2, p2, _⟩ := I.list hb
    have hsz : its.toArray.size = its2.toArray.size := by rw [List.size_toArray, List.size_toArray, ← r1.length, ← r2.length]; exact hl
    have z := SeqAt.RcAt.lists (A := A) (e := e) p1.isList p2.isList hsz (by omega) (EqR.items (n := n) r1 r2 fun j x y u v e1 e2 q1 q2 => ih j x y e1 e2 (by show A.units + 1 + n < cLine; omega) q1 q2)
    rw [List.size_toArray, ← r1.length] at z
    exact SeqAt.EqAt.of_refs hne z
  | @tup n a b xs ys e hne ha hb hl _ ih =>
    intro A u v hu ru rv
    cases ru
    cases rv
    obtain ⟨its, r1, p1, _⟩ := I.tuple ha
    obtain ⟨its2, r2, p2, _⟩ := I.tuple hb
    have z := SeqAt.RcAt.tuples (A := A) (e := e) p1 p2 (by omega) (EqR.items (n := n) r1 r2 fun j x y u v e1 e2 q1 q2 => ih j x y e1 e2 (by show A.units + 1 + n < cLine; omega) q1 q2)
    have e1 : its.toArray.size = xs.length := by rw [List.size_toArray, r1.length]
    have e2 : its2.toArray.size = xs.length := by rw [List.size_toArray, ← r2.length, hl]
    rw [e1, e2, Nat.min_self, beq_self_eq_true, Bool.and_true] at z
    exact SeqAt.EqAt.of_refs hne z
structure EqL (K : PySem.W.Frag) (H : Hp) (n : Nat) (x y : V) (b : Bool) : Prop where
  ex : ∃ (a c : Addr) (xs ys : List V) (e : Nat → Bool), x = .ref a ∧ y = .ref c ∧ SqL K H a xs ∧ SqL K H c ys ∧ xs.length = ys.length ∧ (∀ (j : Nat) x y, xs[j]? = some x → ys[j]? = some y → EqR K H n x y (e j)) ∧ b = (List.range xs.length).all e
structure EqT (K : PySem.W.Frag) (H : Hp) (n : Nat) (x y : V) (b : Bool) : Prop where
  ex : ∃ (a c : Addr) (xs ys : List V) (e : Nat → Bool), x = .ref a ∧ y = .ref c ∧ SqT K H a xs ∧ SqT K H c ys ∧ xs.length = ys.length ∧ (∀ (j : Nat) x y, xs[j]? = some x → ys[j]? = some y → EqR K H n x y (e j)) ∧ b = (List.range xs.length).all e
theorem op_eqL (hu : X.A.units + 64 < cLine) : OpR X (compareOp .Eq) (fun x y H Q => ∃ n b, n ≤ 60 ∧ EqL X.K H n x y b ∧ Q (.bl b) H) := by
  intro pins s σ H x y v u Q I rx ry h
  obtain ⟨n, b, hn, ⟨a, c, xs, ys, e, rfl, rfl, ha, hb, hl, he, rfl⟩, q⟩ := h
  cases rx
  cases ry
  obtain ⟨its, r1, p1, _⟩ := I.list ha
  obtain ⟨its2, r2, p2, _⟩ := I.list hb
  have hsz : its.toArray.size = its2.toArray.size := by rw [List.size_toArray, List.size_toArray, ← r1.length, ← r2.length]; exact hl
  refine SeqAt.eq_listAt (e := e) p1.isList p2.isList hsz (by omega) (EqR.items (n := n) r1 r2 fun j x y u v e1 e2 q1 q2 => (he j x y e1 e2).at I (by show X.A.units + 1 + n < cLine; omega) q1 q2) ?_
  rw [List.size_toArray, ← r1.length]
  exact ⟨.bl _, H, I, rfl, q⟩
theorem op_neL (hu : X.A.units + 64 < cLine) : OpR X (compareOp .NotEq) (fun x y H Q => ∃ n b, n ≤ 60 ∧ EqL X.K H n x y b ∧ Q (.bl (!b)) H) := by
  intro pins s σ H x y v u Q I rx ry h
  obtain ⟨n, b, hn, ⟨a, c, xs, ys, e, rfl, rfl, ha, hb, hl, he, rfl⟩, q⟩ := h
  cases rx
  cases ry
  obtain ⟨its, r1, p1, _⟩ := I.list ha
  obtain ⟨its2, r2, p2, _⟩ := I.list hb
  have hsz : its.toArray.size = its2.toArray.size := by rw [List.size_toArray, List.size_toArray, ← r1.length, ← r2.length]; exact hl
  refine SeqAt.RcNeAt.lists (e := e) p1.isList p2.isList hsz (by omega) (EqR.items (n := n) r1 r2 fun j x y u v e1 e2 q1 q2 => (he j x y e1 e2).at I (by show X.A.units + 1 + n < cLine; omega) q1 q2) X.prog X.w X.xe _ ?_
  rw [List.size_toArray, ← r1.length]
  exact ⟨.bl _, H, I, rfl, q⟩
theorem EqR.of_same {K : PySem.W.Frag} {H : Hp} {n : Nat} {x : V} (h : flatV x = true ∨ ∃ a, x = .ref a) : EqR K H n x x true := by
  rcases h with h | ⟨a, rfl⟩
  · have e : eqV x x = true := by
      cases x with
      | non => rfl
      | bl b => simp [eqV]
      | int i => simp [eqV]
      | str z => simp [eqV]
      | _ => cases h
    have z := EqR.flat (K := K) (H := H) (n := n) h h
    rw [e] at z
    exact z
  · exact .same a
theorem all_true (n : Nat) : ((List.range n).all fun _ => true) = true := by
  rw [List.all_eq_true]
  intro x _
  rfl
end
section
variable {X : Cx}
def CDivB (i j : Int) : Prop := 0 < j ∧ j < 2 ^ 128
theorem op_fdivB : OpR X (binaryOp .FloorDiv) (rI CDivB fun i j => .int (i / j)) := opI fun i j _ _ _ _ _ hc q => by
  have h1 : (0 : Int) < j := hc.1
  have h2 : j < 2 ^ 128 := hc.2
  refine floordiv_int (Int.ne_of_gt h1) ?_ (.inl (PyProof.noPylong_of_log2 ?_))
  · rw [Int.fdiv_eq_ediv_of_nonneg _ (Int.le_of_lt h1)]
    exact q
  · have hj : j.natAbs < 2 ^ 128 := by omega
    have := (Nat.log2_lt (show j.natAbs ≠ 0 by omega)).mpr hj
    omega
end
end L2
set_option Elab.async false
set_option linter.all false
set_option maxRecDepth 100000
set_option maxHeartbeats 4000000
namespace Att
open PySem PySem.W PySem.Calls PyProof.Rows
theorem weight_mem {n : Int} : ∀ {ns : List Int}, n ∈ ns → Builtin.Int.intBits n ≤ WData.weightAll (ns.map WData.int)
  | [], h => by cases h
  | m :: ns, h => by
    rw [List.map_cons, WData.weightAll]
    rcases List.mem_cons.mp h with rfl | h
    · have e : WData.weight (WData.int n) = Builtin.Int.intBits n := by
        rw [WData.weight]
        first | rfl | (unfold Builtin.Int.intBits; rfl) | (unfold Builtin.Int.intBits; split <;> split <;> first | rfl | simp_all)
      omega
    · have := weight_mem (n := n) h
      omega
theorem bits_of_lay {ns : List Int} (h : WData.layableAll [WData.list (ns.map WData.int)] = true) : ∀ n ∈ ns, Builtin.Int.intBits n ≤ 1048576 := fun n hn => by
  have h1 : (WData.list (ns.map WData.int)).layable = true := List.all_eq_true.mp h _ (List.mem_singleton.mpr rfl)
  have h2 : WData.weight (WData.list (ns.map WData.int)) ≤ 2 ^ 20 := of_decide_eq_true (Bool.and_eq_true_iff.mp h1).2
  rw [WData.weight] at h2
  have h3 := weight_mem hn
  exact Nat.le_trans h3 h2
theorem attach_bits {l : OpenLaw} {n : Nat} {q : Program} {loose : List Str} {XP : (Str → Option Value) → Heap → Prop} {YP : World → Heap → Prop} {d : DefRec}
    (hn : l.most = some n) (hdf : d.params.defaults = [])
    (go : ∀ (w : World) (s₀ s₁ : Shared) (mg mb : Str → Option Value) (fa a : Addr) (vs : List Value) (ns : List Int), Ground q loose [] XP w s₀ mg mb s₁.heap → YP w s₁.heap → mg d.name = some (.ref fa) →
      s₁.heap.get? a = some { cls := .type "list", data := .seq vs.toArray } → IntsAre vs ns → ns.length ≤ n → s₁.gens = #[] → (∀ m ∈ ns, Builtin.Int.intBits m ≤ 1048576) →
      codeAny (model l.prog w) callerA (.call (.ref fa) ⟨[.ref a], []⟩) (fun r s' => r = .ok (.ret (.bool true)) ∧ OldK s₁.heap s'.heap ∧ s'.os = s₁.os ∧ AllBare s'.gens) s₁) :
    WalkO q loose XP YP l.row.toRowW d [] (fun f vs => PySem.call f vs) := by
  intro w s₀ s₁ mg mb G Y fa o pm cd doc dV kV ho hd hcd hD hmg hg args vals as hpre hlay hrd hwl hlo
  obtain rfl : dV = .none := Dflts.none hD hdf
  obtain rfl : kV = .none := Dflts.noKw hD
  obtain ⟨a, vs, ns, rfl, rfl, hobj, hints, hlen⟩ := script_of hn hpre hwl
  refine enter_call (codeAny_mono (go w s₀ s₁ mg mb fa a vs ns G Y hmg hobj hints hlen hg (bits_of_lay hlay)) fun r s' hq => ?_)
  obtain ⟨rfl, h2, h3, h4⟩ := hq
  exact ⟨.inl ⟨.bool true, .bool true, [], rfl, fun _ => rfl, .bool true, post_true l _, fun _ => ⟨List.Pairwise.nil, fun _ hm => (nomatch hm)⟩⟩, h2, h3, h4⟩
end Att
namespace L2
open PySem PySem.Spec PySem.Calls PyProof.Rows
theorem walk_bits {l : PySem.W.OpenLaw} {n k : Nat} {q : Program} {loose : List Str} {XP : (Str → Option Value) → Heap → Prop} {YP : World → Heap → Prop} {d : DefRec} {K : Params → PySem.W.Frag} {CX : CXT} {sp : PySem.W.Frag → Sp} {x : Str}
    (hn : l.most = some n) (hn2 : n ≤ sizeLine) (hdf : d.params.defaults = []) (hr : Room k callerA)
    (hY : ∀ (w : World) (h : Heap), YP w h → (K w.params).In h)
    (F : ∀ (w : World) (mg : Str → Option Value) (fa : Addr) (h : Heap), (K w.params).In h → h.Ns mainGlobals mg → mg d.name = some (.ref fa) →
      ∃ fd : FuncData, (∀ (s : Shared) (u : Value), BindsTo s fd ⟨[u], []⟩ [(x, u)]) ∧ ∀ base : Heap, (K w.params).In base → base.Ns mainGlobals mg → FnOk l.prog w (K w.params) mg base CX k fa fd [x] (sp (K w.params)))
    (hsp : ∀ (K : PySem.W.Frag) (H : Hp) (a : Addr) (ns : List Int), ns.length ≤ n → (∀ m ∈ ns, Builtin.Int.intBits m ≤ 1048576) → Only H → SqL K H a (ns.map V.int) → sp K [.ref a] H (fun v _ => v = .bl true) fun _ _ _ => False)
    (hCX : ∀ (H : Hp) (s : Shared) (e : Value) (s' : Shared), CX [] H s (fun _ _ _ => False) e s' → False) :
    PySem.W.WalkO q loose XP YP l.row.toRowW d [] (fun f vs => PySem.call f vs) := by
  refine Att.attach_bits hn hdf fun w s₀ s₁ mg mb fa a vs ns G Y hmg hobj hints hlen hg hb => ?_
  have KX := hY w _ Y
  obtain ⟨fd, hbi, hF⟩ := F w mg fa _ KX G.T.g hmg
  exact law_call KX G.T.g G.T.b G.T.builtins G.T.nolimit hg hobj hints (Nat.le_trans hlen hn2) hr hF hbi (fun H hO hS => hsp _ H a ns hlen hb hO hS) fun H e s' => hCX H s₁ e s'
structure FnA (P : Program) (w : World) (K : PySem.W.Frag) (mg : Str → Option Value) (base : Heap) (x : Str) (ps : List Str) (k : Nat) (sp : Sp) : Prop where
  ex : ∃ f fd, FnOk P w K mg base CX0 k f fd ps sp ∧ Binds K fd ps [] ∧ PySem.W.keepIn K (.ref f) = true ∧ mg x = some (.ref f)
section
variable {X : Cx} {x : Str} {ps : List Str} {k : Nat} {sp : Sp} {e : Expr} {es : List Expr} {t : TA} {p pos : Pos}
theorem pe_callA (F : FnA X.prog X.w X.K X.mg X.base x ps k sp) (hr : Room k X.A) (hg : Gl X x) (ha : PA X (e :: es) t) (hdb : (x == ("__debug__" : Str)) = false := by decide)
    (he : starEach (e :: es) X.env = (false, eval e X.env) :: starEach es X.env := by rfl) (hpl : (backTo pos (starEach es X.env)).any (·.1) = false := by rfl) : PE X (.Call (.Name x p) (e :: es) [] pos) (tCall sp [] E0 t) := by
  obtain ⟨f, fd, G, b, kp, m⟩ := F.ex
  exact pe_call G hr hg m kp b .nil pass0 ha hdb he hpl
end
structure DefAt (K : PySem.W.Frag) (mg : Str → Option Value) (x : Str) (st : Stmt) (ps : List Str) : Prop where
  ex : ∃ f fd, Fun K x x st f fd ∧ Binds K fd ps [] ∧ mg x = some (.ref f)
theorem DefAt.fnA {P : Program} {w : World} {K : PySem.W.Frag} {mg : Str → Option Value} {base : Heap} {x : Str} {st : Stmt} {ps : List Str} {k : Nat} {sp : Sp} (D : DefAt K mg x st ps)
    (h : ∀ f fd, Fun K x x st f fd → FnOk P w K mg base CX0 k f fd ps sp) : FnA P w K mg base x ps k sp := by
  obtain ⟨f, fd, F, b, m⟩ := D.ex
  exact ⟨f, fd, h f fd F, b, F.kp, m⟩
theorem defAt_mk {K : PySem.W.Frag} {h : Heap} {mg : Str → Option Value} {x : Str} {st : Stmt} {ps : List Str} {f : Addr} {oc : Value} {od an : Option Addr} {osl : Array (Option Value)} {kV doc pm cdv ct : Value} (X : K.In h) (G : h.Ns mainGlobals mg)
    (hb : ∀ (kV doc pm : Value) (an : Option Addr) (cdv ct : Value) (us : List Value), us.length = ps.length → bindArgs (PySem.W.fnOf x x (defArgs st) (defBody st) (defScope st) .none kV doc pm an cdv ct) ⟨us, []⟩ = pure (ps.zip us))
    (a : PySem.W.nsIn K mainGlobals x = some (some (.ref f))) (l : K.lookup f = some ⟨oc, od, .func (PySem.W.fnOf x x (defArgs st) (defBody st) (defScope st) .none kV doc pm an cdv ct), osl⟩) (c : PySem.W.codeIn K cdv x = true) (k : PySem.W.keepIn K (.ref f) = true) :
    DefAt K mg x st ps := by
  have F := fun_mk (st := st) l c k
  exact ⟨f, _, F, F.binds hb, PySem.W.mg_of X G a⟩
theorem same_new {H : Hp} {p : Addr} (h : H p = none) (o : HO) : Same H (upd H p o) := fun b u q => by rw [upd_ne (ne_of_none q h)]; exact q
theorem Same.new {H H' : Hp} (s : Same H H') {p : Addr} (h : H' p = none) (o : HO) : Same H (upd H' p o) := s.trans (same_new h o)
theorem Same.at {H H' : Hp} (s : Same H H') {p : Addr} {o : HO} (h : H p = some o) : H' p = some o := s p o h
end L2
set_option Elab.async false
set_option linter.all false
set_option maxRecDepth 100000
set_option maxHeartbeats 4000000
namespace L2
open PySem PySem.Spec PySem.Calls PyProof.Rows
theorem range_any : ∀ bs : List Bool, (List.range bs.length).any (fun i => bs.getD i true) = bs.any fun b => b
  | [] => rfl
  | b :: bs => by
    rw [List.length_cons, List.range_succ_eq_map, List.any_cons, List.any_map, List.any_cons, ← range_any bs]
    rfl
theorem boot_anyB : bootBuiltins "any" = some (.builtin "any") := by decide +kernel
theorem boot_revT : bootBuiltins "reversed" = some (.type "reversed") := by decide +kernel
theorem boot_maxB : bootBuiltins "max" = some (.builtin "max") := by decide +kernel
section
variable {X : Cx}
theorem call_anyL (hc : X.calm = true) : CallR X (.builtin "any") (fun xs H Q => ∃ (p : Addr) (bs : List Bool), xs = [.ref p] ∧ SqL X.K H p (bs.map V.bl) ∧ Q (.bl (bs.any fun b => b)) H) := by
  intro pins s σ H xs us Q I r h
  obtain ⟨p, bs, rfl, hq, q⟩ := h
  obtain ⟨u, rfl, rx⟩ := vals1 r
  cases rx
  obtain ⟨its, rv, pl, hz⟩ := I.list hq
  have hlen : its.length = bs.length := by rw [← rv.length, List.length_map]
  have hlt : p < s.heap.objs.size := by obtain ⟨_, e, _⟩ := pl.isList; exact Heap.lt_size e
  refine call_any_walk (wpAny_pyIter_list pl.isList ⟨s.heap.objs.size, _, _, _, _, _, fun i => bs.getD i true, rfl, Walks.list (A := X.A.in1) (I.ok.hd hc) s.heap.objs.size p (Nat.ne_of_lt hlt) its.toArray,
    ⟨⟨_, Heap.get?_push_size _ rfl, rfl, rfl⟩, pl.isList.push _⟩, ?_, fun h' tk hk => ⟨.bl (bs.any fun b => b), H, ?_, ?_, q⟩⟩)
  · intro i v s' Q' E' hP hQ
    have hP' : its[i]? = some v := by simpa using hP
    have hi : i < bs.length := by have := (List.getElem?_eq_some_iff.mp hP').1; omega
    obtain ⟨u, hu, ru⟩ := rv.get (i := i) (x := V.bl bs[i]) (by rw [List.getElem?_map, List.getElem?_eq_getElem hi]; rfl)
    rw [hP'] at hu
    cases hu
    cases (show v = Value.bool bs[i] from ru)
    refine wpAny_truthy_bool ?_
    have e : bs.getD i true = bs[i] := getD_at hi
    rw [← e]
    exact hQ
  · exact I.kept fun b o e => hk b o (not_here e) (Heap.get?_push_of_some _ e)
  · show Value.bool _ = Value.bool _
    congr 1
    rw [List.size_toArray, hlen, range_any]
theorem call_maxL (hc : X.calm = true) : CallR X (.builtin "max") (fun xs H Q => ∃ (p : Addr) (ns : List Int), xs = [.ref p] ∧ SqL X.K H p (ns.map V.int) ∧ ns ≠ [] ∧ ∀ M, M ∈ ns → (∀ a ∈ ns, a ≤ M) → Q (.int M) H) := by
  intro pins s σ H xs us Q I r h
  obtain ⟨p, ns, rfl, hq, hne, q⟩ := h
  obtain ⟨u, rfl, rx⟩ := vals1 r
  cases rx
  obtain ⟨its, rv, pl, hz⟩ := I.list hq
  have hi : IntsAre its ns := intsAre_of rv
  obtain ⟨xs, e⟩ := hi.allInts.items
  have hns : ns = xs.toList.map (·.1) := by rw [← hi.numsOf, ← nums_intItems, ← e]
  have hsz : 0 < xs.size := by
    have h3 : 0 < ns.length := List.length_pos_iff.mpr hne
    rw [hns, List.length_map, Array.length_toList] at h3; exact h3
  have hl := pl.isList
  rw [e] at hl
  refine max_intList (I.ok.hd hc) hl hsz fun v h' tk hv hk => ?_
  obtain ⟨t, rfl⟩ := intItems_at hv
  obtain ⟨h1, h2⟩ := argBest_gt (numAt xs) (xs.size - 1)
  refine ⟨.int (numAt xs (argBest (fun i j => decide (numAt xs i > numAt xs j)) (xs.size - 1))), H, I.kept hk, ⟨t, rfl⟩, q _ ?_ fun a ha => ?_⟩
  · rw [hns, numAt_eq]; exact getD_mem (by rw [List.length_map, Array.length_toList]; omega)
  · rw [hns] at ha
    obtain ⟨j, hj, rfl⟩ := mem_getD ha
    rw [List.length_map, Array.length_toList] at hj
    rw [← numAt_eq]; exact h2 j (by omega)
variable {a b c d : Expr} {ta tb tc td : TE} {pos : Pos}
def tChain3 (r r' r'' : R2) (ta tb tc td : TE) : TE := fun σ H Q => ta σ H fun x H1 => tb σ H1 fun y H2 => r x y H2 fun z H3 => ∃ k, z = .bl k ∧
  (if k = true then tc σ H3 fun w' H4 => r' y w' H4 fun z' H5 => ∃ k', z' = .bl k' ∧ (if k' = true then td σ H5 fun v' H6 => r'' w' v' H6 Q else Q (.bl false) H5) else Q (.bl false) H3)
theorem pe_chain3 {op op' op'' : CmpOp} {r r' r'' : R2} (ho : OpR X (compareOp op) r) (ho' : OpR X (compareOp op') r') (ho'' : OpR X (compareOp op'') r'') (ha : PE X a ta) (hb : PE X b tb) (hc : PE X c tc) (hd : PE X d td)
    (hm : lastMarks [op, op', op''] [b, c, d] = false := by with_unfolding_all rfl) : PE X (.Compare a [op, op', op''] [b, c, d] pos) (tChain3 r r' r'' ta tb tc td) := by
  intro pins s σ H Q I h
  refine Compare_chain (thn (ha pins s σ H _ I h) fun v s1 ⟨x, H1, I1, r1, q1⟩ => chain_link (thn (hb pins s1 σ H1 _ I1 q1) fun u s2 ⟨y, H2, I2, r2, q2⟩ =>
    thn (ho pins s2 σ H2 x y v u _ I2 r1 r2 q2) fun dd s3 ⟨z, H3, I3, r3, k, e, q3⟩ => ?_)) hm
  subst e
  cases r3
  refine wpAny_truthy_bool ?_
  cases k with
  | false => exact ite_ff ⟨.bl false, H3, I3, rfl, q3⟩
  | true =>
    refine ite_tt (chain_link (thn (hc pins s3 σ H3 _ I3 q3) fun w' s4 ⟨z', H4, I4, r4, q4⟩ => thn (ho' pins s4 σ H4 y z' u w' _ I4 r2 r4 q4) fun d2 s5 ⟨z2, H5, I5, r5, k2, e2, q5⟩ => ?_))
    subst e2
    cases r5
    refine wpAny_truthy_bool ?_
    cases k2 with
    | false => exact ite_ff ⟨.bl false, H5, I5, rfl, q5⟩
    | true => exact ite_tt (chain_last (thn (hd pins s5 σ H5 _ I5 q5) fun w2 s6 ⟨z3, H6, I6, r6, q6⟩ => ho'' pins s6 σ H6 z' z3 w' w2 Q I6 r4 r6 q6))
theorem pt_chain3 {op op' op'' : CmpOp} {r r' r'' : R2} (ho : OpR X (compareOp op) r) (ho' : OpR X (compareOp op') r') (ho'' : OpR X (compareOp op'') r'') (ha : PE X a ta) (hb : PE X b tb) (hc : PE X c tc) (hd : PE X d td)
    (hm : lastMarks [op, op', op''] [b, c, d] = false := by with_unfolding_all rfl) : PT X (.Compare a [op, op', op''] [b, c, d] pos) (tTest (tChain3 r r' r'' ta tb tc td)) := by
  intro pins s σ H Q I h
  refine isTrue_chain (thn (ha pins s σ H _ I h) fun v s1 ⟨x, H1, I1, r1, q1⟩ => test_link (thn (hb pins s1 σ H1 _ I1 q1) fun u s2 ⟨y, H2, I2, r2, q2⟩ =>
    thn (ho pins s2 σ H2 x y v u _ I2 r1 r2 q2) fun dd s3 ⟨z, H3, I3, r3, k, e, q3⟩ => ?_)) hm
  subst e
  cases r3
  refine wpAny_truthy_bool ?_
  cases k with
  | false =>
    obtain ⟨k', e', q'⟩ := q3
    cases e'
    exact ite_ff ⟨H3, I3, q'⟩
  | true =>
    refine ite_tt (test_link (thn (hc pins s3 σ H3 _ I3 q3) fun w' s4 ⟨z', H4, I4, r4, q4⟩ => thn (ho' pins s4 σ H4 y z' u w' _ I4 r2 r4 q4) fun d2 s5 ⟨z2, H5, I5, r5, k2, e2, q5⟩ => ?_))
    subst e2
    cases r5
    refine wpAny_truthy_bool ?_
    cases k2 with
    | false =>
      obtain ⟨k', e', q'⟩ := q5
      cases e'
      exact ite_ff ⟨H5, I5, q'⟩
    | true =>
      refine ite_tt (test_last (thn (hd pins s5 σ H5 _ I5 q5) fun w2 s6 ⟨z3, H6, I6, r6, q6⟩ => thn (ho'' pins s6 σ H6 z' z3 w' w2 _ I6 r4 r6 q6) fun d3 s7 ⟨z4, H7, I7, r7, k3, e3, q7⟩ => ?_))
      subst e3
      cases r7
      exact wpAny_truthy_bool ⟨H7, I7, q7⟩
theorem op_eqLn (hu : X.A.units + 64 < cLine) : OpR X (compareOp .Eq) (fun x y H Q => ∃ (p q' : Addr) (xs ys : List V), x = .ref p ∧ y = .ref q' ∧ SqL X.K H p xs ∧ SqL X.K H q' ys ∧ xs.length ≠ ys.length ∧ Q (.bl false) H) := by
  intro pins s σ H x y v u Q I rx ry h
  obtain ⟨p, q', xs, ys, rfl, rfl, ha, hb, hl, q⟩ := h
  cases rx
  cases ry
  obtain ⟨its, r1, p1, _⟩ := I.list ha
  obtain ⟨its2, r2, p2, _⟩ := I.list hb
  have hsz : (its.toArray.size != its2.toArray.size) = true := by rw [List.size_toArray, List.size_toArray, ← r1.length, ← r2.length]; simpa using hl
  exact SeqAt.eq_list_lengthsAt p1.isList p2.isList hsz (by omega) ⟨.bl false, H, I, rfl, q⟩
theorem op_neLn (hu : X.A.units + 64 < cLine) : OpR X (compareOp .NotEq) (fun x y H Q => ∃ (p q' : Addr) (xs ys : List V), x = .ref p ∧ y = .ref q' ∧ SqL X.K H p xs ∧ SqL X.K H q' ys ∧ xs.length ≠ ys.length ∧ Q (.bl true) H) := by
  intro pins s σ H x y v u Q I rx ry h
  obtain ⟨p, q', xs, ys, rfl, rfl, ha, hb, hl, q⟩ := h
  cases rx
  cases ry
  obtain ⟨its, r1, p1, _⟩ := I.list ha
  obtain ⟨its2, r2, p2, _⟩ := I.list hb
  have hsz : (its.toArray.size != its2.toArray.size) = true := by rw [List.size_toArray, List.size_toArray, ← r1.length, ← r2.length]; simpa using hl
  exact SeqAt.RcNeAt.lists_lengths p1.isList p2.isList hsz (by omega) X.prog X.w X.xe _ ⟨.bl true, H, I, rfl, q⟩
theorem range_eq {ns ms : List Int} (h : ns.length = ms.length) : ((List.range (ns.map V.int).length).all fun j => eqV ((ns.map V.int).getD j .non) ((ms.map V.int).getD j .non)) = decide (ns = ms) := by
  rw [Bool.eq_iff_iff, List.all_eq_true, decide_eq_true_iff]
  constructor
  · intro hh
    refine List.ext_getElem h fun j h1 h2 => ?_
    have z := hh j (by rw [List.mem_range, List.length_map]; exact h1)
    simp [h1, h2, eqV] at z
    exact z
  · rintro rfl j hj
    rw [List.mem_range, List.length_map] at hj
    simp [hj, eqV]
theorem EqL.ints {K : PySem.W.Frag} {H : Hp} {n : Nat} {p q : Addr} {ns ms : List Int} (ha : SqL K H p (ns.map V.int)) (hb : SqL K H q (ms.map V.int)) (h : ns.length = ms.length) : EqL K H n (.ref p) (.ref q) (decide (ns = ms)) := by
  refine ⟨p, q, _, _, fun j => eqV ((ns.map V.int).getD j .non) ((ms.map V.int).getD j .non), rfl, rfl, ha, hb, by rw [List.length_map, List.length_map, h], fun j x y e1 e2 => ?_, (range_eq h).symm⟩
  dsimp only
  rw [List.getD_eq_getElem?_getD, List.getD_eq_getElem?_getD, e1, e2]
  refine .flat ?_ ?_
  · rw [List.getElem?_map] at e1
    cases z : ns[j]? with
    | none => rw [z] at e1; cases e1
    | some _ => rw [z] at e1; cases e1; rfl
  · rw [List.getElem?_map] at e2
    cases z : ms[j]? with
    | none => rw [z] at e2; cases e2
    | some _ => rw [z] at e2; cases e2; rfl
def rLI (K : PySem.W.Frag) (f : Bool → Bool) : R2 := fun x y H Q => ∃ (p q' : Addr) (ns ms : List Int), x = .ref p ∧ y = .ref q' ∧ SqL K H p (ns.map V.int) ∧ SqL K H q' (ms.map V.int) ∧ Q (.bl (f (decide (ns = ms)))) H
theorem op_eqLI (hu : X.A.units + 64 < cLine) : OpR X (compareOp .Eq) (rLI X.K id) := by
  intro pins s σ H x y v u Q I rx ry h
  obtain ⟨p, q', ns, ms, rfl, rfl, ha, hb, q⟩ := h
  by_cases hl : ns.length = ms.length
  · exact op_eqL hu pins s σ H _ _ v u Q I rx ry ⟨0, _, by decide, EqL.ints ha hb hl, q⟩
  · have e : decide (ns = ms) = false := decide_eq_false fun z => hl (by rw [z])
    rw [e] at q
    exact op_eqLn hu pins s σ H _ _ v u Q I rx ry ⟨p, q', _, _, rfl, rfl, ha, hb, by rw [List.length_map, List.length_map]; exact hl, q⟩
end
def Itv (K : PySem.W.Frag) (a : Addr) (n : Nat) : It :=
  ⟨fun i H => i < n ∧ ∃ xs, SqL K H a xs ∧ xs.length = n, fun i H x H' => H' = H ∧ ∀ xs, SqL K H a xs → xs[n - 1 - i]? = some x, fun i _ => i = n⟩
theorem turn_rev {P : Program} {w : World} {K : PySem.W.Frag} {tg : Expr} (a it : Addr) (n : Nat) : Turn P w K tg (Itv K a n) [it] it (fun i h => h.IsRevIter it a ((n : Int) - 1 - (i : Int))) where
  mem := by simp
  obj := fun i h st b hb => by
    have e : b = it := by simpa using hb
    subst e
    obtain ⟨o, e, c, d⟩ := st
    exact ⟨o, e, fun v z => by rw [d] at z; cases z⟩
  keep := fun i h h' st k => st.at fun o e => k it (by simp) o e
  item := by
    intro X hP hw hK hc i pins s σ H E I hf st hg
    subst hP hw hK
    obtain ⟨hi, xs, hq, hn⟩ := hg
    have hx : xs[n - 1 - i]? = some (xs[n - 1 - i]'(by omega)) := List.getElem?_eq_getElem (by omega)
    obtain ⟨its, rv, p, hz⟩ := I.list hq
    obtain ⟨u, hu, ru⟩ := rv.get hx
    obtain ⟨f0, f1, f2, f3, f4, f5⟩ := hf it (by simp)
    have e : (n : Int) - 1 - (i : Int) = ((n - 1 - i : Nat) : Int) := by omega
    rw [e] at st
    refine wpAny_pyNext_rev_item st p.isList (x := u) (by simpa using hu) fun h' st' sb => ?_
    have I1 : Inv X pins σ H { s with heap := h' } := I.turned (t' := s.toks) (fun b o hb e => (sb.2 b hb).trans e) f0 f1 f3 f4 f5
    obtain ⟨o, e', c, d⟩ := id st'
    have e2 : ((n - 1 - i : Nat) : Int) - 1 = (n : Int) - 1 - ((i + 1 : Nat) : Int) := by omega
    rw [e2] at st'
    exact ⟨u, rfl, go_of (s := { s with heap := h' }) e' c d (by decide) ⟨_, H, I1, ru, ⟨rfl, fun ys hy => by rw [I.list_inj hy hq]; exact hx⟩, st', fun b hb => (hf b hb).1⟩⟩
  done := by
    intro X hP hw hK hc i pins s σ H E I hf st hg
    subst hP hw hK
    obtain ⟨f0, f1, f2, f3, f4, f5⟩ := hf it (by simp)
    have hg' : i = n := hg
    subst hg'
    have e : (i : Int) - 1 - (i : Int) = -1 := by omega
    rw [e] at st
    exact wpAny_pyNext_rev_end (I.ok.hd hc) st fun h' eb => ⟨rfl, I.turned (t' := s.toks) (fun b o hb e => eb b o hb e) f0 f1 f3 f4 f5⟩
  self := fun _ _ _ _ _ st h => wpAny_pyIter_revIter st h
section
variable {X : Cx} {tg : Expr}
def iRev (K : PySem.W.Frag) (ta : TA) : TI := fun σ H R => ta σ H fun vs H1 => ∃ a xs, vs = [.ref a] ∧ SqL K H1 a xs ∧ R (Itv K a xs.length) H1
theorem pi_rev {a : Expr} {ta : TA} {p pos : Pos} (hg : Gl X "reversed") (hm : X.mg "reversed" = none) (ha : PA X [a] ta) (hs : starEach [a] X.env = [(false, eval a X.env)] := by rfl) :
    PI X tg (.Call (.Name "reversed" p) [a] [] pos) (iRev X.K ta) := by
  intro pins s σ H R I h
  refine Call_ (ld_blt I hg hm boot_revT (PyProof.Rows.callWith_type1 (thn (ha pos pins s σ H _ I h) fun us s1 ⟨vs, H1, I1, r1, q1⟩ => ?_) hs rfl))
  obtain ⟨l1, xs, e, hq1, q⟩ := q1
  subst e
  cases r1 with
  | cons ra rr =>
    cases rr
    cases ra
    obtain ⟨its1, rv1, p1, _⟩ := I1.list hq1
    refine call_reversed_list p1.isList ?_
    have hit : (s1.heap.push (revObj l1 ((its1.toArray.size : Int) - 1))).IsRevIter s1.heap.objs.size l1 ((xs.length : Int) - 1 - ((0 : Nat) : Int)) := by
      refine ⟨_, Heap.get?_push_size _ rfl, rfl, ?_⟩
      show Data.fields #[.ref l1, rawInt ((its1.toArray.size : Int) - 1)] = _
      rw [List.size_toArray, ← rv1.length]
      congr 3
      simp
    refine wpAny_pyIter_revIter hit ⟨s1.heap.objs.size, [s1.heap.objs.size], _, _, H1, rfl, I1.kept (t' := s1.toks) fun b o e => Heap.get?_push_of_some _ e, turn_rev l1 _ xs.length, hit, fun c hc => ?_, q⟩
    have e : c = s1.heap.objs.size := by simpa using hc
    subst e
    exact I1.fpOk (Nat.le_refl _) (I1.hok.fresh (Nat.le_refl _))
end
theorem for_rev {K : PySem.W.Frag} {a : Addr} {xs : List V} {g : TG} {tb : TS} {D : Ends} {σ : St} {H : Hp} (Pv : Nat → St → Hp → Prop) (h0 : Pv 0 σ H) (hl : ∀ i σ H, i ≤ xs.length → Pv i σ H → SqL K H a xs)
    (hs : ∀ i x σ H, i < xs.length → xs[xs.length - 1 - i]? = some x → Pv i σ H → g x σ H fun σ2 H2 => tb { D with nx := Pv (i + 1), ct := Pv (i + 1), bk := D.nx } σ2 H2) (hd : ∀ σ H, Pv xs.length σ H → D.nx σ H) :
    ∃ W : Nat → Nat → St → Hp → Prop, (∃ m, W 0 m σ H) ∧ ∀ i m σ H, W i m σ H →
      ((Itv K a xs.length).stop i H ∧ D.nx σ H) ∨ ((Itv K a xs.length).go i H ∧ ∃ N : St → Hp → Prop, (∀ σ' H', N σ' H' → ∃ m', m' < m ∧ W (i + 1) m' σ' H') ∧ ∀ x H', (Itv K a xs.length).yld i H x H' → g x σ H' fun σ2 H2 => tb { D with nx := N, ct := N, bk := D.nx } σ2 H2) := by
  refine ⟨fun i m σ H => m = xs.length - i ∧ i ≤ xs.length ∧ Pv i σ H, ⟨xs.length, by simp, Nat.zero_le _, h0⟩, ?_⟩
  rintro i m σ H ⟨rfl, hi, p⟩
  have q := hl i σ H hi p
  by_cases hlt : i < xs.length
  · refine .inr ⟨⟨hlt, xs, q, rfl⟩, Pv (i + 1), fun σ' H' p' => ⟨xs.length - (i + 1), by omega, rfl, hlt, p'⟩, fun x H' y => ?_⟩
    obtain ⟨e, y⟩ := y
    subst e
    exact hs i x σ _ hlt (y xs q) p
  · have e : i = xs.length := by omega
    subst e
    exact .inl ⟨rfl, hd σ H p⟩
theorem for_zip {K : PySem.W.Frag} {a b : Addr} {xs zs : List V} {g : TG} {tb : TS} {D : Ends} {σ : St} {H : Hp} (hlen : xs.length = zs.length) (Pv : Nat → St → Hp → Prop) (h0 : Pv 0 σ H) (hl : ∀ i σ H, i ≤ xs.length → Pv i σ H → SqL K H a xs ∧ SqL K H b zs)
    (hs : ∀ (i : Nat) x z σ H p, xs[i]? = some x → zs[i]? = some z → Pv i σ H → H p = none → g (.ref p) σ (upd H p (.tup [x, z])) fun σ2 H2 => tb { D with nx := Pv (i + 1), ct := Pv (i + 1), bk := D.nx } σ2 H2) (hd : ∀ σ H, Pv xs.length σ H → D.nx σ H) :
    ∃ W : Nat → Nat → St → Hp → Prop, (∃ m, W 0 m σ H) ∧ ∀ i m σ H, W i m σ H →
      ((Itz K a b).stop i H ∧ D.nx σ H) ∨ ((Itz K a b).go i H ∧ ∃ N : St → Hp → Prop, (∀ σ' H', N σ' H' → ∃ m', m' < m ∧ W (i + 1) m' σ' H') ∧ ∀ x H', (Itz K a b).yld i H x H' → g x σ H' fun σ2 H2 => tb { D with nx := N, ct := N, bk := D.nx } σ2 H2) := by
  refine ⟨fun i m σ H => m = xs.length - i ∧ i ≤ xs.length ∧ Pv i σ H, ⟨xs.length, by simp, Nat.zero_le _, h0⟩, ?_⟩
  rintro i m σ H ⟨rfl, hi, p⟩
  obtain ⟨q1, q2⟩ := hl i σ H hi p
  by_cases hlt : i < xs.length
  · have hlt2 : i < zs.length := by omega
    refine .inr ⟨⟨xs, zs, xs[i], zs[i], q1, q2, by simp [hlt], by simp [hlt2]⟩, Pv (i + 1), fun σ' H' p' => ⟨xs.length - (i + 1), by omega, rfl, hlt, p'⟩, fun x H' y => ?_⟩
    obtain ⟨pp, xx, zz, hp, rfl, rfl, hx, hy⟩ := y
    exact hs i xx zz σ H pp (hx xs q1) (hy zs q2) p hp
  · have e : i = xs.length := by omega
    subst e
    exact .inl ⟨⟨xs, zs, q1, q2, .inl (Nat.le_refl _)⟩, hd σ H p⟩
theorem comp_range {lo : Int} {n : Nat} {g : TG} {te : TE} {σ0 : St} {k : Nat} {H : Hp} {Fin : List V → Hp → Prop} (hz : n ≤ sizeLine) (Pv : Nat → List V → Hp → Prop) (h0 : Pv 0 [] H)
    (hs : ∀ (i : Nat) ys H, i < n → Pv i ys H → g (.int (lo + i)) σ0 H fun σ' H'' => (σ'.drop k = σ0.drop k ∧ σ'.length = σ0.length) ∧ te σ' H'' fun y H3 => Pv (i + 1) (ys ++ [y]) H3)
    (hd : ∀ ys H, Pv n ys H → Fin ys H) :
    ∃ (W : Nat → List V → Hp → Prop) (n' : Nat), n' ≤ sizeLine ∧ W 0 [] H ∧ ∀ i ys H, W i ys H →
      ((Itr lo n).stop i H ∧ Fin ys H) ∨ ((Itr lo n).go i H ∧ i < n' ∧ ∀ x H', (Itr lo n).yld i H x H' → g x σ0 H' fun σ' H'' =>
        (σ'.drop k = σ0.drop k ∧ σ'.length = σ0.length) ∧ te σ' H'' fun y H3 => W (i + 1) (ys ++ [y]) H3) := by
  refine ⟨fun i ys H => i ≤ n ∧ Pv i ys H, n, hz, ⟨Nat.zero_le _, h0⟩, ?_⟩
  rintro i ys H ⟨hi, p⟩
  by_cases hlt : i < n
  · refine .inr ⟨hlt, hlt, fun x H' y => ?_⟩
    obtain ⟨e, y⟩ := y
    subst e y
    have z := hs i ys _ hlt p
    have e2 : (fun (y : V) (H3 : Hp) => i + 1 ≤ n ∧ Pv (i + 1) (ys ++ [y]) H3) = fun y H3 => Pv (i + 1) (ys ++ [y]) H3 := by
      funext y H3
      exact propext ⟨fun h => h.2, fun h => ⟨hlt, h⟩⟩
    show g (.int (lo + i)) σ0 _ fun σ' H'' => (σ'.drop k = σ0.drop k ∧ σ'.length = σ0.length) ∧ te σ' H'' fun y H3 => i + 1 ≤ n ∧ Pv (i + 1) (ys ++ [y]) H3
    rw [e2]
    exact z
  · have e : i = n := by omega
    subst e
    exact .inl ⟨Nat.le_refl _, hd ys H p⟩
structure ClsA (K : PySem.W.Frag) (mg : Str → Option Value) (x : Str) (C : Addr) : Prop where
  cl : Cls K C
  at_ : mg x = some (.ref C)
  ha : PySem.W.findIn K (.ref C) "__class__" = some (some (.builtin "object.__class__"))
  hn : PySem.W.specialIn K (.builtin "object.__class__") "__get__" = some (some (.builtin "getset_descriptor.__get__"))
  htk : PySem.W.takesIn K (.builtin "object.__class__") = some true
  hm : PySem.W.mroIn K C (.type "object") = some true
structure MethA (P : Program) (w : World) (K : PySem.W.Frag) (mg : Str → Option Value) (base : Heap) (C : Addr) (m : Str) (ps : List Str) (k : Nat) (sp : Sp) : Prop where
  ex : ∃ f fd, FnOk P w K mg base CX0 k f fd ps sp ∧ Binds K fd ps [] ∧ Meth K C m f
structure MakeA (P : Program) (w : World) (K : PySem.W.Frag) (mg : Str → Option Value) (base : Heap) (x : Str) (C : Addr) (ps : List Str) (k : Nat) (sp : Sp) : Prop where
  ex : ∃ f fd, FnOk P w K mg base CX0 k f fd ps sp ∧ Binds K fd ps [] ∧ Mk K C f ∧ mg x = some (.ref C)
section
variable {X : Cx} {x m : Str} {ps : List Str} {k : Nat} {sp : Sp} {e o : Expr} {es : List Expr} {t : TA} {ta : TE} {p pos apos : Pos} {C : Addr}
theorem pe_methA {pl : Sem Bool} (he : PE X o ta) (c : ClsA X.K X.mg x C) (F : MethA X.prog X.w X.K X.mg X.base C m ps k sp) (hr : Room k X.A) (ha : PA X (e :: es) t)
    (hst : starEach (e :: es) X.env = (false, eval e X.env) :: starEach es X.env := by rfl) (hpl : (backTo pos (starEach es X.env)).any (·.1) = false := by rfl)
    (ht : eval (.Call (.Attribute o m apos) (e :: es) [] pos) X.env = (do
      let ov ← eval o X.env
      standAt apos.atName
      let (f, first) ← holding [ov] (getMethod ov m pl)
      callWith pos f first (backTo pos (starEach (e :: es) X.env)) (backToKw pos (keywordEach [] X.env))) := by rfl) :
    PE X (.Call (.Attribute o m apos) (e :: es) [] pos) (tMeth C m sp [] E0 ta t) := by
  obtain ⟨f, fd, G, b, hm⟩ := F.ex
  exact pe_meth (pl := pl) he c.cl hm G hr b .nil pass0 ha hst hpl ht
theorem pe_makeA (F : MakeA X.prog X.w X.K X.mg X.base x C ps k sp) (hr : Room (k + 1) X.A) (hg : Gl X x) (ha : PA X (e :: es) t) (hdb : (x == ("__debug__" : Str)) = false := by decide)
    (he : starEach (e :: es) X.env = (false, eval e X.env) :: starEach es X.env := by rfl) (hpl : (backTo pos (starEach es X.env)).any (·.1) = false := by rfl) : PE X (.Call (.Name x p) (e :: es) [] pos) (tMake C sp [] E0 t) := by
  obtain ⟨f, fd, G, b, M, m⟩ := F.ex
  exact pe_make M G hr hg m b .nil pass0 ha hdb he hpl
end
structure MethAt (K : PySem.W.Frag) (C : Addr) (m qual : Str) (st : Stmt) (ps : List Str) : Prop where
  ex : ∃ f fd, Fun K m qual st f fd ∧ Binds K fd ps [] ∧ Meth K C m f
theorem MethAt.methA {P : Program} {w : World} {K : PySem.W.Frag} {mg : Str → Option Value} {base : Heap} {C : Addr} {m qual : Str} {st : Stmt} {ps : List Str} {k : Nat} {sp : Sp} (D : MethAt K C m qual st ps)
    (h : ∀ f fd, Fun K m qual st f fd → FnOk P w K mg base CX0 k f fd ps sp) : MethA P w K mg base C m ps k sp := by
  obtain ⟨f, fd, F, b, hm⟩ := D.ex
  exact ⟨f, fd, h f fd F, b, hm⟩
structure InitAt (K : PySem.W.Frag) (mg : Str → Option Value) (x : Str) (C : Addr) (qual : Str) (st : Stmt) (ps : List Str) : Prop where
  ex : ∃ f fd, Fun K "__init__" qual st f fd ∧ Binds K fd ps [] ∧ Mk K C f ∧ mg x = some (.ref C)
theorem InitAt.makeA {P : Program} {w : World} {K : PySem.W.Frag} {mg : Str → Option Value} {base : Heap} {x : Str} {C : Addr} {qual : Str} {st : Stmt} {ps : List Str} {k : Nat} {sp : Sp} (D : InitAt K mg x C qual st ps)
    (h : ∀ f fd, Fun K "__init__" qual st f fd → FnOk P w K mg base CX0 k f fd ps sp) : MakeA P w K mg base x C ps k sp := by
  obtain ⟨f, fd, F, b, hm, hx⟩ := D.ex
  exact ⟨f, fd, h f fd F, b, hm, hx⟩
theorem methAt_mk {K : PySem.W.Frag} {C : Addr} {m qual : Str} {st : Stmt} {ps : List Str} {f : Addr} {oc : Value} {od an : Option Addr} {osl : Array (Option Value)} {kV doc pm cdv ct : Value}
    (hb : ∀ (kV doc pm : Value) (an : Option Addr) (cdv ct : Value) (us : List Value), us.length = ps.length → bindArgs (PySem.W.fnOf m qual (defArgs st) (defBody st) (defScope st) .none kV doc pm an cdv ct) ⟨us, []⟩ = pure (ps.zip us))
    (a : PySem.W.findIn K (.ref C) m = some (some (.ref f))) (i : PySem.W.isFn K (.ref f) = true) (l : K.lookup f = some ⟨oc, od, .func (PySem.W.fnOf m qual (defArgs st) (defBody st) (defScope st) .none kV doc pm an cdv ct), osl⟩) (c : PySem.W.codeIn K cdv qual = true) (k : PySem.W.keepIn K (.ref f) = true) :
    MethAt K C m qual st ps := by
  have F := fun_mk (st := st) l c k
  exact ⟨f, _, F, F.binds hb, a, i, k⟩
theorem initAt_mk {K : PySem.W.Frag} {h : Heap} {mg : Str → Option Value} {x : Str} {C : Addr} {qual : Str} {st : Stmt} {ps : List Str} {f : Addr} {oc : Value} {od an : Option Addr} {osl : Array (Option Value)} {kV doc pm cdv ct : Value} (X : K.In h) (G : h.Ns mainGlobals mg)
    (hb : ∀ (kV doc pm : Value) (an : Option Addr) (cdv ct : Value) (us : List Value), us.length = ps.length → bindArgs (PySem.W.fnOf "__init__" qual (defArgs st) (defBody st) (defScope st) .none kV doc pm an cdv ct) ⟨us, []⟩ = pure (ps.zip us))
    (a : PySem.W.findIn K (.ref C) "__init__" = some (some (.ref f))) (i : PySem.W.isFn K (.ref f) = true) (l : K.lookup f = some ⟨oc, od, .func (PySem.W.fnOf "__init__" qual (defArgs st) (defBody st) (defScope st) .none kV doc pm an cdv ct), osl⟩) (c : PySem.W.codeIn K cdv qual = true) (k : PySem.W.keepIn K (.ref f) = true)
    (n : PySem.W.nsIn K mainGlobals x = some (some (.ref C))) (m : PySem.W.makesIn K C = true) (p : PySem.W.keepIn K (.ref C) = true) : InitAt K mg x C qual st ps := by
  have F := fun_mk (st := st) l c k
  exact ⟨f, _, F, F.binds hb, ⟨m, a, i, p⟩, PySem.W.mg_of X G n⟩
theorem clsA_mk {K : PySem.W.Frag} {h : Heap} {mg : Str → Option Value} {x : Str} {C : Addr} (X : K.In h) (G : h.Ns mainGlobals mg) (a : PySem.W.nsIn K mainGlobals x = some (some (.ref C)))
    (b1 : PySem.W.plainGet K C Str.empty = true) (b2 : PySem.W.hasDictIn K C = true) (b3 : PySem.W.plainOver K C = true) (b4 : PySem.W.findIn K (.ref C) "__setattr__" = some (some (.builtin "object.__setattr__")))
    (b5 : PySem.W.findIn K (.ref C) "__class__" = some (some (.builtin "object.__class__"))) (b6 : PySem.W.specialIn K (.builtin "object.__class__") "__get__" = some (some (.builtin "getset_descriptor.__get__")))
    (b7 : PySem.W.takesIn K (.builtin "object.__class__") = some true) (b8 : PySem.W.mroIn K C (.type "object") = some true) : ClsA K mg x C := ⟨⟨b1, b2, b3, b4⟩, PySem.W.mg_of X G a, b5, b6, b7, b8⟩
end L2
set_option Elab.async false
set_option linter.all false
set_option maxRecDepth 100000
set_option maxHeartbeats 4000000
namespace L2
open PySem PySem.Spec PySem.Calls PyProof.Rows
section
variable {X : Cx} {K : PySem.W.Frag} {pos : Pos}
theorem pg_three {x y z : Str} {i j l : Nat} {px py pz tp : Pos} {kk : Nat} (hK : X.K = K) (hc : X.calm = true) (hN : X.N.Nodup) (hi : X.N[i]? = some x) (hj : X.N[j]? = some y) (hl : X.N[l]? = some z) (hx : X.env.scope.names.lookup x = some .local) (hy : X.env.scope.names.lookup y = some .local)
    (hz : X.env.scope.names.lookup z = some .local) : PG X (.Tuple [.Name x px, .Name y py, .Name z pz] kk tp) (gTup K 3 (gCons (gName i) (gCons (gName j) (gCons (gName l) gNil)))) := by
  subst hK
  exact pg_tup hc (pgs_cons (pg_name hN hi (.inl hx) (.inr hx)) (pgs_cons (pg_name hN hj (.inl hy) (.inr hy)) (pgs_cons (pg_name hN hl (.inl hz) (.inr hz)) pgs_nil rfl) rfl) rfl) rfl rfl
end
end L2
set_option Elab.async false
set_option linter.all false
set_option maxRecDepth 100000
set_option maxHeartbeats 4000000
namespace L2
open PySem PySem.Spec PySem.Calls PyProof.Rows
section
variable {X : Cx} {K : PySem.W.Frag} {pos : Pos}
def rLE (K : PySem.W.Frag) (f : Bool → Bool) : R2 := fun x y H Q => ∃ (p q' : Addr) (xs : List V), x = .ref p ∧ y = .ref q' ∧ SqL K H p xs ∧ SqL K H q' [] ∧ Q (.bl (f xs.isEmpty)) H
theorem op_eqE (hu : X.A.units + 64 < cLine) : OpR X (compareOp .Eq) (rLE X.K id) := by
  intro pins s σ H x y v u Q I rx ry h
  obtain ⟨p, q', xs, rfl, rfl, ha, hb, q⟩ := h
  cases xs with
  | nil => exact op_eqL hu pins s σ H _ _ v u Q I rx ry ⟨0, true, by decide, ⟨p, q', [], [], fun _ => true, rfl, rfl, ha, hb, rfl, fun j x y e1 _ => by simp at e1, rfl⟩, q⟩
  | cons a l => exact op_eqLn hu pins s σ H _ _ v u Q I rx ry ⟨p, q', _, _, rfl, rfl, ha, hb, by simp, q⟩
theorem op_neE (hu : X.A.units + 64 < cLine) : OpR X (compareOp .NotEq) (rLE X.K (!·)) := by
  intro pins s σ H x y v u Q I rx ry h
  obtain ⟨p, q', xs, rfl, rfl, ha, hb, q⟩ := h
  cases xs with
  | nil => exact op_neL hu pins s σ H _ _ v u Q I rx ry ⟨0, true, by decide, ⟨p, q', [], [], fun _ => true, rfl, rfl, ha, hb, rfl, fun j x y e1 _ => by simp at e1, rfl⟩, q⟩
  | cons a l => exact op_neLn hu pins s σ H _ _ v u Q I rx ry ⟨p, q', _, _, rfl, rfl, ha, hb, by simp, q⟩
theorem op_neP (hu : X.A.units + 64 < cLine) : OpR X (compareOp .NotEq) (fun x y H Q => ∃ (a b : Addr) (p q p' q' : Int), x = .ref a ∧ y = .ref b ∧ SqT X.K H a [.int p, .int q] ∧ SqT X.K H b [.int p', .int q'] ∧ Q (.bl (!decide ((p, q) = (p', q')))) H) := by
  intro pins s σ H x y v u Q I rx ry h
  obtain ⟨a, c, p, q, p', q', rfl, rfl, ha, hb, qq⟩ := h
  cases rx
  cases ry
  obtain ⟨its, r1, p1, _⟩ := I.tuple ha
  obtain ⟨its2, r2, p2, _⟩ := I.tuple hb
  have e1 : its.toArray.size = 2 := by rw [List.size_toArray, ← r1.length]; rfl
  have e2 : its2.toArray.size = 2 := by rw [List.size_toArray, ← r2.length]; rfl
  have z := SeqAt.RcNeAt.tuples (A := X.A) (e := fun j => eqV ([V.int p, V.int q].getD j .non) ([V.int p', V.int q'].getD j .non)) p1 p2 (by omega) (EqR.items (n := 0) r1 r2 fun j x y u v g1 g2 q1 q2 => by
    have f1 : flatV x = true ∧ [V.int p, V.int q].getD j .non = x := by
      match j, g1 with
      | 0, g1 => cases g1; exact ⟨rfl, rfl⟩
      | 1, g1 => cases g1; exact ⟨rfl, rfl⟩
      | j + 2, g1 => cases g1
    have f2 : flatV y = true ∧ [V.int p', V.int q'].getD j .non = y := by
      match j, g2 with
      | 0, g2 => cases g2; exact ⟨rfl, rfl⟩
      | 1, g2 => cases g2; exact ⟨rfl, rfl⟩
      | j + 2, g2 => cases g2
    rw [f1.2, f2.2]
    exact eqAt_V q1 q2 f1.1 f2.1)
  refine z X.prog X.w X.xe _ ?_
  rw [e1, e2]
  have : (!(((List.range (min 2 2)).all fun j => eqV ([V.int p, V.int q].getD j .non) ([V.int p', V.int q'].getD j .non)) && 2 == 2)) = !decide ((p, q) = (p', q')) := by
    congr 1
    rw [Bool.eq_iff_iff]
    simp [List.range, List.range.loop, eqV]
  first
    | (rw [this]; exact ⟨.bl _, H, I, rfl, qq⟩)
    | (refine ⟨.bl _, H, I, rfl, ?_⟩; rw [← this] at qq; exact qq)
end
def MonoE (t : TE) : Prop := ∀ σ H (Q Q' : VK), (∀ v H1, Q v H1 → Q' v H1) → t σ H Q → t σ H Q'
def MonoT (t : TT) : Prop := ∀ σ H (Q Q' : Bool → Hp → Prop), (∀ b H1, Q b H1 → Q' b H1) → t σ H Q → t σ H Q'
def MonoR (r : R2) : Prop := ∀ x y H (Q Q' : VK), (∀ v H1, Q v H1 → Q' v H1) → r x y H Q → r x y H Q'
def MonoA (t : TA) : Prop := ∀ σ H (Q Q' : List V → Hp → Prop), (∀ v H1, Q v H1 → Q' v H1) → t σ H Q → t σ H Q'
theorem mono_var (i : Nat) : MonoE (tVar i) := fun _ _ _ _ h ⟨v, e, q⟩ => ⟨v, e, h _ _ q⟩
theorem mono_c (v : V) : MonoE (tC v) := fun _ _ _ _ h q => h _ _ q
theorem mono_op {r : R2} {ta tb : TE} (hr : MonoR r) (ha : MonoE ta) (hb : MonoE tb) : MonoE (tOp r ta tb) := fun σ H Q Q' h q => ha σ H _ _ (fun x H1 q1 => hb σ H1 _ _ (fun y H2 q2 => hr x y H2 _ _ h q2) q1) q
theorem mono_test {t : TE} (ht : MonoE t) : MonoT (tTest t) := fun σ H Q Q' h q => ht σ H _ _ (fun x H1 ⟨k, e, q1⟩ => ⟨k, e, h _ _ q1⟩) q
theorem mono_B {t : TE} (ht : MonoE t) : MonoT (tB t) := fun σ H Q Q' h q => ht σ H _ _ (fun x H1 ⟨k, e, q1⟩ => ⟨k, e, h _ _ q1⟩) q
theorem mono_not {t : TT} (ht : MonoT t) : MonoT (tNot t) := fun σ H Q Q' h q => ht σ H _ _ (fun b H1 q1 => h _ _ q1) q
theorem mono_and {t u : TT} (ht : MonoT t) (hu : MonoT u) : MonoT (tAnd t u) := fun σ H Q Q' h q => ht σ H _ _ (fun b H1 q1 => by
  cases b with
  | false => exact h _ _ q1
  | true => exact hu σ H1 _ _ h q1) q
theorem mono_nil : MonoA tNil := fun _ _ _ _ h q => h _ _ q
theorem mono_cons {te : TE} {t : TA} (he : MonoE te) (ht : MonoA t) : MonoA (tCons te t) := fun σ H Q Q' h q => he σ H _ _ (fun x H1 q1 => ht σ H1 _ _ (fun xs H2 q2 => h _ _ q2) q1) q
theorem mono_lst {t : TA} (ht : MonoA t) : MonoE (tLst t) := fun σ H Q Q' h q => ht σ H _ _ (fun xs H1 ⟨l, q1⟩ => ⟨l, fun p hp => h _ _ (q1 p hp)⟩) q
theorem mono_call {sp : Sp} {E : XK} {t : TA} (hs : ∀ vs H (Q Q' : VK), (∀ v H1, Q v H1 → Q' v H1) → sp vs H Q E → sp vs H Q' E) (ht : MonoA t) : MonoE (tCall sp [] E t) := fun σ H Q Q' h q => ht σ H _ _ (fun vs H1 q1 => hs _ H1 _ _ h q1) q
theorem mono_un {r : V → Hp → VK → Prop} {ta : TE} (hr : ∀ x H (Q Q' : VK), (∀ v H1, Q v H1 → Q' v H1) → r x H Q → r x H Q') (ha : MonoE ta) : MonoE (tUn r ta) := fun σ H Q Q' h q => ha σ H _ _ (fun x H1 q1 => hr x H1 _ _ h q1) q
theorem mono_rLE {K : PySem.W.Frag} {f : Bool → Bool} : MonoR (rLE K f) := fun _ _ _ _ _ h ⟨p, q', xs, e1, e2, a, b, q⟩ => ⟨p, q', xs, e1, e2, a, b, h _ _ q⟩
theorem mono_rIxL {K : PySem.W.Frag} : MonoR (rIxL K) := fun _ _ _ _ _ h ⟨p, xs, i, v, e1, e2, a, b, q⟩ => ⟨p, xs, i, v, e1, e2, a, b, h _ _ q⟩
theorem mono_rIxT {K : PySem.W.Frag} : MonoR (rIxT K) := fun _ _ _ _ _ h ⟨p, xs, i, v, e1, e2, a, b, q⟩ => ⟨p, xs, i, v, e1, e2, a, b, h _ _ q⟩
theorem mono_rI0 {g : Int → Int → V} : MonoR (rI0 g) := fun _ _ _ _ _ h ⟨i, j, e1, e2, q⟩ => ⟨i, j, e1, e2, h _ _ q⟩
theorem mono_rI {C : Int → Int → Prop} {g : Int → Int → V} : MonoR (rI C g) := fun _ _ _ _ _ h ⟨i, j, e1, e2, c, q⟩ => ⟨i, j, e1, e2, c, h _ _ q⟩
theorem mono_rU {g : Int → V} : ∀ x H (Q Q' : VK), (∀ v H1, Q v H1 → Q' v H1) → rU g x H Q → rU g x H Q' := fun _ _ _ _ h ⟨i, e, q⟩ => ⟨i, e, h _ _ q⟩
end L2
set_option Elab.async false
set_option linter.all false
set_option maxRecDepth 100000
set_option maxHeartbeats 4000000
namespace L2
open PySem PySem.Spec PySem.Calls PyProof.Rows
def Itd (hi : Int) (n : Nat) : It := ⟨fun i _ => i < n, fun i H x H' => H' = H ∧ x = .int (hi - i), fun i _ => n ≤ i⟩
theorem turn_down {P : Program} {w : World} {K : PySem.W.Frag} {tg : Expr} (it : Addr) (lo : Int) (n : Nat) : Turn P w K tg (Itd lo n) [it] it (fun i h => IsRangeIter h it (lo + (i : Nat) * (-1)) ((n : Int) - (i : Nat)) (-1)) where
  mem := by simp
  obj := fun i h st b hb => by
    have e : b = it := by simpa using hb
    subst e
    exact ⟨_, st, fun v z => by
      have z' : Data.fields _ = Data.cell v := z
      cases z'⟩
  keep := fun i h h' st k => k it (by simp) _ st
  item := by
    intro X hP hw hK hc i pins s σ H E I hf st hg
    subst hP hw hK
    obtain ⟨f0, f1, f2, f3, f4, f5⟩ := hf it (by simp)
    have W := Walks.range (prog := X.prog) (w := X.w) (I.ok.hd hc) it lo (-1) n
    refine W.item i s _ _ hg st fun v h' tk hv st' kk => ?_
    obtain ⟨t, rfl⟩ := hv
    have I1 : Inv X pins σ H { s with heap := h', toks := tk } := I.turned (fun b o hb e => kk b o (by simpa using hb) e) f0 f1 f3 f4 f5
    refine ⟨_, rfl, go_of (s := { s with heap := h', toks := tk }) (n := "range_iterator") st' rfl rfl (by decide) ⟨.int (lo - i), H, I1, ⟨t, ?_⟩, ⟨rfl, rfl⟩, st', fun b hb => (hf b hb).1⟩⟩
    rw [show lo + (i : Int) * (-1) = lo - i by omega]
  done := by
    intro X hP hw hK hc i pins s σ H E I hf st hg
    subst hP hw hK
    obtain ⟨f0, f1, f2, f3, f4, f5⟩ := hf it (by simp)
    exact wpAny_pyNext_range_end (I.ok.hd hc) st (by have : n ≤ i := hg; omega) fun h' eb => ⟨rfl, I.turned (t' := s.toks) (fun b o hb e => eb b o hb e) f0 f1 f3 f4 f5⟩
  self := fun _ _ _ _ _ st h => wpAny_pyIter_rangeiter st h
theorem rangeSize_down (a : Int) (h : -1 ≤ a) : Builtin.Range.rangeSize a (-1) (-1) = a + 1 := by
  unfold Builtin.Range.rangeSize
  simp only [show ¬ ((-1 : Int) > 0) by decide, if_false]
  rw [show (-(-1 : Int)) = 1 by decide, Int.ediv_one]
  split <;> omega
theorem small_down {a : Int} (h : -1 ≤ a) (h2 : a < 2 ^ 62) : Builtin.Range.small a (-1) (-1) = true := by
  unfold Builtin.Range.small
  rw [rangeSize_down a h]
  simp only [Builtin.Range.rangeFitsLong, Bool.and_eq_true, Bool.or_eq_true, decide_eq_true_eq, beq_iff_eq, show ¬ ((-1 : Int) > 0) by decide, if_false]
  omega
section
variable {X : Cx} {tg : Expr}
def iRng3 (ta : TA) : TI := fun σ H R => ta σ H fun vs H1 => ∃ i : Int, vs = [.int i, .int (-1), .int (-1)] ∧ -1 ≤ i ∧ i < 2 ^ 62 ∧ R (Itd i (i + 1).toNat) H1
theorem pi_range3 {a b c : Expr} {ta : TA} {p pos : Pos} (hg : Gl X "range") (hm : X.mg "range" = none) (ha : PA X [a, b, c] ta) (hs : starEach [a, b, c] X.env = [(false, eval a X.env), (false, eval b X.env), (false, eval c X.env)] := by rfl) (hs2 : starEach [b, c] X.env = [(false, eval b X.env), (false, eval c X.env)] := by rfl) :
    PI X tg (.Call (.Name "range" p) [a, b, c] [] pos) (iRng3 ta) := by
  intro pins s σ H R I h
  refine Call_ (ld_blt I hg hm boot_range (PyProof.Rows.callWith_type1 (thn (ha pos pins s σ H _ I h) fun us s1 ⟨vs, H1, I1, r1, q1⟩ => ?_) (by rw [hs, hs2]) (by rw [hs2]; rfl)))
  obtain ⟨i, e, q1, q2, q⟩ := q1
  subst e
  cases r1 with
  | cons r rr =>
    cases rr with
    | cons r' rr =>
      cases rr with
      | cons r'' rr =>
        cases rr
        obtain ⟨t, rfl⟩ := r
        obtain ⟨t', rfl⟩ := r'
        obtain ⟨t'', rfl⟩ := r''
        refine call_range_3 (by decide) ?_ (.inl (PyProof.noPylong_small (by decide)))
        refine wpAny_pyIter_range (IsRange.new ..) (small_down q1 q2) ?_
        have I2 : Inv X pins σ H1 { s1 with heap := s1.heap.push { cls := .type "range", data := .fields #[.int i t, .int (-1) t', .int (-1) t''] }, toks := s1.toks } := I1.kept fun b o e => Heap.get?_push_of_some _ e
        refine ⟨(s1.heap.push { cls := .type "range", data := .fields #[.int i t, .int (-1) t', .int (-1) t''] }).objs.size, [(s1.heap.push { cls := .type "range", data := .fields #[.int i t, .int (-1) t', .int (-1) t''] }).objs.size], _, _, H1, rfl,
          I2.kept (t' := s1.toks) fun b o e => Heap.get?_push_of_some _ e, turn_down _ i (i + 1).toNat, ?_, fun b hb => ?_, q⟩
        · have e1 : i + ((0 : Nat) : Int) * (-1) = i := by simp
          have e2 : (((i + 1).toNat : Nat) : Int) - ((0 : Nat) : Int) = Builtin.Range.rangeSize i (-1) (-1) := by rw [rangeSize_down i q1]; omega
          show IsRangeIter _ _ (i + ((0 : Nat) : Int) * (-1)) ((((i + 1).toNat : Nat) : Int) - ((0 : Nat) : Int)) (-1)
          rw [e1, e2]
          exact Heap.get?_push_size _ rfl
        · have e : b = (s1.heap.push { cls := .type "range", data := .fields #[.int i t, .int (-1) t', .int (-1) t''] }).objs.size := by simpa using hb
          subst e
          exact I2.fpOk (Nat.le_refl _) (I2.hok.fresh (Nat.le_refl _))
end
theorem for_down {hi : Int} {n : Nat} {g : TG} {tb : TS} {D : Ends} {σ : St} {H : Hp} (Pv : Nat → St → Hp → Prop) (h0 : Pv 0 σ H)
    (hs : ∀ (i : Nat) σ H, i < n → Pv i σ H → g (.int (hi - i)) σ H fun σ2 H2 => tb { D with nx := Pv (i + 1), ct := Pv (i + 1), bk := D.nx } σ2 H2) (hd : ∀ σ H, Pv n σ H → D.nx σ H) :
    ∃ W : Nat → Nat → St → Hp → Prop, (∃ m, W 0 m σ H) ∧ ∀ i m σ H, W i m σ H →
      ((Itd hi n).stop i H ∧ D.nx σ H) ∨ ((Itd hi n).go i H ∧ ∃ N : St → Hp → Prop, (∀ σ' H', N σ' H' → ∃ m', m' < m ∧ W (i + 1) m' σ' H') ∧ ∀ x H', (Itd hi n).yld i H x H' → g x σ H' fun σ2 H2 => tb { D with nx := N, ct := N, bk := D.nx } σ2 H2) := by
  refine ⟨fun i m σ H => m = n - i ∧ i ≤ n ∧ Pv i σ H, ⟨n, by simp, Nat.zero_le _, h0⟩, ?_⟩
  rintro i m σ H ⟨rfl, hi', p⟩
  by_cases hlt : i < n
  · refine .inr ⟨hlt, Pv (i + 1), fun σ' H' p' => ⟨n - (i + 1), by omega, rfl, hlt, p'⟩, fun x H' y => ?_⟩
    obtain ⟨e, y⟩ := y
    subst e y
    exact hs i σ _ hlt p
  · have e : i = n := by omega
    subst e
    exact .inl ⟨Nat.le_refl _, hd σ H p⟩
end L2
set_option Elab.async false
set_option linter.all false
set_option maxRecDepth 100000
set_option maxHeartbeats 4000000
namespace L2
open PySem PySem.Spec PySem.Calls PyProof.Rows
section
variable {X : Cx} {K : PySem.W.Frag}
def CDivL (i j : Int) : Prop := 0 < j ∧ Builtin.Int.intBits j ≤ 9000
theorem op_fdivL : OpR X (binaryOp .FloorDiv) (rI CDivL fun i j => .int (i / j)) := opI fun i j _ _ _ _ _ hc q => by
  have h1 : (0 : Int) < j := hc.1
  have h2 := intBits_le_iff.mp hc.2
  refine floordiv_int (Int.ne_of_gt h1) ?_ (.inl (PyProof.noPylong_of_log2 ?_))
  · rw [Int.fdiv_eq_ediv_of_nonneg _ (Int.le_of_lt h1)]
    exact q
  · exact (Nat.log2_lt (show j.natAbs ≠ 0 by clear h2; omega)).mpr h2
end
end L2
set_option Elab.async false
set_option linter.all false
set_option maxRecDepth 100000
set_option maxHeartbeats 4000000
namespace L2
open PySem PySem.Spec PySem.Calls PyProof.Rows
theorem kit_bb {K : PySem.W.Frag} : PySem.W.kitOne K (.type "bool") (.type "bool") = some true := by rfl
section
variable {X : Cx} {x : Str} {ps : List Str} {k : Nat} {sp : Sp} {p pos : Pos}
theorem pe_callA0 (F : FnA X.prog X.w X.K X.mg X.base x ps k sp) (hr : Room k X.A) (hg : Gl X x) (hdb : (x == ("__debug__" : Str)) = false := by decide) : PE X (.Call (.Name x p) [] [] pos) (tCall sp [] E0 tNil) := by
  obtain ⟨f, fd, G, b, kp, m⟩ := F.ex
  exact pe_call0 G hr hg m kp b .nil pass0 hdb
end
section
variable {X : Cx} {K : PySem.W.Frag}
def rCatS (K : PySem.W.Frag) : R2 := fun x y H Q => ∃ l b xs zs, x = .ref l ∧ y = .ref b ∧ SqL K H l xs ∧ SqL K H b zs ∧ xs.length + zs.length ≤ sizeLine ∧ ∀ p, H p = none → Q (.ref p) (upd H p (.lst (xs ++ zs)))
theorem op_catS (hK : X.K = K) : OpR X (binaryOp .Add) (rCatS K) := by
  subst hK
  intro pins s σ H x y v u Q I rx ry h
  obtain ⟨l, b, xs, zs, rfl, rfl, hH, hB, hz, q⟩ := h
  cases rx
  cases ry
  obtain ⟨its, r, p1, _⟩ := I.list hH
  obtain ⟨its2, r2, p2, _⟩ := I.list hB
  obtain ⟨⟨cls, dd, data, sl⟩, ho, hc, n, hd⟩ := p1.isList
  obtain ⟨⟨cls2, dd2, data2, sl2⟩, ho2, hc2, n2, hd2⟩ := p2.isList
  simp only at hc hd hc2 hd2
  subst hc hd hc2 hd2
  have hl := r.length
  have hl2 := r2.length
  have ea : its.toArray ++ its2.toArray = (its ++ its2).toArray := by simp
  refine concat_meets ⟨_, ho, rfl⟩ ⟨_, ho2, rfl⟩ noFill_list_add seq_list_add PySem.F.slot_list_add PySem.F.entry_list_add (PySem.F.args_list_add_2 _ _) (list_addW l b its.toArray its2.toArray n n2 dd dd2 sl sl2 (by rw [List.size_toArray, List.size_toArray]; omega)) ⟨ho, ho2, ?_⟩
  rw [ea]
  exact ⟨.ref _, _, I.lnew (t' := s.toks) (r.append r2) (by rw [List.length_append]; omega), rfl, q _ I.fresh⟩
end
section
variable {X : Cx} {te : TE} {t : TA} {es es' : List Expr} {p : Pos}
theorem pa_consL (ha : PE X (.List es' p) te) (hr : PA X es t) : PA X (.List es' p :: es) (tCons te t) := pa_cons ha hr rfl
theorem pa_consT {k} (ha : PE X (.Tuple es' k p) te) (hr : PA X es t) : PA X (.Tuple es' k p :: es) (tCons te t) := pa_cons ha hr rfl
theorem pa_consK {c j} (ha : PE X (.Constant c j p) te) (hr : PA X es t) : PA X (.Constant c j p :: es) (tCons te t) := pa_cons ha hr rfl
theorem pa_consU {o e} (ha : PE X (.UnaryOp o e p) te) (hr : PA X es t) : PA X (.UnaryOp o e p :: es) (tCons te t) := pa_cons ha hr rfl
end
end L2
set_option maxHeartbeats 4000000
set_option linter.all false
namespace Fr1
def lowP (t b : Int) : Int × Int := (t / (Int.gcd t b : Int), b / (Int.gcd t b : Int))
theorem gcd_pos {t b : Int} (hb : 0 < b) : 0 < (Int.gcd t b : Int) := by
  have h : 0 < Int.gcd t b := Int.gcd_pos_of_ne_zero_right t (by omega)
  omega
theorem gcd_le {t b : Int} (hb : 0 < b) : (Int.gcd t b : Int) ≤ b := Int.le_of_dvd hb (Int.gcd_dvd_right ..)
theorem lowP_mul {t b : Int} (k : Int) (hk : 0 < k) (hb : 0 < b) : lowP (k * t) (k * b) = lowP t b := by
  have hg := gcd_pos (t := t) hb
  have e : (Int.gcd (k * t) (k * b) : Int) = k * (Int.gcd t b : Int) := by
    rw [Int.gcd_mul_left, Int.natCast_mul, Int.natAbs_of_nonneg (by omega)]
  unfold lowP
  rw [e, Int.mul_ediv_mul_of_pos _ _ hk, Int.mul_ediv_mul_of_pos _ _ hk]
theorem lowP_eq {t b : Int} (hb : 0 < b) (h : Int.gcd t b = 1) : lowP t b = (t, b) := by
  unfold lowP
  rw [h]
  simp
theorem lowP_gcd {t b : Int} (hb : 0 < b) : Int.gcd (lowP t b).1 (lowP t b).2 = 1 := by
  unfold lowP
  exact Int.gcd_ediv_gcd_ediv_gcd (Int.gcd_pos_of_ne_zero_right t (by omega))
theorem lowP_pos {t b : Int} (hb : 0 < b) : 0 < (lowP t b).2 := by
  unfold lowP
  exact Int.ediv_pos_of_pos_of_dvd hb (Int.natCast_nonneg _) (Int.gcd_dvd_right ..)
theorem lowP_fst {t b : Int} (hb : 0 < b) : (lowP t b).1 * (Int.gcd t b : Int) = t := by
  unfold lowP
  exact Int.ediv_mul_cancel (Int.gcd_dvd_left ..)
theorem lowP_snd {t b : Int} (hb : 0 < b) : (lowP t b).2 * (Int.gcd t b : Int) = b := by
  unfold lowP
  exact Int.ediv_mul_cancel (Int.gcd_dvd_right ..)
theorem lowP_dvd {t b : Int} (hb : 0 < b) : (lowP t b).2 ∣ b := ⟨_, (lowP_snd (t := t) hb).symm⟩
theorem lowP_le {t b : Int} (hb : 0 < b) : (lowP t b).2 ≤ b := Int.le_of_dvd hb (lowP_dvd hb)
theorem lowP_cross {t b : Int} (hb : 0 < b) : (lowP t b).1 * b = t * (lowP t b).2 := by
  have h1 := lowP_fst (t := t) hb
  have h2 := lowP_snd (t := t) hb
  generalize (lowP t b).1 = x at h1 ⊢
  generalize (lowP t b).2 = y at h2 ⊢
  generalize (Int.gcd t b : Int) = g at h1 h2
  rw [← h1, ← h2, Int.mul_assoc, Int.mul_comm g y]
theorem lowP_cong {t b t' b' : Int} (hb : 0 < b) (hb' : 0 < b') (h : t * b' = t' * b) : lowP t b = lowP t' b' := by
  rw [← lowP_mul (t := t) b' hb' hb, ← lowP_mul (t := t') b hb hb', Int.mul_comm b' t, h, Int.mul_comm b' b, Int.mul_comm t' b]
def acc (T : Int × Int) (n w p q : Int) : Int × Int := lowP (T.1 * (q * q) + w * (n * q - p) * (n * q - p) * T.2) (T.2 * (q * q))
def LL : Int := 768398400
structure Sm (T : Int × Int) : Prop where
  as : ∃ A, T = lowP A LL
end Fr1
namespace Fr1
theorem gcd_turn {d r : Int} : Int.gcd r (d % r) = Int.gcd d r := by
  have e : d % r = d + (-(d / r)) * r := by
    have := Int.emod_def d r
    rw [this, Int.neg_mul, Int.mul_comm r]; omega
  rw [e, Int.gcd_add_mul_right_right, Int.gcd_comm]
theorem gcd_abs (a b : Int) : Int.gcd (if a < 0 then -a else a) (if b < 0 then -b else b) = Int.gcd a b := by
  split <;> split <;> simp [Int.gcd_neg, Int.neg_gcd]
theorem gcd_zero_nn {d : Int} (h : 0 ≤ d) : (Int.gcd d 0 : Int) = d := by
  rw [Int.gcd_zero]; omega
def dif (n r : Int) : Int := if n - r < 0 then -(n - r) else n - r
theorem dif_nn (n r : Int) : 0 ≤ dif n r := by unfold dif; split <;> omega
theorem dif_max (n r : Int) : (if r - n > n - r then r - n else n - r) = dif n r := by
  unfold dif
  split <;> split <;> omega
def dl (ns rs : List Int) : List Int := List.zipWith dif ns rs
theorem dl_length {ns rs : List Int} (h : ns.length = rs.length) : (dl ns rs).length = ns.length := by
  unfold dl; rw [List.length_zipWith]; omega
theorem dl_at {ns rs : List Int} {i : Nat} {n r : Int} (h1 : ns[i]? = some n) (h2 : rs[i]? = some r) : (dl ns rs)[i]? = some (dif n r) := by
  unfold dl; rw [List.getElem?_zipWith, h1, h2]
theorem dl_nn {ns rs : List Int} : ∀ x ∈ dl ns rs, 0 ≤ x := fun x hx => by
  unfold dl at hx
  obtain ⟨i, hi, rfl⟩ := List.mem_iff_getElem.mp hx
  rw [List.getElem_zipWith]
  exact dif_nn ..
def mxs (m x : Int) : Int := if x > m then x else m
def maxL (xs : List Int) : Int := xs.foldl mxs 0
theorem maxL_from (xs : List Int) : ∀ m : Int, m ≤ xs.foldl mxs m ∧ (∀ x ∈ xs, x ≤ xs.foldl mxs m) ∧ (xs.foldl mxs m = m ∨ xs.foldl mxs m ∈ xs) := by
  induction xs with
  | nil => intro m; exact ⟨Int.le_refl _, fun x hx => (nomatch hx), .inl rfl⟩
  | cons y ys ih =>
    intro m
    obtain ⟨h1, h2, h3⟩ := ih (mxs m y)
    have hm : m ≤ mxs m y ∧ y ≤ mxs m y ∧ (mxs m y = m ∨ mxs m y = y) := by
      unfold mxs; split <;> omega
    refine ⟨Int.le_trans hm.1 h1, fun x hx => ?_, ?_⟩
    · rcases List.mem_cons.mp hx with rfl | hx
      · exact Int.le_trans hm.2.1 h1
      · exact h2 x hx
    · show List.foldl mxs (mxs m y) ys = m ∨ List.foldl mxs (mxs m y) ys ∈ y :: ys
      rcases h3 with h3 | h3
      · rcases hm.2.2 with e | e
        · exact .inl (by rw [h3, e])
        · exact .inr (by rw [h3, e]; exact List.mem_cons_self)
      · exact .inr (List.mem_cons_of_mem _ h3)
theorem maxL_of {xs : List Int} {M : Int} (h0 : ∀ x ∈ xs, 0 ≤ x) (h1 : M ∈ xs) (h2 : ∀ x ∈ xs, x ≤ M) : M = maxL xs := by
  obtain ⟨a, b, c⟩ := maxL_from xs 0
  have b' := b M h1
  have : maxL xs ≤ M := by
    rcases c with c | c
    · unfold maxL; rw [c]; exact h0 M h1
    · exact h2 _ c
  unfold maxL at *
  omega
def wl (ws ds : List Int) : List Int := List.zipWith (fun w d => w * d) ws ds
theorem wl_length {ws ds : List Int} (h : ws.length = ds.length) : (wl ws ds).length = ws.length := by
  unfold wl; rw [List.length_zipWith]; omega
theorem wl_at {ws ds : List Int} {i : Nat} {w d : Int} (h1 : ws[i]? = some w) (h2 : ds[i]? = some d) : (wl ws ds)[i]? = some (w * d) := by
  unfold wl; rw [List.getElem?_zipWith, h1, h2]
theorem take_snoc {α : Type} {xs : List α} {i : Nat} {x : α} (h : xs[i]? = some x) : xs.take (i + 1) = xs.take i ++ [x] := by
  rw [List.take_add_one, h]; rfl
theorem take_all {α : Type} (xs : List α) : xs.take xs.length = xs := List.take_length
theorem sum_snoc (xs : List Int) (x : Int) : (xs ++ [x]).sum = xs.sum + x := by simp
def accL (zs : List (Int × Int × Int × Int)) : Int × Int := zs.foldl (fun T z => acc T z.1 z.2.1 z.2.2.1 z.2.2.2) (0, 1)
def z3 (ns ws : List Int) (fs : List (Int × Int)) : List (Int × Int × Int × Int) := ns.zip (ws.zip fs)
end Fr1
set_option maxHeartbeats 4000000
set_option linter.all false
namespace Up
def sm : Nat → (Nat → Int) → Int
  | 0, _ => 0
  | n + 1, f => sm n f + f n
theorem sm_congr {f g : Nat → Int} : ∀ {n : Nat}, (∀ i, i < n → f i = g i) → sm n f = sm n g
  | 0, _ => rfl
  | n + 1, h => by
    show sm n f + f n = sm n g + g n
    rw [sm_congr fun i hi => h i (by omega), h n (by omega)]
theorem sm_le {f g : Nat → Int} : ∀ {n : Nat}, (∀ i, i < n → f i ≤ g i) → sm n f ≤ sm n g
  | 0, _ => Int.le_refl _
  | n + 1, h => by
    have h1 := sm_le (n := n) fun i hi => h i (by omega)
    have h2 := h n (by omega)
    show sm n f + f n ≤ sm n g + g n
    omega
theorem sm_add (f g : Nat → Int) : ∀ n : Nat, sm n (fun i => f i + g i) = sm n f + sm n g
  | 0 => rfl
  | n + 1 => by
    have := sm_add f g n
    show sm n (fun i => f i + g i) + (f n + g n) = sm n f + f n + (sm n g + g n)
    omega
theorem sm_zero (n : Nat) : sm n (fun _ => 0) = 0 := by
  induction n with
  | zero => rfl
  | succ n ih => show sm n (fun _ => 0) + 0 = 0; rw [ih]; rfl
theorem sm_abel (p x : Nat → Int) : ∀ n : Nat, sm (n + 1) (fun i => p i * x i) = sm (n + 1) p * x n + sm n (fun i => sm (i + 1) p * (x i - x (i + 1)))
  | 0 => by simp [sm]
  | n + 1 => by
    have ih := sm_abel p x n
    show sm (n + 1) (fun i => p i * x i) + p (n + 1) * x (n + 1) = (sm (n + 1) p + p (n + 1)) * x (n + 1) + (sm n (fun i => sm (i + 1) p * (x i - x (i + 1))) + sm (n + 1) p * (x n - x (n + 1)))
    rw [ih]
    generalize sm n (fun i => sm (i + 1) p * (x i - x (i + 1))) = A
    generalize sm (n + 1) p = B
    grind
def Ris (n : Nat) (r : Nat → Int) : Prop := ∀ i, i + 1 < n → r i ≤ r (i + 1)
def ab (a r : Int) : Int := if a - r < 0 then -(a - r) else a - r
structure SmC (n : Nat) (a w r p : Nat → Int) : Prop where
  ris : Ris n r
  bd : ∀ i, i < n → -w i ≤ p i ∧ p i ≤ w i
  nn : ∀ k, k ≤ n → 0 ≤ sm k p
  all : sm n p = 0
  cost : sm n (fun i => p i * a i) = sm n (fun i => w i * ab (a i) (r i))
structure Mx (n : Nat) (a r : Nat → Int) (c : Int) : Prop where
  le : ∀ i, i < n → ab (a i) (r i) ≤ c
  at' : (n = 0 ∧ c = 0) ∨ ∃ i, i < n ∧ ab (a i) (r i) = c
structure EvC (n : Nat) (a r : Nat → Int) (f s : Nat) (c : Int) : Prop where
  ris : Ris n r
  mx : Mx n a r c
  pl : n = 0 ∨ (f ≤ s ∧ s < n ∧ 2 * c - 1 ≤ a f - a s)
end Up
set_option maxHeartbeats 4000000
set_option linter.all false
namespace Up
open Fr1
def smq : Nat → (Nat → Rat) → Rat
  | 0, _ => 0
  | n + 1, f => smq n f + f n
def lk (a w r : Nat → Rat) : Nat → Rat := fun i => w i * (a i - r i)
structure SqC (n : Nat) (a w r : Nat → Rat) : Prop where
  ris : ∀ i, i + 1 < n → r i ≤ r (i + 1)
  nn : ∀ k, k ≤ n → 0 ≤ smq k (lk a w r)
  all : smq n (lk a w r) = 0
  up : ∀ i, i + 1 < n → r i < r (i + 1) → smq (i + 1) (lk a w r) = 0
def vl (f : Int × Int) : Rat := (f.1 : Rat) / (f.2 : Rat)
end Up
set_option maxHeartbeats 4000000
set_option linter.all false
namespace Up
open Fr1
theorem gd_of {ns : List Int} {i : Nat} {n : Int} (h : ns[i]? = some n) : ns.getD i 0 = n := by rw [List.getD_eq_getElem?_getD, h]; rfl
theorem gd_some {ns : List Int} {i : Nat} (h : i < ns.length) : ns[i]? = some (ns.getD i 0) := by rw [List.getD_eq_getElem?_getD, List.getElem?_eq_getElem h]; rfl
theorem gd_out {ns : List Int} {i : Nat} (h : ns.length ≤ i) : ns.getD i 0 = 0 := by rw [List.getD_eq_getElem?_getD, List.getElem?_eq_none h]; rfl
theorem gd_map {ns : List Int} {i : Nat} (f : Int → Int) (h : i < ns.length) : (ns.map f).getD i 0 = f (ns.getD i 0) := by
  rw [List.getD_eq_getElem?_getD, List.getElem?_map, gd_some h]; rfl
theorem gd_rev {ns : List Int} {i : Nat} (h : i < ns.length) : ns.reverse.getD i 0 = ns.getD (ns.length - 1 - i) 0 := by
  rw [List.getD_eq_getElem?_getD, List.getElem?_reverse h, ← List.getD_eq_getElem?_getD]
def Rise (ns : List Int) : Prop := ∀ i, i + 1 < ns.length → ns.getD i 0 ≤ ns.getD (i + 1) 0
theorem dl_gd {ns rs : List Int} {i : Nat} (h : i < ns.length) (h2 : i < rs.length) : (dl ns rs).getD i 0 = dif (ns.getD i 0) (rs.getD i 0) := gd_of (dl_at (gd_some h) (gd_some h2))
theorem maxL_le {xs : List Int} {c : Int} (h0 : 0 ≤ c) (h : ∀ x ∈ xs, x ≤ c) : maxL xs ≤ c := by
  rcases (maxL_from xs 0).2.2 with e | e
  · unfold maxL; rw [e]; exact h0
  · exact h _ e
theorem mem_dl {ns rs : List Int} (h : rs.length = ns.length) {x : Int} (hx : x ∈ dl ns rs) : ∃ i, i < ns.length ∧ x = dif (ns.getD i 0) (rs.getD i 0) := by
  obtain ⟨i, hi, rfl⟩ := List.mem_iff_getElem.mp hx
  have hl : (dl ns rs).length = ns.length := dl_length h.symm
  have hi' : i < ns.length := by omega
  refine ⟨i, hi', ?_⟩
  rw [← dl_gd hi' (by omega), List.getD_eq_getElem?_getD, List.getElem?_eq_getElem hi]
  rfl
def mx (i j : Int) : Int := if j > i then j else i
def mn (i j : Int) : Int := if j < i then j else i
def stp (f : Int → Int → Int) (r : List Int) (n : Int) : List Int := r ++ [match r.getLast? with | none => n | some m => f m n]
def runL (f : Int → Int → Int) (ns : List Int) : List Int := ns.foldl (stp f) []
theorem runL_snoc (f : Int → Int → Int) (ns : List Int) (n : Int) : runL f (ns ++ [n]) = stp f (runL f ns) n := by unfold runL; rw [List.foldl_append]; rfl
theorem stp_length (f : Int → Int → Int) (r : List Int) (n : Int) : (stp f r n).length = r.length + 1 := by unfold stp; simp
theorem runL_take (f : Int → Int → Int) (ns : List Int) : ∀ k, k ≤ ns.length → (runL f (ns.take k)).length = k
  | 0, _ => rfl
  | k + 1, h => by
    rw [take_snoc (gd_some (ns := ns) (i := k) (by omega)), runL_snoc, stp_length, runL_take f ns k (by omega)]
theorem runL_length (f : Int → Int → Int) (ns : List Int) : (runL f ns).length = ns.length := by
  have := runL_take f ns ns.length (Nat.le_refl _)
  rw [List.take_length] at this
  exact this
def RunTo (R : Int → Int → Prop) (ns : List Int) (i : Nat) (u : Int) : Prop := (∃ j, j ≤ i ∧ ns.getD j 0 = u) ∧ ∀ j, j ≤ i → R (ns.getD j 0) u
structure Good (f : Int → Int → Int) (R : Int → Int → Prop) : Prop where
  rfl' : ∀ x, R x x
  tr : ∀ x y z, R x y → R y z → R x z
  l : ∀ m n, R m (f m n)
  r : ∀ m n, R n (f m n)
  ch : ∀ m n, f m n = m ∨ f m n = n
theorem gd_left {xs ys : List Int} {i : Nat} (h : i < xs.length) : (xs ++ ys).getD i 0 = xs.getD i 0 := by
  rw [List.getD_eq_getElem?_getD, List.getElem?_append_left h, ← List.getD_eq_getElem?_getD]
theorem gd_last {xs : List Int} {x : Int} {i : Nat} (h : i = xs.length) : (xs ++ [x]).getD i 0 = x := by
  subst h
  rw [List.getD_eq_getElem?_getD, List.getElem?_append_right (Nat.le_refl _), Nat.sub_self]
  rfl
theorem runL_to {f : Int → Int → Int} {R : Int → Int → Prop} (G : Good f R) (ns : List Int) : ∀ k, k ≤ ns.length → ∀ i, i < k → RunTo R ns i ((runL f (ns.take k)).getD i 0)
  | 0, _, i, hi => absurd hi (Nat.not_lt_zero _)
  | k + 1, h, i, hi => by
    have hl := runL_take f ns k (by omega)
    rw [take_snoc (gd_some (ns := ns) (i := k) (by omega)), runL_snoc]
    unfold stp
    by_cases hik : i < k
    · rw [gd_left (by omega)]
      exact runL_to G ns k (by omega) i hik
    · obtain rfl : i = k := by omega
      rw [gd_last (by omega)]
      cases i with
      | zero =>
        have e : runL f (ns.take 0) = [] := rfl
        rw [e]
        refine ⟨⟨0, Nat.le_refl _, rfl⟩, fun j hj => ?_⟩
        obtain rfl : j = 0 := by omega
        exact G.rfl' _
      | succ i =>
        have e : (runL f (ns.take (i + 1))).getLast? = some ((runL f (ns.take (i + 1))).getD i 0) := by
          rw [List.getLast?_eq_getElem?, hl, Nat.add_sub_cancel]
          exact gd_some (by omega)
        rw [e]
        obtain ⟨⟨j0, h1, h2⟩, h3⟩ := runL_to G ns (i + 1) (by omega) i (by omega)
        show RunTo R ns (i + 1) (f ((runL f (ns.take (i + 1))).getD i 0) (ns.getD (i + 1) 0))
        refine ⟨?_, fun j hj => ?_⟩
        · rcases G.ch ((runL f (ns.take (i + 1))).getD i 0) (ns.getD (i + 1) 0) with e | e
          · exact ⟨j0, by omega, by rw [e]; exact h2⟩
          · exact ⟨i + 1, Nat.le_refl _, e.symm⟩
        · by_cases hji : j = i + 1
          · rw [hji]; exact G.r _ _
          · exact G.tr _ _ _ (h3 j (by omega)) (G.l _ _)
theorem runL_at {f : Int → Int → Int} {R : Int → Int → Prop} (G : Good f R) {ns : List Int} {i : Nat} (h : i < ns.length) : RunTo R ns i ((runL f ns).getD i 0) := by
  have := runL_to G ns ns.length (Nat.le_refl _) i h
  rw [List.take_length] at this
  exact this
theorem good_mx : Good mx (fun x u => x ≤ u) := ⟨fun _ => Int.le_refl _, fun _ _ _ => Int.le_trans, fun m n => by unfold mx; split <;> omega, fun m n => by unfold mx; split <;> omega, fun m n => by unfold mx; split <;> simp⟩
theorem good_mn : Good mn (fun x u => u ≤ x) := ⟨fun _ => Int.le_refl _, fun _ _ _ h1 h2 => Int.le_trans h2 h1, fun m n => by unfold mn; split <;> omega, fun m n => by unfold mn; split <;> omega, fun m n => by unfold mn; split <;> simp⟩
def upL (ns : List Int) : List Int := runL mx ns
def loL (ns : List Int) : List Int := (runL mn ns.reverse).reverse
theorem upL_length (ns : List Int) : (upL ns).length = ns.length := runL_length _ _
theorem loL_length (ns : List Int) : (loL ns).length = ns.length := by unfold loL; rw [List.length_reverse, runL_length, List.length_reverse]
theorem up_at {ns : List Int} {i : Nat} (h : i < ns.length) : (∃ j, j ≤ i ∧ ns.getD j 0 = (upL ns).getD i 0) ∧ ∀ j, j ≤ i → ns.getD j 0 ≤ (upL ns).getD i 0 := runL_at good_mx h
theorem lo_at {ns : List Int} {i : Nat} (h : i < ns.length) : (∃ j, i ≤ j ∧ j < ns.length ∧ ns.getD j 0 = (loL ns).getD i 0) ∧ ∀ j, i ≤ j → j < ns.length → (loL ns).getD i 0 ≤ ns.getD j 0 := by
  have hl : (runL mn ns.reverse).length = ns.length := by rw [runL_length, List.length_reverse]
  have e : (loL ns).getD i 0 = (runL mn ns.reverse).getD (ns.length - 1 - i) 0 := by unfold loL; rw [gd_rev (by omega), hl]
  rw [e]
  obtain ⟨⟨j, h1, h2⟩, h3⟩ := runL_at good_mn (ns := ns.reverse) (i := ns.length - 1 - i) (by rw [List.length_reverse]; omega)
  refine ⟨⟨ns.length - 1 - j, by omega, by omega, ?_⟩, fun k hk hk2 => ?_⟩
  · rw [← h2, gd_rev (by omega)]
  · have z := h3 (ns.length - 1 - k) (by omega)
    rw [gd_rev (by omega), show ns.length - 1 - (ns.length - 1 - k) = k by omega] at z
    exact z
theorem up_rise (ns : List Int) : Rise (upL ns) := fun i hi => by
  rw [upL_length] at hi
  obtain ⟨⟨j, h1, h2⟩, _⟩ := up_at (ns := ns) (i := i) (by omega)
  rw [← h2]
  exact (up_at (ns := ns) (i := i + 1) hi).2 j (by omega)
theorem lo_rise (ns : List Int) : Rise (loL ns) := fun i hi => by
  rw [loL_length] at hi
  obtain ⟨⟨j, h1, h2, h3⟩, _⟩ := lo_at (ns := ns) (i := i + 1) hi
  rw [← h3]
  exact (lo_at (ns := ns) (i := i) (by omega)).2 j (by omega) h2
structure FallI (ns : List Int) (i top t p : Nat) (d : Int) : Prop where
  tp : t ≤ p
  pi : p < i ∨ p = 0
  dd : d = ns.getD t 0 - ns.getD p 0
  nn : 0 ≤ d
  tl : top < i ∨ top = 0
  tm : ∀ j, j < i → ns.getD j 0 ≤ ns.getD top 0
  al : ∀ j k, j ≤ k → k < i → ns.getD j 0 - ns.getD k 0 ≤ d
theorem FallI.zero (ns : List Int) : FallI ns 0 0 0 0 0 := ⟨Nat.le_refl _, .inr rfl, by omega, by omega, .inr rfl, fun j h => absurd h (Nat.not_lt_zero _), fun j k _ h => absurd h (Nat.not_lt_zero _)⟩
theorem FallI.step {ns : List Int} {i top t p : Nat} {d : Int} (h : FallI ns i top t p d) (hi : i < ns.length) {top' : Nat} (ht : top' = if ns.getD i 0 > ns.getD top 0 then i else top) :
    (ns.getD top' 0 - ns.getD i 0 > d → FallI ns (i + 1) top' top' i (ns.getD top' 0 - ns.getD i 0)) ∧ (¬ (ns.getD top' 0 - ns.getD i 0 > d) → FallI ns (i + 1) top' t p d) := by
  have t1 : top' < i + 1 := by
    rw [ht]
    rcases h.tl with z | z <;> split <;> omega
  have t2 : ∀ j, j < i + 1 → ns.getD j 0 ≤ ns.getD top' 0 := fun j hj => by
    rw [ht]
    by_cases hji : j = i
    · subst hji; split <;> omega
    · have := h.tm j (by omega)
      split <;> omega
  refine ⟨fun hd => ⟨by omega, by omega, rfl, by have := h.nn; omega, .inl t1, t2, fun j k hjk hk => ?_⟩, fun hd => ⟨h.tp, by rcases h.pi with z | z <;> omega, h.dd, h.nn, .inl t1, t2, fun j k hjk hk => ?_⟩⟩
  · by_cases hki : k = i
    · subst hki
      have := t2 j (by omega)
      omega
    · have := h.al j k hjk (by omega)
      omega
  · by_cases hki : k = i
    · subst hki
      have := t2 j (by omega)
      omega
    · exact h.al j k hjk (by omega)
structure Fall (ns : List Int) (t p : Nat) (d : Int) : Prop where
  tp : t ≤ p
  pi : p < ns.length ∨ p = 0
  dd : d = ns.getD t 0 - ns.getD p 0
  nn : 0 ≤ d
  al : ∀ j k, j ≤ k → k < ns.length → ns.getD j 0 - ns.getD k 0 ≤ d
theorem FallI.fall {ns : List Int} {top t p : Nat} {d : Int} (h : FallI ns ns.length top t p d) : Fall ns t p d := ⟨h.tp, h.pi, h.dd, h.nn, h.al⟩
structure EvP (ns row : List Int) (f s : Int) : Prop where
  len : row.length = ns.length
  ris : Rise row
  f0 : 0 ≤ f
  fs : f ≤ s
  sl : s < ns.length ∨ s = 0
  sh : 2 * maxL (dl ns row) - 1 ≤ ns.getD f.toNat 0 - ns.getD s.toNat 0
theorem up_fall {ns : List Int} {m : Int} (h : ∀ j k, j ≤ k → k < ns.length → ns.getD j 0 - ns.getD k 0 ≤ m) {i : Nat} (hi : i < ns.length) : ns.getD i 0 ≤ (upL ns).getD i 0 ∧ (upL ns).getD i 0 - ns.getD i 0 ≤ m := by
  obtain ⟨⟨j, h1, h2⟩, h3⟩ := up_at hi
  have := h3 i (Nat.le_refl _)
  have := h j i h1 hi
  omega
theorem map_riseS {ns : List Int} (k : Int) (h : Rise ns) : Rise (ns.map fun x => x - k) := fun i hi => by
  rw [List.length_map] at hi
  rw [gd_map _ (by omega), gd_map _ hi]
  have := h i hi
  omega
theorem evened_ok {ns : List Int} {t p : Nat} {d : Int} (h : Fall ns t p d) : EvP ns ((upL ns).map fun x => x - (d + 1) / 2) t p := by
  have hl : ((upL ns).map fun x => x - (d + 1) / 2).length = ns.length := by rw [List.length_map, upL_length]
  refine ⟨hl, map_riseS _ (up_rise ns), by omega, by have := h.tp; omega, by rcases h.pi with z | z <;> omega, ?_⟩
  rw [Int.toNat_natCast, Int.toNat_natCast, ← h.dd]
  have hm : maxL (dl ns ((upL ns).map fun x => x - (d + 1) / 2)) ≤ (d + 1) / 2 := by
    refine maxL_le (by have := h.nn; omega) fun x hx => ?_
    obtain ⟨i, hi, rfl⟩ := mem_dl hl hx
    rw [gd_map _ (by rw [upL_length]; exact hi)]
    have := up_fall h.al hi
    unfold dif
    split <;> omega
  omega
structure BaP (ns lows highs : List Int) (m : Int) : Prop where
  lo : lows = (upL ns).map fun x => x - m
  hi : highs = (loL ns).map fun x => x + m
  al : ∀ j k, j ≤ k → k < ns.length → ns.getD j 0 - ns.getD k 0 ≤ 2 * m
theorem Fall.most {ns : List Int} {t p : Nat} {d : Int} (h : Fall ns t p d) {m : Int} (hm : 0 ≤ m) : (∀ j k, j ≤ k → k < ns.length → ns.getD j 0 - ns.getD k 0 ≤ 2 * m) ↔ d ≤ 2 * m := by
  refine ⟨fun z => ?_, fun z j k h1 h2 => Int.le_trans (h.al j k h1 h2) z⟩
  rcases h.pi with e | e
  · rw [h.dd]; exact z t p h.tp e
  · have := h.tp
    have : t = 0 := by omega
    rw [h.dd, e, this]
    omega
structure BrP (ns : List Int) (f s m : Int) : Prop where
  f0 : 0 ≤ f
  fs : f < s
  sl : s < ns.length
  gt : 2 * m < ns.getD f.toNat 0 - ns.getD s.toNat 0
structure Wi (ns row : List Int) (m : Int) : Prop where
  ris : Rise row
  wi : ∀ i, i < ns.length → -m ≤ ns.getD i 0 - row.getD i 0 ∧ ns.getD i 0 - row.getD i 0 ≤ m
structure BaL (ns lows highs : List Int) (m : Int) : Prop where
  l1 : lows.length = ns.length
  l2 : highs.length = ns.length
  w1 : Wi ns lows m
  w2 : Wi ns highs m
  lh : ∀ i, i < ns.length → lows.getD i 0 ≤ highs.getD i 0
  t1 : ∀ i, i < ns.length → lows.getD i 0 = ns.getD i 0 - m ∨ (0 < i ∧ lows.getD (i - 1) 0 = lows.getD i 0)
  t2 : ∀ i, i < ns.length → highs.getD i 0 = ns.getD i 0 + m ∨ (i + 1 < ns.length ∧ highs.getD (i + 1) 0 = highs.getD i 0)
end Up
set_option maxHeartbeats 4000000
set_option linter.all false
namespace Up
open Fr1
abbrev fz : Int × Int := (0, 1)
def lk0 (ns ws : List Int) (fs : List (Int × Int)) (j : Nat) : Int := ws.getD j 0 * (ns.getD j 0 * (fs.getD j fz).2 - (fs.getD j fz).1)
def PS (ns ws : List Int) (fs : List (Int × Int)) (k : Nat) : Int := sm k (lk0 ns ws fs)
theorem PS_zero (ns ws : List Int) (fs : List (Int × Int)) : PS ns ws fs 0 = 0 := rfl
theorem PS_succ (ns ws : List Int) (fs : List (Int × Int)) (k : Nat) : PS ns ws fs (k + 1) = PS ns ws fs k + lk0 ns ws fs k := rfl
structure SqP (ns ws : List Int) (fs : List (Int × Int)) : Prop where
  len : fs.length = ns.length
  ris : ∀ i, i + 1 < ns.length → (fs.getD i fz).1 * (fs.getD (i + 1) fz).2 ≤ (fs.getD (i + 1) fz).1 * (fs.getD i fz).2
  nn : ∀ k, k ≤ ns.length → 0 ≤ PS ns ws fs k
  tot : PS ns ws fs ns.length = 0
  ch : ∀ i, i + 1 < ns.length → fs.getD i fz ≠ fs.getD (i + 1) fz → PS ns ws fs (i + 1) = 0
theorem low_sign {t b : Int} (hb : 0 < b) : ((lowP t b).1 < 0 ↔ t < 0) ∧ ((lowP t b).1 = 0 ↔ t = 0) := by
  have e := lowP_fst (t := t) hb
  have hg := gcd_pos (t := t) hb
  constructor
  · constructor
    · intro h
      rw [← e]
      exact Int.mul_neg_of_neg_of_pos h hg
    · intro h
      rcases Int.lt_trichotomy (lowP t b).1 0 with z | z | z
      · exact z
      · rw [z, Int.zero_mul] at e; omega
      · have := Int.mul_pos z hg; omega
  · constructor
    · intro h; rw [h, Int.zero_mul] at e; exact e.symm
    · intro h
      rw [h] at e
      rcases Int.mul_eq_zero.mp e with z | z
      · rw [h]; exact z
      · rw [h] at hg; omega
theorem low_zero {b : Int} (hb : 0 < b) : lowP 0 b = (0, 1) := by
  have e1 : (lowP 0 b).1 = 0 := (low_sign hb).2.mpr rfl
  have e2 : (lowP 0 b).2 = 1 := by
    show b / (Int.gcd 0 b : Int) = 1
    have : (Int.gcd 0 b : Int) = b := by
      rw [Int.gcd_comm]
      exact gcd_zero_nn (by omega)
    rw [this]
    exact Int.ediv_self (by omega)
  exact Prod.ext e1 e2
theorem low_turn {P X q : Int} {T : Int × Int} (hq : 0 < q) (h : T = (0, 1) ∧ P = 0 ∨ T = lowP P q) : lowP (T.1 * q + X * T.2) (T.2 * q) = lowP (P + X) q := by
  rcases h with ⟨rfl, rfl⟩ | rfl
  · show lowP (0 * q + X * 1) (1 * q) = _
    rw [Int.zero_mul, Int.mul_one, Int.one_mul]
  · have c := lowP_cross (t := P) hq
    have e : (lowP P q).1 * q + X * (lowP P q).2 = (lowP P q).2 * (P + X) := by rw [c, Int.mul_add, Int.mul_comm P, Int.mul_comm X]
    rw [e]
    exact lowP_mul _ (lowP_pos hq) hq
theorem frac_ne {p q p' q' : Int} (hq : 0 < q) (hq' : 0 < q') (g : Int.gcd p q = 1) (g' : Int.gcd p' q' = 1) : (p, q) ≠ (p', q') ↔ p * q' ≠ p' * q := by
  constructor
  · intro h e
    have z := lowP_cong (t := p) (b := q) (t' := p') (b' := q') hq hq' e
    rw [lowP_eq hq g, lowP_eq hq' g'] at z
    exact h z
  · intro h e
    injection e with e1 e2
    subst e1 e2
    exact h rfl
structure Blk (A B : Nat → Int) (lo hi : Nat) (S W : Int) : Prop where
  lt : lo < hi
  s : S = A hi - A lo
  w : W = B hi - B lo
  pos : 0 < W
  pre : ∀ k, lo ≤ k → k ≤ hi → S * (B k - B lo) ≤ (A k - A lo) * W
theorem le_cancel {a b c : Int} (hc : 0 < c) (h : a * c ≤ b * c) : a ≤ b := Int.le_of_mul_le_mul_right h hc
theorem lt_cancel {a b c : Int} (hc : 0 < c) (h : a * c < b * c) : a < b := by
  by_cases z : a < b
  · exact z
  · have := Int.mul_le_mul_of_nonneg_right (show b ≤ a by omega) (Int.le_of_lt hc)
    omega
theorem Blk.join {A B : Nat → Int} {lo mid hi : Nat} {Sa Wa Sb Wb : Int} (mB : ∀ i j, i ≤ j → B i ≤ B j) (a : Blk A B lo mid Sa Wa) (b : Blk A B mid hi Sb Wb) (h : Sb * Wa ≤ Sa * Wb) : Blk A B lo hi (Sa + Sb) (Wa + Wb) := by
  have pa := a.pos
  have pb := b.pos
  refine ⟨by have := a.lt; have := b.lt; omega, by rw [a.s, b.s]; omega, by rw [a.w, b.w]; omega, by omega, fun k h1 h2 => ?_⟩
  by_cases hk : k ≤ mid
  · -- within the first
    have c1 := a.pre k h1 hk
    have nn : 0 ≤ B k - B lo := by have := mB lo k h1; omega
    generalize A k - A lo = Sp at c1 ⊢
    generalize B k - B lo = Wp at c1 nn ⊢
    have c2 : Sb * Wp ≤ Sp * Wb := by
      refine le_cancel pa ?_
      have e1 : Sa * Wp * Wb ≤ Sp * Wa * Wb := Int.mul_le_mul_of_nonneg_right c1 (Int.le_of_lt pb)
      have e2 : Sb * Wa * Wp ≤ Sa * Wb * Wp := Int.mul_le_mul_of_nonneg_right h nn
      calc Sb * Wp * Wa = Sb * Wa * Wp := by rw [Int.mul_assoc, Int.mul_comm Wp, ← Int.mul_assoc]
        _ ≤ Sa * Wb * Wp := e2
        _ = Sa * Wp * Wb := by rw [Int.mul_assoc, Int.mul_comm Wb, ← Int.mul_assoc]
        _ ≤ Sp * Wa * Wb := e1
        _ = Sp * Wb * Wa := by rw [Int.mul_assoc, Int.mul_comm Wa, ← Int.mul_assoc]
    rw [Int.add_mul, Int.mul_add]
    omega
  · have c1 := b.pre k (by omega) h2
    have nn : 0 ≤ B hi - B k := by have := mB k hi h2; omega
    have ea : A k - A lo = Sa + (A k - A mid) := by rw [a.s]; omega
    have eb : B k - B lo = Wa + (B k - B mid) := by rw [a.w]; omega
    have es : A hi - A k = Sb - (A k - A mid) := by rw [b.s]; omega
    have ew : B hi - B k = Wb - (B k - B mid) := by rw [b.w]; omega
    rw [ea, eb]
    rw [ew] at nn
    clear ea eb es ew
    generalize A k - A mid = Sq at c1 ⊢
    generalize B k - B mid = Wq at c1 nn ⊢
    have c2 : (Sb - Sq) * Wb ≤ Sb * (Wb - Wq) := by rw [Int.sub_mul, Int.mul_sub]; omega
    have c3 : (Sb - Sq) * Wa ≤ Sa * (Wb - Wq) := by
      refine le_cancel pb ?_
      have e1 : (Sb - Sq) * Wb * Wa ≤ Sb * (Wb - Wq) * Wa := Int.mul_le_mul_of_nonneg_right c2 (Int.le_of_lt pa)
      have e2 : Sb * Wa * (Wb - Wq) ≤ Sa * Wb * (Wb - Wq) := Int.mul_le_mul_of_nonneg_right h nn
      calc (Sb - Sq) * Wa * Wb = (Sb - Sq) * Wb * Wa := by rw [Int.mul_assoc, Int.mul_comm Wa, ← Int.mul_assoc]
        _ ≤ Sb * (Wb - Wq) * Wa := e1
        _ = Sb * Wa * (Wb - Wq) := by rw [Int.mul_assoc, Int.mul_comm (Wb - Wq), ← Int.mul_assoc]
        _ ≤ Sa * Wb * (Wb - Wq) := e2
        _ = Sa * (Wb - Wq) * Wb := by rw [Int.mul_assoc, Int.mul_comm Wb, ← Int.mul_assoc]
    rw [Int.sub_mul, Int.mul_sub] at c3
    rw [Int.add_mul, Int.mul_add, Int.mul_add, Int.add_mul, Int.mul_add, Int.mul_add]
    omega
theorem Blk.one {A B : Nat → Int} {i : Nat} {S W : Int} (hS : A (i + 1) = A i + S) (hW : B (i + 1) = B i + W) (pos : 0 < W) : Blk A B i (i + 1) S W := by
  refine ⟨by omega, by omega, by omega, pos, fun k h1 h2 => ?_⟩
  by_cases e : k = i
  · subst e; rw [Int.sub_self, Int.sub_self, Int.mul_zero, Int.zero_mul]; exact Int.le_refl _
  · obtain rfl : k = i + 1 := by omega
    rw [show B (i + 1) - B i = W by omega, show A (i + 1) - A i = S by omega]
    exact Int.le_refl _
inductive Runs (A B : Nat → Int) : List (Int × Int × Int) → Nat → Prop where
  | nil : Runs A B [] 0
  | snoc {rs : List (Int × Int × Int)} {lo hi : Nat} {S W : Int} (h : Runs A B rs lo) (b : Blk A B lo hi S W) (l : ∀ r, rs.getLast? = some r → r.1 * W < S * r.2.1) : Runs A B (rs ++ [(S, W, ((hi : Int) - (lo : Int)))]) hi
def rowOf (rs : List (Int × Int × Int)) : List (Int × Int) := (rs.map fun r => List.replicate r.2.2.toNat (lowP r.1 r.2.1)).flatten
theorem rowOf_snoc (rs : List (Int × Int × Int)) (r : Int × Int × Int) : rowOf (rs ++ [r]) = rowOf rs ++ List.replicate r.2.2.toNat (lowP r.1 r.2.1) := by
  unfold rowOf
  rw [List.map_append, List.flatten_append]
  simp
theorem Runs.inv {A B : Nat → Int} {rs : List (Int × Int × Int)} {r : Int × Int × Int} {hi : Nat} (h : Runs A B (rs ++ [r]) hi) : ∃ lo, Runs A B rs lo ∧ Blk A B lo hi r.1 r.2.1 ∧ r.2.2 = (hi : Int) - (lo : Int) := by
  generalize e : rs ++ [r] = l at h
  cases h with
  | nil => simp at e
  | @snoc rs' lo _ S W h b l =>
    obtain ⟨e1, e2⟩ := List.append_inj' e rfl
    injection e2 with e2 _
    subst e1 e2
    exact ⟨lo, h, b, rfl⟩
theorem getD_left {xs ys : List (Int × Int)} {i : Nat} (h : i < xs.length) : (xs ++ ys).getD i fz = xs.getD i fz := by
  rw [List.getD_eq_getElem?_getD, List.getElem?_append_left h, ← List.getD_eq_getElem?_getD]
theorem getD_rep {xs : List (Int × Int)} {c i : Nat} {f : Int × Int} (h1 : xs.length ≤ i) (h2 : i < xs.length + c) : (xs ++ List.replicate c f).getD i fz = f := by
  rw [List.getD_eq_getElem?_getD, List.getElem?_append_right h1, List.getElem?_replicate, if_pos (by omega)]
  rfl
structure SqI (ns ws : List Int) (fs : List (Int × Int)) (hi : Nat) : Prop where
  len : fs.length = hi
  ris : ∀ i, i + 1 < hi → (fs.getD i fz).1 * (fs.getD (i + 1) fz).2 ≤ (fs.getD (i + 1) fz).1 * (fs.getD i fz).2
  nn : ∀ k, k ≤ hi → 0 ≤ PS ns ws fs k
  tot : PS ns ws fs hi = 0
  ch : ∀ i, i + 1 < hi → fs.getD i fz ≠ fs.getD (i + 1) fz → PS ns ws fs (i + 1) = 0
def SA (ns ws : List Int) (k : Nat) : Int := sm k fun j => ns.getD j 0 * ws.getD j 0
def SB (ws : List Int) (k : Nat) : Int := sm k fun j => ws.getD j 0
theorem PS_left {ns ws : List Int} {fs gs : List (Int × Int)} {k : Nat} (h : k ≤ fs.length) : PS ns ws (fs ++ gs) k = PS ns ws fs k := by
  unfold PS
  refine sm_congr fun i hi => ?_
  unfold lk0
  rw [getD_left (by omega)]
theorem PS_block {ns ws : List Int} {fs : List (Int × Int)} {c : Nat} {f : Int × Int} {t : Nat} : t ≤ c → PS ns ws (fs ++ List.replicate c f) (fs.length + t) = PS ns ws fs fs.length + (f.2 * (SA ns ws (fs.length + t) - SA ns ws fs.length) - f.1 * (SB ws (fs.length + t) - SB ws fs.length)) := by
  induction t with
  | zero => intro _; rw [Nat.add_zero, PS_left (Nat.le_refl _), Int.sub_self, Int.sub_self, Int.mul_zero, Int.mul_zero]; omega
  | succ t ih =>
    intro ht
    have e1 : PS ns ws (fs ++ List.replicate c f) (fs.length + (t + 1)) = PS ns ws (fs ++ List.replicate c f) (fs.length + t) + lk0 ns ws (fs ++ List.replicate c f) (fs.length + t) := rfl
    have e2 : SA ns ws (fs.length + (t + 1)) = SA ns ws (fs.length + t) + ns.getD (fs.length + t) 0 * ws.getD (fs.length + t) 0 := rfl
    have e3 : SB ws (fs.length + (t + 1)) = SB ws (fs.length + t) + ws.getD (fs.length + t) 0 := rfl
    have e4 : lk0 ns ws (fs ++ List.replicate c f) (fs.length + t) = f.2 * (ns.getD (fs.length + t) 0 * ws.getD (fs.length + t) 0) - f.1 * ws.getD (fs.length + t) 0 := by
      unfold lk0
      rw [getD_rep (by omega) (by omega), Int.mul_sub]
      congr 1
      · rw [Int.mul_comm, Int.mul_assoc, Int.mul_comm f.2, ← Int.mul_assoc, Int.mul_comm]
      · rw [Int.mul_comm]
    rw [e1, ih (by omega), e2, e3, e4, Int.mul_sub, Int.mul_sub, Int.mul_sub, Int.mul_sub, Int.mul_add, Int.mul_add]
    omega
theorem runs_row {ns ws : List Int} {rs : List (Int × Int × Int)} {hi : Nat} (h : Runs (SA ns ws) (SB ws) rs hi) :
    SqI ns ws (rowOf rs) hi ∧ ∀ r, rs.getLast? = some r → 0 < hi ∧ (rowOf rs).getD (hi - 1) fz = lowP r.1 r.2.1 ∧ 0 < r.2.1 := by
  induction h with
  | nil => exact ⟨⟨rfl, fun i hi => absurd hi (Nat.not_lt_zero _), fun k hk => (by obtain rfl : k = 0 := Nat.le_zero.mp hk; exact Int.le_refl _), rfl, fun i hi => absurd hi (Nat.not_lt_zero _)⟩, fun r e => by simp at e⟩
  | @snoc rs lo hi S W h b l ih =>
    obtain ⟨ih, il⟩ := ih
    have hlt := b.lt
    have hc : ((hi : Int) - (lo : Int)).toNat = hi - lo := by omega
    rw [rowOf_snoc]
    show SqI ns ws (rowOf rs ++ List.replicate ((hi : Int) - (lo : Int)).toNat (lowP S W)) hi ∧ _
    rw [hc]
    have L := ih.len
    have cr := lowP_cross (t := S) b.pos
    have qp := lowP_pos (t := S) b.pos
    have blk : ∀ k, lo ≤ k → k ≤ hi → PS ns ws (rowOf rs ++ List.replicate (hi - lo) (lowP S W)) k = (lowP S W).2 * (SA ns ws k - SA ns ws lo) - (lowP S W).1 * (SB ws k - SB ws lo) := fun k h1 h2 => by
      have z := PS_block (ns := ns) (ws := ws) (fs := rowOf rs) (c := hi - lo) (f := lowP S W) (t := k - lo) (by omega)
      rw [L, show lo + (k - lo) = k by omega] at z
      rw [z, ih.tot]
      omega
    have low : ∀ k, k ≤ lo → PS ns ws (rowOf rs ++ List.replicate (hi - lo) (lowP S W)) k = PS ns ws (rowOf rs) k := fun k hk => PS_left (by omega)
    have gl : ∀ i, i < lo → (rowOf rs ++ List.replicate (hi - lo) (lowP S W)).getD i fz = (rowOf rs).getD i fz := fun i hi' => getD_left (by omega)
    have gr : ∀ i, lo ≤ i → i < hi → (rowOf rs ++ List.replicate (hi - lo) (lowP S W)).getD i fz = lowP S W := fun i h1 h2 => getD_rep (by omega) (by omega)
    have bd : ∀ i, i + 1 = lo → (rowOf rs).getD i fz ≠ lowP S W ∧ ((rowOf rs).getD i fz).1 * (lowP S W).2 ≤ (lowP S W).1 * ((rowOf rs).getD i fz).2 := fun i hi' => by
      have : rs ≠ [] := fun e => by subst e; rw [← L] at hi'; simp [rowOf] at hi'
      obtain ⟨r, hr⟩ : ∃ r, rs.getLast? = some r := (by cases e : rs.getLast? with | none => exact absurd (List.getLast?_eq_none_iff.mp e) this | some r => exact ⟨r, rfl⟩)
      obtain ⟨_, e, wp⟩ := il r hr
      rw [show lo - 1 = i by omega] at e
      have ls := l r hr
      rw [e]
      have cr' := lowP_cross (t := r.1) wp
      have qp' := lowP_pos (t := r.1) wp
      have key : (lowP r.1 r.2.1).1 * (lowP S W).2 < (lowP S W).1 * (lowP r.1 r.2.1).2 := by
        refine lt_cancel (Int.mul_pos wp b.pos) ?_
        have m := Int.mul_lt_mul_of_pos_right ls (Int.mul_pos qp' qp)
        calc (lowP r.1 r.2.1).1 * (lowP S W).2 * (r.2.1 * W) = (lowP r.1 r.2.1).1 * r.2.1 * ((lowP S W).2 * W) := by
              rw [Int.mul_assoc, Int.mul_assoc]; congr 1; rw [← Int.mul_assoc, ← Int.mul_assoc, Int.mul_comm (lowP S W).2]
          _ = r.1 * (lowP r.1 r.2.1).2 * ((lowP S W).2 * W) := by rw [cr']
          _ = r.1 * W * ((lowP r.1 r.2.1).2 * (lowP S W).2) := by
              rw [Int.mul_assoc, Int.mul_assoc]; congr 1; rw [← Int.mul_assoc, Int.mul_comm]
          _ < S * r.2.1 * ((lowP r.1 r.2.1).2 * (lowP S W).2) := m
          _ = S * (lowP S W).2 * ((lowP r.1 r.2.1).2 * r.2.1) := by
              rw [Int.mul_assoc, Int.mul_assoc]; congr 1
              rw [Int.mul_comm (lowP r.1 r.2.1).2, ← Int.mul_assoc, Int.mul_comm r.2.1, Int.mul_assoc, Int.mul_comm r.2.1]
          _ = (lowP S W).1 * W * ((lowP r.1 r.2.1).2 * r.2.1) := by rw [cr]
          _ = (lowP S W).1 * (lowP r.1 r.2.1).2 * (r.2.1 * W) := by
              rw [Int.mul_assoc, Int.mul_assoc]; congr 1
              rw [Int.mul_comm W, Int.mul_assoc]
      refine ⟨fun z => ?_, Int.le_of_lt key⟩
      rw [z] at key
      exact Int.lt_irrefl _ key
    refine ⟨⟨?_, fun i hi' => ?_, fun k hk => ?_, ?_, fun i hi' hne => ?_⟩, fun r hr => ?_⟩
    · rw [List.length_append, List.length_replicate, L]; omega
    · by_cases h1 : i + 1 < lo
      · rw [gl i (by omega), gl (i + 1) h1]; exact ih.ris i h1
      · by_cases h2 : i + 1 = lo
        · rw [gl i (by omega), gr (i + 1) (by omega) hi']; exact (bd i h2).2
        · rw [gr i (by omega) (by omega), gr (i + 1) (by omega) hi']; exact Int.le_refl _
    · by_cases h1 : k ≤ lo
      · rw [low k h1]; exact ih.nn k h1
      · rw [blk k (by omega) hk]
        have c1 := b.pre k (by omega) hk
        have : (lowP S W).1 * (SB ws k - SB ws lo) ≤ (lowP S W).2 * (SA ns ws k - SA ns ws lo) := by
          refine le_cancel b.pos ?_
          have m := Int.mul_le_mul_of_nonneg_right c1 (Int.le_of_lt qp)
          calc (lowP S W).1 * (SB ws k - SB ws lo) * W = (lowP S W).1 * W * (SB ws k - SB ws lo) := by rw [Int.mul_assoc, Int.mul_comm (SB ws k - SB ws lo), ← Int.mul_assoc]
            _ = S * (lowP S W).2 * (SB ws k - SB ws lo) := by rw [cr]
            _ = S * (SB ws k - SB ws lo) * (lowP S W).2 := by rw [Int.mul_assoc, Int.mul_comm (lowP S W).2, ← Int.mul_assoc]
            _ ≤ (SA ns ws k - SA ns ws lo) * W * (lowP S W).2 := m
            _ = (lowP S W).2 * (SA ns ws k - SA ns ws lo) * W := by rw [Int.mul_comm, ← Int.mul_assoc]
        omega
    · rw [blk hi (by omega) (Nat.le_refl _), ← b.s, ← b.w, cr, Int.mul_comm]
      omega
    · by_cases h1 : i + 1 < lo
      · rw [gl i (by omega), gl (i + 1) h1] at hne
        rw [low (i + 1) (by omega)]
        exact ih.ch i h1 hne
      · by_cases h2 : i + 1 = lo
        · rw [low (i + 1) (by omega), h2]; exact ih.tot
        · rw [gr i (by omega) (by omega), gr (i + 1) (by omega) hi'] at hne
          exact absurd rfl hne
    · rw [List.getLast?_append] at hr
      have hr' : r = (S, W, (hi : Int) - (lo : Int)) := by simpa using hr.symm
      subst hr'
      exact ⟨by omega, gr (hi - 1) (by omega) (by omega), b.pos⟩
theorem runs_sq {ns ws : List Int} {rs : List (Int × Int × Int)} (h : Runs (SA ns ws) (SB ws) rs ns.length) : SqP ns ws (rowOf rs) := by
  obtain ⟨x, _⟩ := runs_row h
  exact ⟨x.len, x.ris, x.nn, x.tot, x.ch⟩
theorem SB_mono {ws : List Int} (h : ∀ w ∈ ws, 1 ≤ w) : ∀ i j, i ≤ j → SB ws i ≤ SB ws j := fun i j hij => by
  induction hij with
  | refl => exact Int.le_refl _
  | @step j _ ih =>
    have e : SB ws (j + 1) = SB ws j + ws.getD j 0 := rfl
    have : 0 ≤ ws.getD j 0 := by
      by_cases hj : j < ws.length
      · have := h _ (List.mem_of_getElem? (gd_some hj)); omega
      · rw [gd_out (by omega)]; exact Int.le_refl _
    show _ ≤ SB ws (j + 1)
    omega
end Up
set_option maxHeartbeats 4000000
set_option linter.all false
namespace Up
open Fr1
def par (q : Nat) : Nat := (q - 1) / 2
abbrev PF := Nat → Int × Int
def fset (f : PF) (i : Nat) (y : Int × Int) : PF := fun j => if j = i then y else f j
theorem fset_same (f : PF) (i : Nat) (y : Int × Int) : fset f i y i = y := if_pos rfl
theorem fset_ne {f : PF} {i j : Nat} {y : Int × Int} (h : j ≠ i) : fset f i y j = f j := if_neg h
def Hok (f : PF) (n : Nat) : Prop := ∀ q, 0 < q → q < n → (f q).1 ≤ (f (par q)).1
def Pos' (f : PF) (n : Nat) : Prop := ∀ i, i < n → 0 < (f i).2
def ms (x : Int) (y : Int × Int) : Int := if x ≤ y.1 then y.2 else 0
def mass (f : PF) (n : Nat) (x : Int) : Int := sm n fun i => ms x (f i)
def totl (f : PF) (n : Nat) : Int := sm n fun i => (f i).2
theorem Hok.top {f : PF} {n : Nat} (h : Hok f n) : ∀ k i, i ≤ k → i < n → (f i).1 ≤ (f 0).1
  | 0, i, hk, _ => by obtain rfl : i = 0 := Nat.le_zero.mp hk; exact Int.le_refl _
  | k + 1, i, hk, hi => by
    by_cases e : i = 0
    · subst e; exact Int.le_refl _
    · have h1 := h i (by omega) hi
      have h2 := Hok.top h k (par i) (by unfold par; omega) (by unfold par; omega)
      omega
theorem sm_fset {f : PF} {g : Int × Int → Int} {i : Nat} {y : Int × Int} : ∀ {n : Nat}, i < n → sm n (fun j => g (fset f i y j)) = sm n (fun j => g (f j)) - g (f i) + g y
  | 0, h => absurd h (Nat.not_lt_zero _)
  | n + 1, h => by
    show sm n (fun j => g (fset f i y j)) + g (fset f i y n) = sm n (fun j => g (f j)) + g (f n) - g (f i) + g y
    by_cases e : i = n
    · subst e
      have : sm i (fun j => g (fset f i y j)) = sm i (fun j => g (f j)) := sm_congr fun j hj => by rw [fset_ne (by omega)]
      rw [this, fset_same]
      omega
    · rw [sm_fset (n := n) (by omega), fset_ne (by omega)]
      omega
theorem sm_out {f : PF} {g : Int × Int → Int} {i : Nat} {y : Int × Int} {n : Nat} (h : n ≤ i) : sm n (fun j => g (fset f i y j)) = sm n (fun j => g (f j)) := sm_congr fun j hj => by rw [fset_ne (by omega)]
theorem sm_swap {f : PF} {g : Int × Int → Int} {i k n : Nat} {y : Int × Int} (hi : i < n) (hk : k < n) (hne : i ≠ k) : sm n (fun j => g (fset (fset f i (f k)) k y j)) = sm n (fun j => g (fset f i y j)) := by
  rw [sm_fset hk, sm_fset hi, sm_fset hi, fset_ne (Ne.symm hne)]
  omega
structure PutI (f0 f : PF) (n pl : Nat) (y : Int × Int) : Prop where
  lt : pl < n + 1
  up : ∀ q, 0 < q → q < n + 1 → q ≠ pl → (fset f pl y q).1 ≤ (fset f pl y (par q)).1
  ch : 0 < pl → ∀ c, 0 < c → c < n + 1 → par c = pl → (f c).1 ≤ (f (par pl)).1
  pos : ∀ i, i < n + 1 → 0 < (fset f pl y i).2
  sum : ∀ g : Int × Int → Int, sm (n + 1) (fun j => g (fset f pl y j)) = sm n (fun j => g (f0 j)) + g y
theorem PutI.start {f : PF} {n : Nat} {y : Int × Int} (h : Hok f n) (p : Pos' f n) (hy : 0 < y.2) : PutI f (fset f n y) n n y := by
  have e : fset (fset f n y) n y = fset f n y := by funext j; unfold fset; split <;> rfl
  refine ⟨by omega, fun q h1 h2 h3 => ?_, fun h1 c h2 h3 h4 => ?_, fun i hi => ?_, fun g => ?_⟩
  · rw [e, fset_ne h3, fset_ne (by unfold par; omega)]
    exact h q h1 (by omega)
  · unfold par at h4; omega
  · rw [e]
    by_cases hin : i = n
    · subst hin; rw [fset_same]; exact hy
    · rw [fset_ne hin]; exact p i (by omega)
  · rw [e]
    show sm n _ + g (fset f n y n) = _
    rw [fset_same, sm_out (Nat.le_refl _)]
theorem PutI.step {f0 f : PF} {n pl : Nat} {y : Int × Int} (h : PutI f0 f n pl y) (hp : 0 < pl) (hl : (f (par pl)).1 < y.1) : PutI f0 (fset f pl (f (par pl))) n (par pl) y := by
  have hlt := h.lt
  have hpl : par pl < pl := by unfold par; omega
  have sw : ∀ q, fset (fset f pl (f (par pl))) (par pl) y q = if q = par pl then y else if q = pl then f (par pl) else f q := fun q => rfl
  have old : ∀ q, fset f pl y q = if q = pl then y else f q := fun q => rfl
  refine ⟨by omega, fun q h1 h2 h3 => ?_, fun h1 c h2 h3 h4 => ?_, fun i hi => ?_, fun g => ?_⟩
  · rw [sw q, if_neg h3, sw (par q)]
    by_cases e1 : q = pl
    · subst e1
      rw [if_pos rfl, if_pos rfl]; omega
    · rw [if_neg e1]
      have u := h.up q h1 h2 e1
      rw [old q, if_neg e1, old (par q)] at u
      by_cases e2 : par q = par pl
      · rw [if_pos e2]
        rw [if_neg (by omega), e2] at u
        omega
      · rw [if_neg e2]
        by_cases e3 : par q = pl
        · rw [if_pos e3]
          exact h.ch hp q h1 h2 e3
        · rw [if_neg e3]
          rw [if_neg e3] at u
          exact u
  · have hpp : par (par pl) < par pl := by unfold par at *; omega
    have u := h.up (par pl) h1 (by omega) (by omega)
    rw [old, if_neg (by omega), old, if_neg (by omega)] at u
    rw [fset_ne (show par (par pl) ≠ pl by omega)]
    by_cases e : c = pl
    · subst e; rw [fset_same]; exact u
    · rw [fset_ne e]
      have u2 := h.up c h2 h3 e
      rw [old, if_neg e, old, h4, if_neg (by omega)] at u2
      omega
  · rw [sw i]
    have pa := h.pos pl (by omega)
    rw [old, if_pos rfl] at pa
    split
    · exact pa
    · split
      · have := h.pos (par pl) (by omega)
        rw [old, if_neg (by omega)] at this
        exact this
      · rename_i e1 e2
        have := h.pos i hi
        rw [old, if_neg e2] at this
        exact this
  · rw [sm_swap (by omega) (by omega) (by omega)]
    exact h.sum g
theorem PutI.done {f0 f : PF} {n pl : Nat} {y : Int × Int} (h : PutI f0 f n pl y) (hd : pl = 0 ∨ ¬ ((f (par pl)).1 < y.1)) : Hok (fset f pl y) (n + 1) := fun q h1 h2 => by
  by_cases e : q = pl
  · subst e
    rw [fset_same, fset_ne (by unfold par; omega)]
    rcases hd with z | z <;> omega
  · exact h.up q h1 h2 e
structure TakI (f0 f : PF) (n pl : Nat) (y : Int × Int) : Prop where
  lt : pl < n
  up : ∀ q, 0 < q → q < n → par q ≠ pl → (fset f pl y q).1 ≤ (fset f pl y (par q)).1
  ch : 0 < pl → ∀ c, 0 < c → c < n → par c = pl → (f c).1 ≤ (f (par pl)).1
  pos : ∀ i, i < n → 0 < (fset f pl y i).2
  sum : ∀ g : Int × Int → Int, sm n (fun j => g (fset f pl y j)) = sm (n + 1) (fun j => g (f0 j)) - g (f0 0)
theorem TakI.start {f : PF} {n : Nat} (hn : 0 < n) (h : Hok f (n + 1)) (p : Pos' f (n + 1)) : TakI f f n 0 (f n) := by
  refine ⟨hn, fun q h1 h2 h3 => ?_, fun h1 => absurd h1 (Nat.lt_irrefl _), fun i hi => ?_, fun g => ?_⟩
  · rw [fset_ne (by omega), fset_ne h3]
    exact h q h1 (by omega)
  · by_cases e : i = 0
    · subst e; rw [fset_same]; exact p n (by omega)
    · rw [fset_ne e]; exact p i (by omega)
  · rw [sm_fset hn]
    show _ = sm n (fun j => g (f j)) + g (f n) - g (f 0)
    omega
theorem par_kids (pl c : Nat) (h : 0 < c) : par c = pl ↔ (c = 2 * pl + 1 ∨ c = 2 * pl + 2) := by unfold par; omega
structure GrB (f : PF) (n pl b : Nat) : Prop where
  kid : b = 2 * pl + 1 ∨ b = 2 * pl + 2
  gr : ∀ c, 0 < c → c < n → par c = pl → b < n ∧ (f c).1 ≤ (f b).1
theorem TakI.step {f0 f : PF} {n pl b : Nat} {y : Int × Int} (h : TakI f0 f n pl y) (g : GrB f n pl b) (hb : b < n) (hl : y.1 < (f b).1) : TakI f0 (fset f pl (f b)) n b y := by
  have hlt := h.lt
  have pb : par b = pl := (par_kids pl b (by rcases g.kid with e | e <;> omega)).mpr g.kid
  have b0 : 0 < b := by rcases g.kid with e | e <;> omega
  have bpl : pl < b := by rcases g.kid with e | e <;> omega
  have sw : ∀ q, fset (fset f pl (f b)) b y q = if q = b then y else if q = pl then f b else f q := fun q => rfl
  have old : ∀ q, fset f pl y q = if q = pl then y else f q := fun q => rfl
  refine ⟨hb, fun q h1 h2 h3 => ?_, fun h1 c h2 h3 h4 => ?_, fun i hi => ?_, fun g' => ?_⟩
  · rw [sw q, sw (par q), if_neg h3]
    by_cases e1 : q = b
    · subst e1
      rw [if_pos rfl, if_pos pb]; omega
    · rw [if_neg e1]
      by_cases e2 : q = pl
      · subst e2
        have npq : par q ≠ q := by unfold par; omega
        rw [if_pos rfl, if_neg npq]
        exact h.ch h1 b b0 hb pb
      · rw [if_neg e2]
        by_cases e3 : par q = pl
        · rw [if_pos e3]
          exact (g.gr q h1 h2 e3).2
        · rw [if_neg e3]
          have u := h.up q h1 h2 e3
          rw [old, if_neg e2, old, if_neg e3] at u
          exact u
  · rw [pb, fset_same]
    have e1 : c ≠ pl := by
      rcases (par_kids b c h2).mp h4 with z | z <;> omega
    rw [fset_ne e1]
    have u := h.up c h2 h3 (by rw [h4]; omega)
    rw [old, if_neg e1, old, h4, if_neg (by omega)] at u
    exact u
  · rw [sw i]
    have pa := h.pos pl hlt
    rw [old, if_pos rfl] at pa
    split
    · exact pa
    · split
      · have := h.pos b hb
        rw [old, if_neg (by omega)] at this
        exact this
      · rename_i e1 e2
        have := h.pos i hi
        rw [old, if_neg e2] at this
        exact this
  · rw [sm_swap hlt hb (by omega)]
    exact h.sum g'
theorem TakI.done {f0 f : PF} {n pl b : Nat} {y : Int × Int} (h : TakI f0 f n pl y) (g : GrB f n pl b) (hd : n ≤ b ∨ ¬ (y.1 < (f b).1)) : Hok (fset f pl y) n := fun q h1 h2 => by
  by_cases e : par q = pl
  · obtain ⟨g1, g2⟩ := g.gr q h1 h2 e
    have nq : q ≠ pl := by rcases (par_kids pl q h1).mp e with z | z <;> omega
    rw [e, fset_same, fset_ne nq]
    rcases hd with z | z <;> omega
  · exact h.up q h1 h2 e
theorem mass_top {f : PF} {n : Nat} (h : Hok f n) (p : Pos' f n) (hn : 0 < n) (x : Int) : (x ≤ (f 0).1 → (f 0).2 ≤ mass f n x) ∧ (¬ x ≤ (f 0).1 → mass f n x = 0) := by
  constructor
  · intro hx
    have e : mass f n x = (mass f n x - ms x (f 0)) + ms x (f 0) := by omega
    have h1 : ms x (f 0) = (f 0).2 := by unfold ms; rw [if_pos hx]
    have h2 : 0 ≤ mass f n x - ms x (f 0) := by
      have z := sm_fset (f := f) (g := ms x) (i := 0) (y := ((f 0).1, 0)) hn
      have z2 : ms x ((f 0).1, 0) = 0 := by unfold ms; split <;> rfl
      have z3 : sm n (fun _ => (0 : Int)) ≤ sm n (fun j => ms x (fset f 0 ((f 0).1, 0) j)) := sm_le fun i hi => by
        by_cases e : i = 0
        · subst e; rw [fset_same, z2]; exact Int.le_refl _
        · rw [fset_ne e]; unfold ms; have := p i hi; split <;> omega
      rw [sm_zero] at z3
      unfold mass
      omega
    omega
  · intro hx
    have : mass f n x = sm n (fun _ => (0 : Int)) := sm_congr fun i hi => by
      unfold ms
      have := h.top i i (Nat.le_refl _) hi
      rw [if_neg (by omega)]
    rw [this, sm_zero]
def mx0 (x : Int) : Int := if x < 0 then 0 else x
def ee (x n w : Int) : Int := if x ≤ n then w else -w
def LL (ns ws : List Int) : Nat → Int → Int
  | 0, _ => 0
  | i + 1, x => mx0 (LL ns ws i x + ee x (ns.getD i 0) (ws.getD i 0))
theorem LL_nn (ns ws : List Int) : ∀ i x, 0 ≤ LL ns ws i x
  | 0, _ => Int.le_refl _
  | i + 1, x => by show 0 ≤ mx0 _; unfold mx0; split <;> omega
theorem LL_ge (ns ws : List Int) (i : Nat) (x : Int) : LL ns ws i x + ee x (ns.getD i 0) (ws.getD i 0) ≤ LL ns ws (i + 1) x := by
  show _ ≤ mx0 _; unfold mx0; split <;> omega
theorem LL_pos {ns ws : List Int} {i : Nat} {x : Int} (h : 0 < LL ns ws (i + 1) x) : LL ns ws (i + 1) x = LL ns ws i x + ee x (ns.getD i 0) (ws.getD i 0) := by
  have e : LL ns ws (i + 1) x = mx0 (LL ns ws i x + ee x (ns.getD i 0) (ws.getD i 0)) := rfl
  rw [e] at h ⊢
  unfold mx0 at h ⊢
  split at h
  · omega
  · split <;> omega
def Ends (ns ws es : List Int) : Prop := es.length = ns.length ∧ ∀ i, i < ns.length → ∀ x, x ≤ es.getD i 0 ↔ 0 < LL ns ws (i + 1) x
section
variable (ns ws row : List Int)
def gp (i : Nat) : Int := ee (row.getD i 0) (ns.getD i 0) (ws.getD i 0)
def lp (i : Nat) : Int := if row.getD i 0 < ns.getD i 0 then ws.getD i 0 else -(ws.getD i 0)
def AA : Nat → Int
  | 0 => gp ns ws row 0
  | i + 1 => (if row.getD i 0 < row.getD (i + 1) 0 then 0 else AA i) + gp ns ws row (i + 1)
def BB : Nat → Nat → Int
  | 0, _ => 0
  | k + 1, i => if row.getD i 0 < row.getD (i + 1) 0 then 0 else BB k (i + 1) - lp ns ws row (i + 1)
def bhd (i : Nat) : Int := BB ns ws row (row.length - 1 - i) i
def SS (i : Nat) : Int := mn (AA ns ws row i) (bhd ns ws row i)
def pl (i : Nat) : Int := SS ns ws row i - (if i = 0 then 0 else SS ns ws row (i - 1))
end
section
variable {ns ws es : List Int}
theorem bhd_step {row : List Int} {i : Nat} (h : i + 1 < row.length) : bhd ns ws row i = if row.getD i 0 < row.getD (i + 1) 0 then 0 else bhd ns ws row (i + 1) - lp ns ws row (i + 1) := by
  unfold bhd
  obtain ⟨k, hk⟩ : ∃ k, row.length - 1 - i = k + 1 := ⟨row.length - 1 - i - 1, by omega⟩
  rw [hk, show row.length - 1 - (i + 1) = k by omega]
  rfl
theorem bhd_last {row : List Int} {i : Nat} (h : i + 1 = row.length) : bhd ns ws row i = 0 := by
  unfold bhd
  rw [show row.length - 1 - i = 0 by omega]
  rfl
theorem lp_ee {row : List Int} (i : Nat) : lp ns ws row i = ee (row.getD i 0 + 1) (ns.getD i 0) (ws.getD i 0) := by
  unfold lp ee
  by_cases h : row.getD i 0 < ns.getD i 0
  · rw [if_pos h, if_pos (by omega)]
  · rw [if_neg h, if_neg (by omega)]
theorem lo_step {i : Nat} (h : i + 1 < es.length) : (loL es).getD i 0 ≤ (loL es).getD (i + 1) 0 ∧ ((loL es).getD i 0 < (loL es).getD (i + 1) 0 → (loL es).getD i 0 = es.getD i 0) ∧ (loL es).getD i 0 ≤ es.getD i 0 := by
  have h1 := lo_rise es i (by rw [loL_length]; exact h)
  obtain ⟨⟨j, a1, a2, a3⟩, a4⟩ := lo_at (ns := es) (i := i) (by omega)
  refine ⟨h1, fun hl => ?_, a4 i (Nat.le_refl _) (by omega)⟩
  by_cases e : j = i
  · rw [← a3, e]
  · have := (lo_at (ns := es) (i := i + 1) h).2 j (by omega) a2
    omega
theorem lo_end {i : Nat} (h : i + 1 = es.length) : (loL es).getD i 0 = es.getD i 0 := by
  obtain ⟨⟨j, a1, a2, a3⟩, a4⟩ := lo_at (ns := es) (i := i) (by omega)
  rw [← a3, show j = i by omega]
variable (E : Ends ns ws es)
include E
theorem AA_eq : ∀ i, i < ns.length → AA ns ws (loL es) i = LL ns ws (i + 1) ((loL es).getD i 0) ∧ 0 < AA ns ws (loL es) i
  | 0, hi => by
    have hl := E.1
    have p : 0 < LL ns ws 1 ((loL es).getD 0 0) := (E.2 0 hi _).mp ((lo_at (ns := es) (i := 0) (by omega)).2 0 (Nat.le_refl _) (by omega))
    have e := LL_pos p
    have e0 : AA ns ws (loL es) 0 = LL ns ws 1 ((loL es).getD 0 0) := by
      rw [e]
      show gp ns ws (loL es) 0 = 0 + _
      unfold gp
      omega
    exact ⟨e0, by rw [e0]; exact p⟩
  | i + 1, hi => by
    have hl := E.1
    obtain ⟨ih1, ih2⟩ := AA_eq i (by omega)
    obtain ⟨s1, s2, s3⟩ := lo_step (es := es) (i := i) (by omega)
    have p : 0 < LL ns ws (i + 2) ((loL es).getD (i + 1) 0) := (E.2 (i + 1) hi _).mp ((lo_at (ns := es) (i := i + 1) (by omega)).2 (i + 1) (Nat.le_refl _) (by omega))
    have e := LL_pos p
    have e0 : AA ns ws (loL es) (i + 1) = LL ns ws (i + 2) ((loL es).getD (i + 1) 0) := by
      rw [e]
      show (if (loL es).getD i 0 < (loL es).getD (i + 1) 0 then 0 else AA ns ws (loL es) i) + gp ns ws (loL es) (i + 1) = _
      by_cases hlt : (loL es).getD i 0 < (loL es).getD (i + 1) 0
      · rw [if_pos hlt]
        have z : ¬ 0 < LL ns ws (i + 1) ((loL es).getD (i + 1) 0) := fun w => by
          have := (E.2 i (by omega) _).mpr w
          have := s2 hlt
          omega
        have := LL_nn ns ws (i + 1) ((loL es).getD (i + 1) 0)
        unfold gp
        omega
      · rw [if_neg hlt, ih1, show (loL es).getD i 0 = (loL es).getD (i + 1) 0 by omega]
        rfl
    exact ⟨e0, by rw [e0]; exact p⟩
theorem BB_ge : ∀ k i, i < ns.length → ns.length - 1 - i = k → LL ns ws (i + 1) ((loL es).getD i 0 + 1) ≤ bhd ns ws (loL es) i
  | 0, i, hi, hk => by
    have hl := E.1
    have ll := loL_length es
    rw [bhd_last (by omega)]
    have z : ¬ 0 < LL ns ws (i + 1) ((loL es).getD i 0 + 1) := fun w => by
      have := (E.2 i hi _).mpr w
      have := lo_end (es := es) (i := i) (by omega)
      omega
    omega
  | k + 1, i, hi, hk => by
    have hl := E.1
    have ll := loL_length es
    obtain ⟨s1, s2, s3⟩ := lo_step (es := es) (i := i) (by omega)
    rw [bhd_step (by omega)]
    by_cases hlt : (loL es).getD i 0 < (loL es).getD (i + 1) 0
    · rw [if_pos hlt]
      have z : ¬ 0 < LL ns ws (i + 1) ((loL es).getD i 0 + 1) := fun w => by
        have := (E.2 i hi _).mpr w
        have := s2 hlt
        omega
      omega
    · rw [if_neg hlt]
      have ih := BB_ge k (i + 1) (by omega) (by omega)
      have e : (loL es).getD i 0 = (loL es).getD (i + 1) 0 := by omega
      have g := LL_ge ns ws (i + 1) ((loL es).getD (i + 1) 0 + 1)
      rw [lp_ee, e]
      omega
theorem SS_facts (hw : ∀ i, i < ns.length → 1 ≤ ws.getD i 0) {i : Nat} (hi : i < ns.length) : 0 ≤ SS ns ws (loL es) i ∧ (i + 1 < ns.length → (loL es).getD i 0 < (loL es).getD (i + 1) 0 → SS ns ws (loL es) i = 0) ∧ (i + 1 = ns.length → SS ns ws (loL es) i = 0) ∧
    lp ns ws (loL es) i ≤ pl ns ws (loL es) i ∧ pl ns ws (loL es) i ≤ gp ns ws (loL es) i := by
  have hl := E.1
  have ll := loL_length es
  obtain ⟨a1, a2⟩ := AA_eq E i hi
  have b1 := BB_ge E _ i hi rfl
  have b2 := LL_nn ns ws (i + 1) ((loL es).getD i 0 + 1)
  have b3 := LL_ge ns ws i ((loL es).getD i 0 + 1)
  have b4 := LL_nn ns ws i ((loL es).getD i 0 + 1)
  rw [← lp_ee] at b3
  have lg : lp ns ws (loL es) i ≤ gp ns ws (loL es) i := by
    unfold lp gp ee
    have := hw i hi
    split <;> split <;> omega
  refine ⟨by unfold SS mn; split <;> omega, fun h1 h2 => ?_, fun h1 => ?_, ?_⟩
  · have e := bhd_step (ns := ns) (ws := ws) (row := loL es) (i := i) (by omega)
    rw [if_pos h2] at e
    unfold SS mn
    rw [e]
    split <;> omega
  · have e := bhd_last (ns := ns) (ws := ws) (row := loL es) (i := i) (by omega)
    unfold SS mn
    rw [e]
    split <;> omega
  · unfold pl
    by_cases h0 : i = 0
    · subst h0
      rw [if_pos rfl]
      have e : AA ns ws (loL es) 0 = gp ns ws (loL es) 0 := rfl
      unfold SS mn
      rw [e]
      split <;> omega
    · rw [if_neg h0]
      obtain ⟨k, rfl⟩ : ∃ k, i = k + 1 := ⟨i - 1, by omega⟩
      rw [Nat.add_sub_cancel]
      obtain ⟨c1, c2⟩ := AA_eq E k (by omega)
      have eA : AA ns ws (loL es) (k + 1) = (if (loL es).getD k 0 < (loL es).getD (k + 1) 0 then 0 else AA ns ws (loL es) k) + gp ns ws (loL es) (k + 1) := rfl
      have eB := bhd_step (ns := ns) (ws := ws) (row := loL es) (i := k) (by omega)
      by_cases hlt : (loL es).getD k 0 < (loL es).getD (k + 1) 0
      · rw [if_pos hlt] at eA eB
        unfold SS mn
        rw [eA, eB]
        split <;> (try split) <;> omega
      · rw [if_neg hlt] at eA eB
        unfold SS mn
        rw [eA]
        split <;> split <;> omega
theorem pl_sum (ns' : Nat) : ∀ k, sm (k + 1) (pl ns ws (loL es)) = SS ns ws (loL es) k
  | 0 => by
    show 0 + (SS ns ws (loL es) 0 - _) = _
    rw [if_pos rfl]; omega
  | k + 1 => by
    show sm (k + 1) _ + (SS ns ws (loL es) (k + 1) - _) = _
    rw [pl_sum ns' k, if_neg (by omega), Nat.add_sub_cancel]; omega
theorem summed_ok (hw : ∀ i, i < ns.length → 1 ≤ ws.getD i 0) : SmC ns.length (fun i => ns.getD i 0) (fun i => ws.getD i 0) (fun i => (loL es).getD i 0) (pl ns ws (loL es)) := by
  have hl := E.1
  have ll := loL_length es
  have F := fun i hi => SS_facts (i := i) E hw hi
  have ris : Ris ns.length (fun i => (loL es).getD i 0) := fun i hi => lo_rise es i (by omega)
  have nn : ∀ k, k ≤ ns.length → 0 ≤ sm k (pl ns ws (loL es)) := fun k hk => by
    cases k with
    | zero => exact Int.le_refl _
    | succ k => rw [pl_sum E 0 k]; exact (F k (by omega)).1
  have all : sm ns.length (pl ns ws (loL es)) = 0 := by
    by_cases h0 : ns.length = 0
    · rw [h0]; rfl
    · obtain ⟨k, hk⟩ : ∃ k, ns.length = k + 1 := ⟨ns.length - 1, by omega⟩
      rw [hk, pl_sum E 0 k]
      exact (F k (by omega)).2.2.1 hk.symm
  refine ⟨ris, fun i hi => ?_, nn, all, ?_⟩
  · obtain ⟨_, _, _, f1, f2⟩ := F i hi
    have w1 := hw i hi
    unfold lp at f1
    unfold gp ee at f2
    split at f1 <;> split at f2 <;> omega
  · have e1 : sm ns.length (fun i => pl ns ws (loL es) i * ns.getD i 0) = sm ns.length (fun i => pl ns ws (loL es) i * (ns.getD i 0 - (loL es).getD i 0)) + sm ns.length (fun i => pl ns ws (loL es) i * (loL es).getD i 0) := by
      rw [← sm_add]
      refine sm_congr fun i _ => ?_
      rw [← Int.mul_add, Int.sub_add_cancel]
    have e2 : sm ns.length (fun i => pl ns ws (loL es) i * (loL es).getD i 0) = 0 := by
      by_cases h0 : ns.length = 0
      · rw [h0]; rfl
      · obtain ⟨k, hk⟩ : ∃ k, ns.length = k + 1 := ⟨ns.length - 1, by omega⟩
        rw [hk, sm_abel, ← hk, all, Int.zero_mul, Int.zero_add]
        have : sm k (fun i => sm (i + 1) (pl ns ws (loL es)) * ((loL es).getD i 0 - (loL es).getD (i + 1) 0)) = sm k (fun _ => 0) := sm_congr fun i hi => by
          rw [pl_sum E 0 i]
          by_cases hlt : (loL es).getD i 0 < (loL es).getD (i + 1) 0
          · rw [(F i (by omega)).2.1 (by omega) hlt, Int.zero_mul]
          · have := (lo_step (es := es) (i := i) (by omega)).1
            rw [show (loL es).getD i 0 - (loL es).getD (i + 1) 0 = 0 by omega, Int.mul_zero]
        rw [this, sm_zero]
    show sm ns.length (fun i => pl ns ws (loL es) i * ns.getD i 0) = _
    rw [e1, e2, Int.add_zero]
    refine sm_congr fun i hi => ?_
    obtain ⟨_, _, _, f1, f2⟩ := F i hi
    unfold ab
    by_cases c1 : ns.getD i 0 < (loL es).getD i 0
    · have : pl ns ws (loL es) i = -(ws.getD i 0) := by
        unfold lp at f1
        unfold gp ee at f2
        rw [if_neg (by omega)] at f1 f2
        omega
      rw [this, if_pos (by omega), Int.neg_mul, ← Int.mul_neg]
    · rw [if_neg (by omega)]
      by_cases c2 : ns.getD i 0 = (loL es).getD i 0
      · rw [c2, Int.sub_self, Int.mul_zero, Int.mul_zero]
      · have : pl ns ws (loL es) i = ws.getD i 0 := by
          unfold lp at f1
          unfold gp ee at f2
          rw [if_pos (by omega)] at f1 f2
          omega
        rw [this]
end
end Up
set_option maxHeartbeats 4000000
set_option linter.all false
namespace Up
open Fr1
def rv (fs : List (Int × Int)) (i : Nat) : Rat := vl (fs.getD i fz)
def FP (fs : List (Int × Int)) : Prop := ∀ f ∈ fs, 0 < f.2 ∧ Int.gcd f.1 f.2 = 1
end Up
set_option maxHeartbeats 4000000
set_option linter.all false
namespace Up
open Fr1
abbrev gd (ns : List Int) (i : Nat) : Int := ns.getD i 0
section
variable {ns ws : List Int} {fs gs : List (Int × Int)}
end
structure Cst (ns ws : List Int) (g s : Int) (f : Int × Int) : Prop where
  ev : ∃ row i j, EvP ns row i j ∧ g = maxL (dl ns row)
  su : ∃ r p, SmC ns.length (gd ns) (gd ws) r p ∧ s = sm ns.length (fun i => gd ws i * ab (gd ns i) (r i))
  sq : ∃ fs, SqP ns ws fs ∧ FP fs ∧ f = accL (z3 ns ws fs)
section
variable {ns ws : List Int} {g s g' s' : Int} {f f' : Int × Int}
end
end Up
set_option Elab.async false
set_option linter.all false
set_option maxRecDepth 100000
set_option maxHeartbeats 4000000
namespace K1
open PySem L2 Fr1 Up
structure Bn (mg : Str → Option Value) : Prop where
  abs' : mg "abs" = none
  len' : mg "len" = none
  sum' : mg "sum" = none
  sorted' : mg "sorted" = none
  all' : mg "all" = none
  isinstance' : mg "isinstance" = none
  max' : mg "max" = none
  min' : mg "min" = none
  list' : mg "list" = none
  int' : mg "int" = none
  bool' : mg "bool" = none
  tuple' : mg "tuple" = none
  zip' : mg "zip" = none
  enumerate' : mg "enumerate" = none
  range' : mg "range" = none
  any' : mg "any" = none
  reversed' : mg "reversed" = none
theorem ints_at {ns : List Int} {i : Nat} {x : V} (h : (ns.map V.int)[i]? = some x) : ∃ z, ns[i]? = some z ∧ x = .int z := by
  rw [List.getElem?_map] at h
  cases e : ns[i]? with
  | none => rw [e] at h; cases h
  | some z => rw [e] at h; exact ⟨z, rfl, (Option.some.inj h).symm⟩
theorem at_ints {ns : List Int} {i : Nat} {z : Int} (h : ns[i]? = some z) : (ns.map V.int)[i]? = some (.int z) := by rw [List.getElem?_map, h]; rfl
theorem refs_at {rs : List Addr} {i : Nat} {x : V} (h : (rs.map V.ref)[i]? = some x) : ∃ z, rs[i]? = some z ∧ x = .ref z := by
  rw [List.getElem?_map] at h
  cases e : rs[i]? with
  | none => rw [e] at h; cases h
  | some z => rw [e] at h; exact ⟨z, rfl, (Option.some.inj h).symm⟩
theorem at_refs {rs : List Addr} {i : Nat} {z : Addr} (h : rs[i]? = some z) : (rs.map V.ref)[i]? = some (.ref z) := by rw [List.getElem?_map, h]; rfl
theorem le63 {n : Nat} (h : n ≤ 1000) : n ≤ sizeLine := Nat.le_of_lt (small1000 (by omega))
theorem get_of {α : Type} {xs : List α} {i : Nat} (h : i < xs.length) : ∃ x, xs[i]? = some x := ⟨xs[i], List.getElem?_eq_getElem h⟩
def FrAt (H : Hp) (rs : List Addr) (fs : List (Int × Int)) : Prop := rs.length = fs.length ∧ ∀ (i : Nat) r f, rs[i]? = some r → fs[i]? = some f → H r = some (.tup [.int f.1, .int f.2])
theorem FrAt.same {H H' : Hp} {rs : List Addr} {fs : List (Int × Int)} (h : FrAt H rs fs) (s : Same H H') : FrAt H' rs fs := ⟨h.1, fun i r f e1 e2 => s _ _ (h.2 i r f e1 e2)⟩
def spGcd : Sp := fun vs H Q _ => ∃ a b : Int, vs = [.int a, .int b] ∧ Q (.int (Int.gcd a b : Int)) H
def spLow : Sp := fun vs H Q _ => ∃ t b : Int, vs = [.int t, .int b] ∧ 0 < b ∧ b < 2 ^ 128 ∧ ∀ p, H p = none → Q (.ref p) (upd H p (.tup [.int (lowP t b).1, .int (lowP t b).2]))
def spSum : Sp := fun vs H Q _ => ∃ (a c : Addr) (a0 a1 c0 c1 : Int), vs = [.ref a, .ref c] ∧ H a = some (.tup [.int a0, .int a1]) ∧ H c = some (.tup [.int c0, .int c1]) ∧ 0 < a1 ∧ a1 < 2 ^ 60 ∧ 0 < c1 ∧ c1 < 2 ^ 60 ∧
  ∀ p, H p = none → Q (.ref p) (upd H p (.tup [.int (lowP (a0 * c1 + c0 * a1) (a1 * c1)).1, .int (lowP (a0 * c1 + c0 * a1) (a1 * c1)).2]))
def spWhole : Sp := fun vs H Q _ => ∃ i : Int, vs = [.int i] ∧ Q (.bl true) H
def spFrac : Sp := fun vs H Q _ => ∃ (a : Addr) (p r : Int), vs = [.ref a] ∧ H a = some (.tup [.int p, .int r]) ∧ 1 ≤ r ∧ Int.gcd p r = 1 ∧ Q (.bl true) H
def spListW : Sp := fun vs H Q _ => ∃ (a : Addr) (ns : List Int), vs = [.ref a] ∧ H a = some (.lst (ns.map V.int)) ∧ ns.length ≤ 1000 ∧ ∀ H', Same H H' → Q (.bl true) H'
def spListF : Sp := fun vs H Q _ => ∃ (a : Addr) (rs : List Addr) (fs : List (Int × Int)), vs = [.ref a] ∧ H a = some (.lst (rs.map V.ref)) ∧ FrAt H rs fs ∧ fs.length ≤ 1000 ∧ (∀ f ∈ fs, 1 ≤ f.2 ∧ Int.gcd f.1 f.2 = 1) ∧ ∀ H', Same H H' → Q (.bl true) H'
def spChk1 : Sp := fun vs H Q _ => ∃ (a : Addr) (ns : List Int), vs = [.ref a] ∧ H a = some (.lst (ns.map V.int)) ∧ ns.length ≤ 1000 ∧ ∀ H', Same H H' → Q .non H'
def spChk2 : Sp := fun vs H Q _ => ∃ (a b : Addr) (ns ms : List Int), vs = [.ref a, .ref b] ∧ H a = some (.lst (ns.map V.int)) ∧ H b = some (.lst (ms.map V.int)) ∧ ns.length ≤ 1000 ∧ ms.length = ns.length ∧ ∀ H', Same H H' → Q .non H'
def spChkW : Sp := fun vs H Q _ => ∃ (a b : Addr) (ns ws : List Int), vs = [.ref a, .ref b] ∧ H a = some (.lst (ns.map V.int)) ∧ H b = some (.lst (ws.map V.int)) ∧ ns.length ≤ 1000 ∧ ws.length = ns.length ∧ (∀ w ∈ ws, 1 ≤ w) ∧ ∀ H', Same H H' → Q .non H'
def spDiff : Sp := fun vs H Q _ => ∃ (a b : Addr) (ns ms : List Int), vs = [.ref a, .ref b] ∧ H a = some (.lst (ns.map V.int)) ∧ H b = some (.lst (ms.map V.int)) ∧ ns.length ≤ 1000 ∧ ms.length = ns.length ∧ ∀ p H', Same H H' → H' p = some (.lst ((dl ns ms).map V.int)) → Q (.ref p) H'
def spGreat : Sp := fun vs H Q _ => ∃ (a b : Addr) (ns ms : List Int), vs = [.ref a, .ref b] ∧ H a = some (.lst (ns.map V.int)) ∧ H b = some (.lst (ms.map V.int)) ∧ ns.length ≤ 1000 ∧ ms.length = ns.length ∧ ∀ H', Same H H' → Q (.int (maxL (dl ns ms))) H'
def spSummed : Sp := fun vs H Q _ => ∃ (a b c : Addr) (ns ms ws : List Int), vs = [.ref a, .ref b, .ref c] ∧ H a = some (.lst (ns.map V.int)) ∧ H b = some (.lst (ms.map V.int)) ∧ H c = some (.lst (ws.map V.int)) ∧ ns.length ≤ 1000 ∧ ms.length = ns.length ∧ ws.length = ns.length ∧
  (∀ w ∈ ws, 1 ≤ w ∧ w ≤ 1125899906842623) ∧ ∀ H', Same H H' → Q (.int (wl ws (dl ns ms)).sum) H'
theorem gcd_small {t b : Int} (hb : 0 < b) (h : b < 2 ^ 128) : CDivB x (Int.gcd t b : Int) := ⟨gcd_pos hb, Int.lt_of_le_of_lt (gcd_le hb) h⟩
theorem rep_snoc {α : Type} (x : α) (i : Nat) : List.replicate i x ++ [x] = List.replicate (i + 1) x := by rw [List.replicate_succ']
theorem rep_all (n : Nat) : ((List.replicate n true).all fun b => b) = true := by
  rw [List.all_eq_true]
  intro x hx
  exact (List.eq_of_mem_replicate hx)
def Bt (n : Int) : Prop := Builtin.Int.intBits n ≤ 1048576
theorem Bt.small {n : Int} (h1 : -(2 ^ 120) < n) (h2 : n < 2 ^ 120) : Bt n := by
  have h : Builtin.Int.intBits n ≤ 120 := intBits_le_iff.mpr (by omega)
  unfold Bt
  omega
def spNumbers (K : PySem.W.Frag) : Sp := fun vs H Q _ => ∃ (a : Addr) (ns : List Int), vs = [.ref a] ∧ SqL K H a (ns.map V.int) ∧ ns.length ≤ 63 ∧ (∀ n ∈ ns, Bt n) ∧
  ∀ p H' (ms : List Int), Same H H' → H p = none → H' p = some (.lst (ms.map V.int)) → ms.length = ns.length → (∀ m ∈ ms, Bt m) → Q (.ref p) H'
def spWeights (K : PySem.W.Frag) : Sp := fun vs H Q _ => ∃ (a : Addr) (ns : List Int), vs = [.ref a] ∧ SqL K H a (ns.map V.int) ∧ ns.length ≤ 63 ∧
  ∀ p H' (ws : List Int), Same H H' → H p = none → H' p = some (.lst (ws.map V.int)) → ws.length = ns.length → (∀ w ∈ ws, 1 ≤ w ∧ w ≤ 1000000000) → Q (.ref p) H'
theorem pow30 : (10 : Int) ^ (30 : Int).toNat = 1000000000000000000000000000000 := by decide
theorem pow9 : (10 : Int) ^ (9 : Int).toNat = 1000000000 := by decide
theorem idx3 (t : Int) : t % 3 = 0 ∨ t % 3 = 1 ∨ t % 3 = 2 := by omega
theorem most_at (t : Int) : ∃ m, atI [V.int 7, V.int 100, V.int 0] (t % 3) = some (.int m) ∧ (m = 7 ∨ m = 100 ∨ m = 0) := by
  rcases idx3 t with e | e | e <;> rw [e]
  · exact ⟨7, rfl, .inl rfl⟩
  · exact ⟨100, rfl, .inr (.inl rfl)⟩
  · exact ⟨0, rfl, .inr (.inr rfl)⟩
theorem weight_at {t a b : Int} (ha : 0 ≤ a ∧ a < 5) (hb : 0 ≤ b ∧ b < 1000000000) : ∃ m, atI [V.int 1, V.int (1 + a), V.int (1 + b)] (t % 3) = some (.int m) ∧ 1 ≤ m ∧ m ≤ 1000000000 := by
  rcases idx3 t with e | e | e <;> rw [e]
  · exact ⟨1, rfl, by omega, by omega⟩
  · exact ⟨1 + a, rfl, by omega, by omega⟩
  · exact ⟨1 + b, rfl, by omega, by omega⟩
theorem map_snoc {α β : Type} (g : α → β) {xs : List α} {i : Nat} {x : α} (h : xs[i]? = some x) : (xs.take (i + 1)).map g = (xs.take i).map g ++ [g x] := by
  rw [take_snoc h, List.map_append]; rfl
theorem bt_first {m c : Int} (hm : m = 7 ∨ m = 100 ∨ m = 0) (hc : Bt c) : Bt (if 0 < m then c % m - m / 2 else c) := by
  split
  · rename_i h
    have h1 := Int.emod_nonneg c (show m ≠ 0 by omega)
    have h2 := Int.emod_lt_of_pos c h
    refine Bt.small ?_ ?_ <;> omega
  · exact hc
theorem bt_second (c : Int) : Bt (c % 1000000000000000000000000000000 * (1 - c / 1000000000000000000000000000000 % 2 * 2)) := by
  have h1 := Int.emod_nonneg c (show (1000000000000000000000000000000 : Int) ≠ 0 by decide)
  have h2 := Int.emod_lt_of_pos c (show (0 : Int) < 1000000000000000000000000000000 by decide)
  generalize c % 1000000000000000000000000000000 = x at h1 h2
  have : c / 1000000000000000000000000000000 % 2 = 0 ∨ c / 1000000000000000000000000000000 % 2 = 1 := by omega
  rcases this with e | e <;> rw [e]
  · refine Bt.small ?_ ?_ <;> omega
  · refine Bt.small ?_ ?_ <;> omega
theorem seq_with {t u : TS} {D : Ends} {σ : St} {H : Hp} (C : St → Hp → Prop) (h1 : ∀ σ' H', C σ' H' → u D σ' H') (h2 : (∀ σ' H', C σ' H' → u D σ' H') → t { D with nx := u D } σ H) : tSeq t u D σ H := h2 h1
theorem one_two (y : Int) : -(2 ^ 64) < 1 - y % 2 * 2 ∧ 1 - y % 2 * 2 < 2 ^ 64 := by omega
def spLaw (K : PySem.W.Frag) : Sp := fun vs H Q _ => ∃ (a : Addr) (ns : List Int), vs = [.ref a] ∧ SqL K H a (ns.map V.int) ∧ ns.length ≤ 63 ∧ (∀ n ∈ ns, Bt n) ∧ ∀ H', Q (.bl true) H'
theorem flat_ints {ns : List Int} : ∀ x ∈ ns.map V.int, flatV x = true ∨ ∃ a, x = V.ref a := fun x hx => by
  obtain ⟨n, _, rfl⟩ := List.mem_map.mp hx
  exact .inl rfl
theorem flat_refs {rs : List Addr} : ∀ x ∈ rs.map V.ref, flatV x = true ∨ ∃ a, x = V.ref a := fun x hx => by
  obtain ⟨n, _, rfl⟩ := List.mem_map.mp hx
  exact .inr ⟨n, rfl⟩
theorem EqL.same {K : PySem.W.Frag} {H : Hp} {n : Nat} {a b : Addr} {xs : List V} (ha : SqL K H a xs) (hb : SqL K H b xs) (h : ∀ x ∈ xs, flatV x = true ∨ ∃ a, x = .ref a) : EqL K H n (.ref a) (.ref b) true :=
  ⟨a, b, xs, xs, fun _ => true, rfl, rfl, ha, hb, rfl, fun j x y e1 e2 => by
    rw [e1] at e2
    cases e2
    exact EqR.of_same (h x (List.mem_of_getElem? e1)), (all_true _).symm⟩
theorem rep_one (c : Int) (n : Nat) : (List.replicate n [V.int c]).flatten = (List.replicate n c).map V.int := by
  induction n with
  | zero => rfl
  | succ n ih => rw [List.replicate_succ, List.replicate_succ, List.flatten_cons, ih]; rfl
theorem FrAt.snoc {H : Hp} {rs : List Addr} {fs : List (Int × Int)} {t : Addr} {x : Int × Int} (h : FrAt H rs fs) (ht : H t = none) : FrAt (upd H t (.tup [.int x.1, .int x.2])) (rs ++ [t]) (fs ++ [x]) := by
  refine ⟨by rw [List.length_append, List.length_append, h.1]; rfl, fun i r f e1 e2 => ?_⟩
  by_cases hi : i < rs.length
  · rw [List.getElem?_append_left hi] at e1
    rw [List.getElem?_append_left (by rw [← h.1]; exact hi)] at e2
    exact (same_new ht _) _ _ (h.2 i r f e1 e2)
  · have hi' : rs.length ≤ i := Nat.le_of_not_lt hi
    rw [List.getElem?_append_right hi'] at e1
    rw [List.getElem?_append_right (by rw [← h.1]; exact hi'), ← h.1] at e2
    have z : i - rs.length = 0 := by
      have := (List.getElem?_eq_some_iff.mp e1).1
      rw [List.length_singleton] at this
      omega
    rw [z] at e1 e2
    cases e1
    cases e2
    exact upd_same
structure CA where
  Answer : Addr
  Evened : Addr
  Summed : Addr
  Squared : Addr
  Band : Addr
  Barred : Addr
structure NaEvened (K : PySem.W.Frag) (C : Addr) : Prop where
  r : NoAttr K C "row"
  f : NoAttr K C "first"
  s : NoAttr K C "second"
structure NaSummed (K : PySem.W.Frag) (C : Addr) : Prop where
  r : NoAttr K C "row"
  p : NoAttr K C "pulls"
structure NaSquared (K : PySem.W.Frag) (C : Addr) : Prop where
  r : NoAttr K C "row"
structure NaBand (K : PySem.W.Frag) (C : Addr) : Prop where
  l : NoAttr K C "lows"
  h : NoAttr K C "highs"
structure NaBarred (K : PySem.W.Frag) (C : Addr) : Prop where
  f : NoAttr K C "first"
  s : NoAttr K C "second"
theorem dec_len {ns ms : List Int} : (decide (V.int (((ms.map V.int).length : Nat) : Int) = V.int (((ns.map V.int).length : Nat) : Int)) = true) ↔ ms.length = ns.length := by
  rw [decide_eq_true_iff, List.length_map, List.length_map]
  constructor
  · intro h; injection h with h; omega
  · intro h; rw [h]
theorem dec_lenF {ns : List Int} {rs : List Addr} : (decide (V.int (((rs.map V.ref).length : Nat) : Int) = V.int (((ns.map V.int).length : Nat) : Int)) = true) ↔ rs.length = ns.length := by
  rw [decide_eq_true_iff, List.length_map, List.length_map]
  constructor
  · intro h; injection h with h; omega
  · intro h; rw [h]
def spRowW : Sp := fun vs H Q _ => ∃ (a b : Addr) (ns ms : List Int), vs = [.ref a, .ref b] ∧ H a = some (.lst (ns.map V.int)) ∧ H b = some (.lst (ms.map V.int)) ∧ ns.length ≤ 1000 ∧ ms.length ≤ 1000 ∧ ∀ bb H', (bb = true ↔ ms.length = ns.length) → Same H H' → Q (.bl bb) H'
def spRowF : Sp := fun vs H Q _ => ∃ (a b : Addr) (ns : List Int) (rs : List Addr) (fs : List (Int × Int)), vs = [.ref a, .ref b] ∧ H a = some (.lst (ns.map V.int)) ∧ H b = some (.lst (rs.map V.ref)) ∧ FrAt H rs fs ∧ ns.length ≤ 1000 ∧ fs.length ≤ 1000 ∧ (∀ f ∈ fs, 1 ≤ f.2 ∧ Int.gcd f.1 f.2 = 1) ∧
  ∀ bb H', (bb = true ↔ fs.length = ns.length) → Same H H' → Q (.bl bb) H'
def spWts : Sp := fun vs H Q _ => ∃ (a b : Addr) (ns ws : List Int), vs = [.ref a, .ref b] ∧ H a = some (.lst (ns.map V.int)) ∧ H b = some (.lst (ws.map V.int)) ∧ ns.length ≤ 1000 ∧ ws.length = ns.length ∧ (∀ w ∈ ws, 1 ≤ w) ∧ ∀ H', Same H H' → Q (.bl true) H'
end K1
set_option Elab.async false
set_option linter.all false
set_option maxRecDepth 100000
set_option maxHeartbeats 4000000
namespace K1
open PySem L2 Fr1 Up
def spRise : Sp := fun vs H Q _ => ∃ (a : Addr) (ns : List Int), vs = [.ref a] ∧ H a = some (.lst (ns.map V.int)) ∧ ns.length ≤ 1000 ∧ ∀ bb H', (bb = true ↔ Rise ns) → Same H H' → Q (.bl bb) H'
def spUp : Sp := fun vs H Q _ => ∃ (a : Addr) (ns : List Int), vs = [.ref a] ∧ H a = some (.lst (ns.map V.int)) ∧ ns.length ≤ 1000 ∧ ∀ p H', Same H H' → H p = none → H' p = some (.lst ((upL ns).map V.int)) → Q (.ref p) H'
def spLo : Sp := fun vs H Q _ => ∃ (a : Addr) (ns : List Int), vs = [.ref a] ∧ H a = some (.lst (ns.map V.int)) ∧ ns.length ≤ 1000 ∧ ∀ p H', Same H H' → H p = none → H' p = some (.lst ((loL ns).map V.int)) → Q (.ref p) H'
def spFall : Sp := fun vs H Q _ => ∃ (a : Addr) (ns : List Int), vs = [.ref a] ∧ H a = some (.lst (ns.map V.int)) ∧ ns.length ≤ 1000 ∧ ∀ (t p : Nat) (d : Int) (r : Addr) H', Fall ns t p d → Same H H' → H' r = some (.tup [.int t, .int p, .int d]) → Q (.ref r) H'
def spLeast : Sp := fun vs H Q _ => ∃ (a : Addr) (ns : List Int) (m : Int), vs = [.ref a, .int m] ∧ H a = some (.lst (ns.map V.int)) ∧ ns.length ≤ 1000 ∧ ∀ p H', Same H H' → H p = none → H' p = some (.lst (((upL ns).map fun x => x - m).map V.int)) → Q (.ref p) H'
def spGreatS : Sp := fun vs H Q _ => ∃ (a : Addr) (ns : List Int) (m : Int), vs = [.ref a, .int m] ∧ H a = some (.lst (ns.map V.int)) ∧ ns.length ≤ 1000 ∧ ∀ p H', Same H H' → H p = none → H' p = some (.lst (((loL ns).map fun x => x + m).map V.int)) → Q (.ref p) H'
def spRiW : Sp := fun vs H Q _ => ∃ (a b : Addr) (ns ms : List Int), vs = [.ref a, .ref b] ∧ H a = some (.lst (ns.map V.int)) ∧ H b = some (.lst (ms.map V.int)) ∧ ns.length ≤ 1000 ∧ ms.length ≤ 1000 ∧ ∀ bb H', (bb = true ↔ (ms.length = ns.length ∧ Rise ms)) → Same H H' → Q (.bl bb) H'
def spPlaces : Sp := fun vs H Q _ => ∃ (a : Addr) (ns : List Int) (i j : Int), vs = [.ref a, .int i, .int j] ∧ H a = some (.lst (ns.map V.int)) ∧ ∀ bb, (bb = true ↔ (0 ≤ i ∧ i ≤ j ∧ (j < ns.length ∨ j = 0))) → Q (.bl bb) H
def spFallB : Sp := fun vs H Q _ => ∃ (a : Addr) (ns : List Int) (i j : Int), vs = [.ref a, .int i, .int j] ∧ H a = some (.lst (ns.map V.int)) ∧ (ns = [] ∨ (0 ≤ i ∧ i < ns.length ∧ 0 ≤ j ∧ j < ns.length)) ∧ ∀ H', Same H H' → Q (.int (ns.getD i.toNat 0 - ns.getD j.toNat 0)) H'
def spMost : Sp := fun vs H Q _ => ∃ m : Int, vs = [.int m] ∧ 0 ≤ m ∧ Q (.bl true) H
structure EvAt (c : CA) (H : Hp) (x r : Addr) (row : List Int) (i j : Int) : Prop where
  ob : ∃ dx fs, H x = some (.ins c.Evened dx fs) ∧ fs.lookup ("row" : Str) = some (.ref r) ∧ fs.lookup ("first" : Str) = some (.int i) ∧ fs.lookup ("second" : Str) = some (.int j) ∧ fs.lookup ("shows" : Str) = none
  rl : H r = some (.lst (row.map V.int))
theorem EvAt.same {c : CA} {H H' : Hp} {x r : Addr} {row : List Int} {i j : Int} (h : EvAt c H x r row i j) (s : Same H H') : EvAt c H' x r row i j := by
  obtain ⟨⟨dx, fs, e, l⟩, rl⟩ := h
  exact ⟨⟨dx, fs, s _ _ e, l⟩, s _ _ rl⟩
def Kept (H H' : Hp) (x : Addr) : Prop := ∀ b o, H b = some o → b ≠ x → H' b = some o
def spEvInit (c : CA) : Sp := fun vs H Q _ => ∃ (x r dx : Addr) (row : List Int) (i j : Int), vs = [.ref x, .ref r, .int i, .int j] ∧ H x = some (.ins c.Evened dx []) ∧ H r = some (.lst (row.map V.int)) ∧ ∀ l H', H l = none → EvAt c H' x l row i j → Kept H H' x → Q .non H'
def spEvShows (c : CA) : Sp := fun vs H Q _ => ∃ (x a r : Addr) (ns row : List Int) (i j : Int), vs = [.ref x, .ref a] ∧ EvAt c H x r row i j ∧ H a = some (.lst (ns.map V.int)) ∧ ns.length ≤ 1000 ∧ row.length ≤ 1000 ∧ ∀ bb H', (bb = true ↔ EvP ns row i j) → Same H H' → Q (.bl bb) H'
def spEvened (c : CA) : Sp := fun vs H Q _ => ∃ (a : Addr) (ns : List Int), vs = [.ref a] ∧ H a = some (.lst (ns.map V.int)) ∧ ns.length ≤ 1000 ∧ ∀ x r row i j H', EvAt c H' x r row i j → Same H H' → H x = none → H r = none → EvP ns row i j → Q (.ref x) H'
structure BaAt (c : CA) (H : Hp) (x l h : Addr) (lows highs : List Int) : Prop where
  ob : ∃ dx fs, H x = some (.ins c.Band dx fs) ∧ fs.lookup ("lows" : Str) = some (.ref l) ∧ fs.lookup ("highs" : Str) = some (.ref h) ∧ fs.lookup ("shows" : Str) = none
  ll : H l = some (.lst (lows.map V.int))
  hl : H h = some (.lst (highs.map V.int))
structure BrAt (c : CA) (H : Hp) (x : Addr) (i j : Int) : Prop where
  ob : ∃ dx fs, H x = some (.ins c.Barred dx fs) ∧ fs.lookup ("first" : Str) = some (.int i) ∧ fs.lookup ("second" : Str) = some (.int j) ∧ fs.lookup ("shows" : Str) = none
def spBaInit (c : CA) : Sp := fun vs H Q _ => ∃ (x l h dx : Addr) (lows highs : List Int), vs = [.ref x, .ref l, .ref h] ∧ H x = some (.ins c.Band dx []) ∧ H l = some (.lst (lows.map V.int)) ∧ H h = some (.lst (highs.map V.int)) ∧
  ∀ l' h' H', H l' = none → H h' = none → l' ≠ h' → BaAt c H' x l' h' lows highs → Kept H H' x → Q .non H'
def spBaShows (c : CA) : Sp := fun vs H Q _ => ∃ (x a l h : Addr) (ns lows highs : List Int) (m : Int), vs = [.ref x, .ref a, .int m] ∧ BaAt c H x l h lows highs ∧ H a = some (.lst (ns.map V.int)) ∧ ns.length ≤ 1000 ∧ lows.length ≤ 1000 ∧ highs.length ≤ 1000 ∧ 0 ≤ m ∧
  ∀ bb H', (bb = true ↔ BaP ns lows highs m) → Same H H' → Q (.bl bb) H'
def spBrInit (c : CA) : Sp := fun vs H Q _ => ∃ (x dx : Addr) (i j : Int), vs = [.ref x, .int i, .int j] ∧ H x = some (.ins c.Barred dx []) ∧ ∀ H', BrAt c H' x i j → Kept H H' x → Q .non H'
def spBrShows (c : CA) : Sp := fun vs H Q _ => ∃ (x a : Addr) (ns : List Int) (i j m : Int), vs = [.ref x, .ref a, .int m] ∧ BrAt c H x i j ∧ H a = some (.lst (ns.map V.int)) ∧ ns.length ≤ 1000 ∧ 0 ≤ m ∧ ∀ bb H', (bb = true ↔ BrP ns i j m) → Same H H' → Q (.bl bb) H'
theorem _root_.L2.Same.upd {H H' : Hp} (s : Same H H') {p : Addr} (h : H p = none) (o : HO) : Same H (upd H' p o) := fun b u q => by rw [upd_ne (ne_of_none q h)]; exact s b u q
theorem all_range {n : Nat} {p : Nat → Bool} : (((List.range n).map p).all fun b => b) = true ↔ ∀ j, j < n → p j = true := by
  rw [List.all_map, List.all_eq_true]
  exact ⟨fun h j hj => h j (List.mem_range.mpr hj), fun h j hj => h j (List.mem_range.mp hj)⟩
theorem any_range {n : Nat} {p : Nat → Bool} : (((List.range n).map p).any fun b => b) = true ↔ ∃ j, j < n ∧ p j = true := by
  rw [List.any_map, List.any_eq_true]
  exact ⟨fun ⟨j, h1, h2⟩ => ⟨j, List.mem_range.mp h1, h2⟩, fun ⟨j, h1, h2⟩ => ⟨j, List.mem_range.mpr h1, h2⟩⟩
theorem range_snoc {α : Type} (p : Nat → α) (i : Nat) : (List.range (i + 1)).map p = (List.range i).map p ++ [p i] := by rw [List.range_succ, List.map_append]; rfl
theorem at_gd {ns : List Int} {i : Nat} (h : i < ns.length) : (ns.map V.int)[i]? = some (.int (ns.getD i 0)) := at_ints (gd_some h)
theorem atI_gd {ns : List Int} {k : Int} {i : Nat} (e : k = i) (h : i < ns.length) : atI (ns.map V.int) k = some (.int (ns.getD i 0)) := by subst e; exact atI_nat (at_gd h)
theorem le1000 {n : Nat} (h : n ≤ 1000) : n ≤ sizeLine := Nat.le_of_lt (small1000 h)
theorem len_map_le {ns : List Int} (h : ns.length ≤ 1000) : (ns.map V.int).length ≤ sizeLine := by rw [List.length_map]; exact le1000 h
theorem Kept.same {H H1 H' : Hp} {x : Addr} (k : Kept H1 H' x) (s : Same H H1) (hx : H x = none) : Same H H' := fun b o e => k b o (s b o e) (ne_of_none e hx)
theorem same_own {H : Hp} {x dx C : Addr} (hx : H x = none) (hdx : H dx = none) : Same H (upd (upd H dx (.own x)) x (.ins C dx [])) := (same_new hdx _).upd hx _
theorem iteDT {c A B : Prop} [Decidable c] (h : c) (x : A) : if decide c = true then A else B := by rw [if_pos (decide_eq_true h)]; exact x
theorem iteDF {c A B : Prop} [Decidable c] (h : ¬ c) (x : B) : if decide c = true then A else B := by rw [if_neg (by rw [decide_eq_false h]; decide)]; exact x
theorem iteD {c A B : Prop} [Decidable c] (x : c → A) (y : ¬ c → B) : if decide c = true then A else B := by
  by_cases h : c
  · exact iteDT h (x h)
  · exact iteDF h (y h)
theorem iteNT {c A B : Prop} [Decidable c] (h : ¬ c) (x : A) : if (!decide c) = true then A else B := by rw [if_pos (by rw [decide_eq_false h]; rfl)]; exact x
theorem iteNF {c A B : Prop} [Decidable c] (h : c) (x : B) : if (!decide c) = true then A else B := by rw [if_neg (by rw [decide_eq_true h]; decide)]; exact x
theorem ff_iff {p : Prop} (h : ¬ p) : (false = true ↔ p) := ⟨fun z => Bool.noConfusion z, fun z => absurd z h⟩
theorem tt_iff {p : Prop} (h : p) : (true = true ↔ p) := ⟨fun _ => h, fun _ => rfl⟩
theorem len_iff {ns ms : List Int} : V.int (((ms.map V.int).length : Nat) : Int) = V.int (((ns.map V.int).length : Nat) : Int) ↔ ms.length = ns.length := by
  rw [List.length_map, List.length_map]
  constructor
  · intro h; injection h with h; omega
  · intro h; rw [h]
theorem int_iff {a b : Int} : V.int a = V.int b ↔ a = b := ⟨fun h => by injection h, fun h => by rw [h]⟩
theorem in2 {n u v : Int} : inV (.int n) [.int u, .int v] = true ↔ (n = u ∨ n = v) := by
  unfold inV
  simp [eqV]
  omega
def spEven : Sp := fun vs H Q _ => ∃ (a r : Addr) (ns row : List Int) (i j : Int), vs = [.ref a, .ref r, .int i, .int j] ∧ H a = some (.lst (ns.map V.int)) ∧ H r = some (.lst (row.map V.int)) ∧ ns.length ≤ 1000 ∧ row.length ≤ 1000 ∧ ∀ bb H', (bb = true ↔ EvP ns row i j) → Same H H' → Q (.bl bb) H'
def LsAt (H : Hp) (os : List Addr) (nss : List (List Int)) : Prop := os.length = nss.length ∧ ∀ (i : Nat) o ns, os[i]? = some o → nss[i]? = some ns → H o = some (.lst (ns.map V.int))
theorem LsAt.same {H H' : Hp} {os : List Addr} {nss : List (List Int)} (h : LsAt H os nss) (s : Same H H') : LsAt H' os nss := ⟨h.1, fun i r f e1 e2 => s _ _ (h.2 i r f e1 e2)⟩
def cutI (xs : List Int) (lo hi : Option Int) : List Int := (xs.drop (HT.sIx xs.length 0 lo)).take (HT.sIx xs.length xs.length hi - HT.sIx xs.length 0 lo)
theorem cutV_map (xs : List Int) (lo hi : Option Int) : cutV (xs.map V.int) lo hi = (cutI xs lo hi).map V.int := by
  unfold cutV cutI
  rw [List.length_map, List.map_take, List.map_drop]
theorem max_eq {ns row : List Int} {M : Int} (h1 : M ∈ dl ns row) (h2 : ∀ a ∈ dl ns row, a ≤ M) : M = maxL (dl ns row) := maxL_of dl_nn h1 h2
theorem ev_nil {row : List Int} {i j : Int} (hl : row.length = ([] : List Int).length) : EvP [] row i j ↔ (i = 0 ∧ j = 0) := by
  obtain rfl : row = [] := List.eq_nil_of_length_eq_zero hl
  constructor
  · intro z
    have h1 := z.f0
    have h2 := z.fs
    have h3 := z.sl
    simp at h3
    omega
  · rintro ⟨rfl, rfl⟩
    exact ⟨rfl, fun i hi => absurd hi (Nat.not_lt_zero _), by omega, by omega, by omega, by decide⟩
end K1
set_option Elab.async false
set_option linter.all false
set_option maxRecDepth 100000
set_option maxHeartbeats 4000000
namespace K1
open PySem L2 Fr1 Up
end K1
set_option Elab.async false
set_option linter.all false
set_option maxRecDepth 100000
set_option maxHeartbeats 4000000
namespace K1
open PySem L2 Fr1 Up
theorem atI_0 {xs : List V} {v : V} (h : xs[0]? = some v) : atI xs 0 = some v := atI_nat (j := 0) h
theorem atI_1 {xs : List V} {v : V} (h : xs[1]? = some v) : atI xs 1 = some v := atI_nat (j := 1) h
def spLess : Sp := fun vs H Q _ => ∃ (a c : Addr) (a0 a1 c0 c1 : Int) (xa xc : List V), vs = [.ref a, .ref c] ∧ H a = some (.tup xa) ∧ H c = some (.tup xc) ∧ xa[0]? = some (.int a0) ∧ xa[1]? = some (.int a1) ∧ xc[0]? = some (.int c0) ∧ xc[1]? = some (.int c1) ∧
  0 < a1 ∧ a1 < 2 ^ 60 ∧ 0 < c1 ∧ c1 < 2 ^ 60 ∧ Q (.bl (decide (a0 * c1 < c0 * a1))) H
def FOk (fs : List (Int × Int)) : Prop := ∀ f ∈ fs, 1 ≤ f.2 ∧ f.2 < 2 ^ 60 ∧ Int.gcd f.1 f.2 = 1
def WOk (ws : List Int) : Prop := ∀ w ∈ ws, 1 ≤ w ∧ w < 2 ^ 50
theorem FOk.at {fs : List (Int × Int)} (h : FOk fs) {i : Nat} (hi : i < fs.length) : 1 ≤ (fs.getD i fz).2 ∧ (fs.getD i fz).2 < 2 ^ 60 ∧ Int.gcd (fs.getD i fz).1 (fs.getD i fz).2 = 1 := by
  rw [List.getD_eq_getElem?_getD, List.getElem?_eq_getElem hi]
  exact h _ (List.getElem_mem hi)
theorem fr_get {H : Hp} {rs : List Addr} {fs : List (Int × Int)} (h : FrAt H rs fs) {i : Nat} (hi : i < fs.length) : ∃ r, rs[i]? = some r ∧ H r = some (.tup [.int (fs.getD i fz).1, .int (fs.getD i fz).2]) := by
  obtain ⟨r, hr⟩ := get_of (xs := rs) (i := i) (by rw [h.1]; exact hi)
  refine ⟨r, hr, ?_⟩
  have e : fs[i]? = some (fs.getD i fz) := by rw [List.getD_eq_getElem?_getD, List.getElem?_eq_getElem hi]; rfl
  exact h.2 i r _ hr e
def spFRise : Sp := fun vs H Q _ => ∃ (r : Addr) (rs : List Addr) (fs : List (Int × Int)), vs = [.ref r] ∧ H r = some (.lst (rs.map V.ref)) ∧ FrAt H rs fs ∧ fs.length ≤ 1000 ∧ FOk fs ∧
  ∀ bb H', (bb = true ↔ ∀ i, i + 1 < fs.length → (fs.getD i fz).1 * (fs.getD (i + 1) fz).2 ≤ (fs.getD (i + 1) fz).1 * (fs.getD i fz).2) → Same H H' → Q (.bl bb) H'
structure LkP (ns ws : List Int) (fs : List (Int × Int)) : Prop where
  nn : ∀ k, k ≤ ns.length → 0 ≤ PS ns ws fs k
  tot : PS ns ws fs ns.length = 0
  ch : ∀ i, i + 1 < ns.length → fs.getD i fz ≠ fs.getD (i + 1) fz → PS ns ws fs (i + 1) = 0
def spLacks : Sp := fun vs H Q _ => ∃ (a r b : Addr) (ns ws : List Int) (rs : List Addr) (fs : List (Int × Int)), vs = [.ref a, .ref r, .ref b] ∧ H a = some (.lst (ns.map V.int)) ∧ H r = some (.lst (rs.map V.ref)) ∧ H b = some (.lst (ws.map V.int)) ∧ FrAt H rs fs ∧ ns.length ≤ 1000 ∧ fs.length = ns.length ∧ ws.length = ns.length ∧ FOk fs ∧ WOk ws ∧
  ∀ bb H', (bb = true ↔ LkP ns ws fs) → Same H H' → Q (.bl bb) H'
structure SqAt (c : CA) (H : Hp) (x r : Addr) (rs : List Addr) (fs : List (Int × Int)) : Prop where
  ob : ∃ dx fl, H x = some (.ins c.Squared dx fl) ∧ fl.lookup ("row" : Str) = some (.ref r) ∧ fl.lookup ("shows" : Str) = none
  rl : H r = some (.lst (rs.map V.ref))
  fr : FrAt H rs fs
theorem SqAt.same {c : CA} {H H' : Hp} {x r : Addr} {rs : List Addr} {fs : List (Int × Int)} (h : SqAt c H x r rs fs) (s : Same H H') : SqAt c H' x r rs fs := by
  obtain ⟨⟨dx, fl, e, l⟩, rl, fr⟩ := h
  exact ⟨⟨dx, fl, s _ _ e, l⟩, s _ _ rl, fr.same s⟩
def spSqInit (c : CA) : Sp := fun vs H Q _ => ∃ (x r dx : Addr) (rs : List Addr) (fs : List (Int × Int)), vs = [.ref x, .ref r] ∧ H x = some (.ins c.Squared dx []) ∧ H r = some (.lst (rs.map V.ref)) ∧ FrAt H rs fs ∧ ∀ l H', H l = none → SqAt c H' x l rs fs → Kept H H' x → Q .non H'
def spSqShows (c : CA) : Sp := fun vs H Q _ => ∃ (x a b r : Addr) (ns ws : List Int) (rs : List Addr) (fs : List (Int × Int)), vs = [.ref x, .ref a, .ref b] ∧ SqAt c H x r rs fs ∧ H a = some (.lst (ns.map V.int)) ∧ H b = some (.lst (ws.map V.int)) ∧ ns.length ≤ 1000 ∧ fs.length ≤ 1000 ∧ ws.length = ns.length ∧ FOk fs ∧ WOk ws ∧
  ∀ bb H', (bb = true ↔ SqP ns ws fs) → Same H H' → Q (.bl bb) H'
def TrAt (H : Hp) (rr : List Addr) (rs : List (Int × Int × Int)) : Prop := rr.length = rs.length ∧ ∀ (i : Nat) r t, rr[i]? = some r → rs[i]? = some t → H r = some (.tup [.int t.1, .int t.2.1, .int t.2.2])
theorem TrAt.same {H H' : Hp} {rr : List Addr} {rs : List (Int × Int × Int)} (h : TrAt H rr rs) (s : Same H H') : TrAt H' rr rs := ⟨h.1, fun i r f e1 e2 => s _ _ (h.2 i r f e1 e2)⟩
theorem TrAt.upd {H : Hp} {rr : List Addr} {rs : List (Int × Int × Int)} (h : TrAt H rr rs) {p : Addr} {xs : List V} (hp : H p = some (.lst xs)) (o : HO) : TrAt (upd H p o) rr rs := ⟨h.1, fun i r f e1 e2 => by
  have z := h.2 i r f e1 e2
  rw [upd_ne (ne_of z hp (by intro w; cases w))]
  exact z⟩
theorem TrAt.snoc {H : Hp} {rr : List Addr} {rs : List (Int × Int × Int)} (h : TrAt H rr rs) {u : Addr} {t : Int × Int × Int} (hu : H u = some (.tup [.int t.1, .int t.2.1, .int t.2.2])) : TrAt H (rr ++ [u]) (rs ++ [t]) := by
  refine ⟨by rw [List.length_append, List.length_append, h.1]; rfl, fun i r f e1 e2 => ?_⟩
  by_cases hi : i < rr.length
  · rw [List.getElem?_append_left hi] at e1
    rw [List.getElem?_append_left (by rw [← h.1]; exact hi)] at e2
    exact h.2 i r f e1 e2
  · have hi' : rr.length ≤ i := Nat.le_of_not_lt hi
    rw [List.getElem?_append_right hi'] at e1
    rw [List.getElem?_append_right (by rw [← h.1]; exact hi'), ← h.1] at e2
    have z : i - rr.length = 0 := by
      have := (List.getElem?_eq_some_iff.mp e1).1
      rw [List.length_singleton] at this
      omega
    rw [z] at e1 e2
    cases e1
    cases e2
    exact hu
theorem TrAt.init {H : Hp} {rr : List Addr} {rs : List (Int × Int × Int)} {u : Addr} {t : Int × Int × Int} (h : TrAt H (rr ++ [u]) (rs ++ [t])) : TrAt H rr rs ∧ H u = some (.tup [.int t.1, .int t.2.1, .int t.2.2]) := by
  have hl : rr.length = rs.length := by have := h.1; rw [List.length_append, List.length_append] at this; simpa using this
  refine ⟨⟨hl, fun i r f e1 e2 => ?_⟩, ?_⟩
  · have i1 := (List.getElem?_eq_some_iff.mp e1).1
    exact h.2 i r f (by rw [List.getElem?_append_left i1]; exact e1) (by rw [List.getElem?_append_left (by omega)]; exact e2)
  · exact h.2 rr.length u t (by rw [List.getElem?_append_right (Nat.le_refl _), Nat.sub_self]; rfl) (by rw [hl, List.getElem?_append_right (Nat.le_refl _), Nat.sub_self]; rfl)
def spJoin : Sp := fun vs H Q _ => ∃ (a b : Addr) (s t : Int × Int × Int), vs = [.ref a, .ref b] ∧ H a = some (.tup [.int s.1, .int s.2.1, .int s.2.2]) ∧ H b = some (.tup [.int t.1, .int t.2.1, .int t.2.2]) ∧ ∀ p, H p = none → Q (.ref p) (upd H p (.tup [.int (s.1 + t.1), .int (s.2.1 + t.2.1), .int (s.2.2 + t.2.2)]))
def spRuns : Sp := fun vs H Q _ => ∃ (a b : Addr) (ns ws : List Int), vs = [.ref a, .ref b] ∧ H a = some (.lst (ns.map V.int)) ∧ H b = some (.lst (ws.map V.int)) ∧ ns.length ≤ 1000 ∧ ws.length = ns.length ∧ WOk ws ∧
  ∀ p rr rs H', Same H H' → H p = none → H' p = some (.lst (rr.map V.ref)) → TrAt H' rr rs → Runs (SA ns ws) (SB ws) rs ns.length → Q (.ref p) H'
theorem SB_bound {ws : List Int} (h : WOk ws) : ∀ k, SB ws k ≤ (k : Int) * 2 ^ 50
  | 0 => by show (0 : Int) ≤ _; omega
  | k + 1 => by
    have ih := SB_bound h k
    have e : SB ws (k + 1) = SB ws k + ws.getD k 0 := rfl
    have : ws.getD k 0 < 2 ^ 50 := by
      by_cases hk : k < ws.length
      · exact (h _ (List.mem_of_getElem? (gd_some hk))).2
      · rw [gd_out (by omega)]; decide
    rw [e, Int.natCast_add, Int.add_mul]
    omega
theorem WOk.one {ws : List Int} (h : WOk ws) : ∀ w ∈ ws, 1 ≤ w := fun w hw => (h w hw).1
theorem Blk.small {ws : List Int} {A : Nat → Int} {lo hi : Nat} {S W : Int} (h : WOk ws) (b : Blk A (SB ws) lo hi S W) (hh : hi ≤ 1000) : 0 < W ∧ W < 2 ^ 60 := by
  refine ⟨b.pos, ?_⟩
  have h1 := SB_bound h hi
  have h2 := SB_mono h.one 0 lo (Nat.zero_le _)
  have h3 : SB ws 0 = 0 := rfl
  have := b.w
  have h4 : (hi : Int) * 2 ^ 50 ≤ 1000 * 2 ^ 50 := Int.mul_le_mul_of_nonneg_right (by omega) (by decide)
  have h5 : (1000 : Int) * 2 ^ 50 < 2 ^ 60 := by decide
  omega
def spSquaredL : Sp := fun vs H Q _ => ∃ (a b r : Addr) (ns ws : List Int) (rs : List Addr) (fs : List (Int × Int)), vs = [.ref a, .ref b, .ref r] ∧ H a = some (.lst (ns.map V.int)) ∧ H b = some (.lst (ws.map V.int)) ∧ H r = some (.lst (rs.map V.ref)) ∧ FrAt H rs fs ∧ ns.length ≤ 1000 ∧ ws.length = ns.length ∧ FOk fs ∧ WOk ws ∧
  ∀ bb H', (bb = true ↔ SqP ns ws fs) → Same H H' → Q (.bl bb) H'
def TT (ns ws : List Int) (fs : List (Int × Int)) (i : Nat) : Int × Int := if i = 0 then (0, 1) else lowP (PS ns ws fs i) (fs.getD (i - 1) fz).2
structure SqS (ns ws : List Int) (fs : List (Int × Int)) (i : Nat) : Prop where
  ris : ∀ j, j + 1 < i → (fs.getD j fz).1 * (fs.getD (j + 1) fz).2 ≤ (fs.getD (j + 1) fz).1 * (fs.getD j fz).2
  nn : ∀ k, k ≤ i → 0 ≤ PS ns ws fs k
  ch : ∀ j, j + 1 < i → fs.getD j fz ≠ fs.getD (j + 1) fz → PS ns ws fs (j + 1) = 0
theorem SqS.zero (ns ws : List Int) (fs : List (Int × Int)) : SqS ns ws fs 0 := ⟨fun j h => absurd h (Nat.not_lt_zero _), fun k hk => by rw [Nat.le_zero.mp hk]; exact Int.le_refl _, fun j h => absurd h (Nat.not_lt_zero _)⟩
theorem TT_pos {ns ws : List Int} {fs : List (Int × Int)} (hf : FOk fs) {i : Nat} (hi : i ≤ fs.length) : 0 < (TT ns ws fs i).2 ∧ (TT ns ws fs i).2 < 2 ^ 60 := by
  unfold TT
  by_cases h : i = 0
  · rw [if_pos h]; exact ⟨by decide, by decide⟩
  · rw [if_neg h]
    obtain ⟨q1, q2, _⟩ := hf.at (i := i - 1) (by omega)
    exact ⟨lowP_pos (by omega), by have := lowP_le (t := PS ns ws fs i) (b := (fs.getD (i - 1) fz).2) (by omega); omega⟩
theorem TT_sign {ns ws : List Int} {fs : List (Int × Int)} (hf : FOk fs) {i : Nat} (hi : i ≤ fs.length) : ((TT ns ws fs i).1 < 0 ↔ PS ns ws fs i < 0) ∧ ((TT ns ws fs i).1 = 0 ↔ PS ns ws fs i = 0) := by
  unfold TT
  by_cases h : i = 0
  · subst h; rw [if_pos rfl, PS_zero]; exact ⟨Iff.rfl, Iff.rfl⟩
  · rw [if_neg h]
    obtain ⟨q1, q2, _⟩ := hf.at (i := i - 1) (by omega)
    exact low_sign (by omega)
theorem TT_turn {ns ws : List Int} {fs : List (Int × Int)} (hf : FOk fs) {i : Nat} (hi : i < fs.length) (h : i = 0 ∨ fs.getD (i - 1) fz = fs.getD i fz ∨ PS ns ws fs i = 0) :
    lowP ((TT ns ws fs i).1 * (fs.getD i fz).2 + ws.getD i 0 * (ns.getD i 0 * (fs.getD i fz).2 - (fs.getD i fz).1) * (TT ns ws fs i).2) ((TT ns ws fs i).2 * (fs.getD i fz).2) = TT ns ws fs (i + 1) := by
  obtain ⟨q1, q2, _⟩ := hf.at hi
  have e : TT ns ws fs (i + 1) = lowP (PS ns ws fs i + lk0 ns ws fs i) (fs.getD i fz).2 := by
    unfold TT
    rw [if_neg (by omega), Nat.add_sub_cancel]
    rfl
  rw [e]
  refine low_turn (by omega) ?_
  unfold TT
  by_cases h0 : i = 0
  · subst h0; rw [if_pos rfl]; exact .inl ⟨rfl, rfl⟩
  · rw [if_neg h0]
    rcases h with h | h | h
    · exact absurd h h0
    · rw [h]; exact .inr rfl
    · obtain ⟨p1, _, _⟩ := hf.at (i := i - 1) (by omega)
      rw [h]
      exact .inl ⟨low_zero (by omega), rfl⟩
def PrAt (H : Hp) (os : List Addr) (prs : List (List Int × List Int)) : Prop := os.length = prs.length ∧ ∀ (i : Nat) o p, os[i]? = some o → prs[i]? = some p → ∃ a b, H o = some (.tup [.ref a, .ref b]) ∧ H a = some (.lst (p.1.map V.int)) ∧ H b = some (.lst (p.2.map V.int))
theorem PrAt.same {H H' : Hp} {os : List Addr} {prs : List (List Int × List Int)} (h : PrAt H os prs) (s : Same H H') : PrAt H' os prs := ⟨h.1, fun i o p e1 e2 => by
  obtain ⟨a, b, h1, h2, h3⟩ := h.2 i o p e1 e2
  exact ⟨a, b, s _ _ h1, s _ _ h2, s _ _ h3⟩⟩
end K1
namespace K1
open PySem L2 Fr1 Up
theorem rep_ref (n : Nat) (f : Addr) : (List.replicate n [V.ref f]).flatten = (List.replicate n f).map V.ref := by
  induction n with
  | zero => rfl
  | succ n ih => rw [List.replicate_succ, List.replicate_succ, List.flatten_cons, ih]; rfl
theorem FrAt.reps {H : Hp} {ts : List Addr} {fs : List (Int × Int)} {n : Nat} {f p : Addr} {g : Int × Int} {xs : List V} {o : HO} (h : FrAt H ts fs) (hp : H p = some (.lst xs)) (hf : H f = some (.tup [.int g.1, .int g.2])) : FrAt (upd H p o) (ts ++ List.replicate n f) (fs ++ List.replicate n g) := by
  have k : ∀ u g', H u = some (.tup [.int g'.1, .int g'.2]) → (upd H p o) u = some (.tup [.int (g' : Int × Int).1, .int g'.2]) := fun u g' z => by rw [upd_ne (ne_of z hp (by intro w; cases w))]; exact z
  refine ⟨by rw [List.length_append, List.length_append, h.1, List.length_replicate, List.length_replicate], fun i r t e1 e2 => ?_⟩
  by_cases hi : i < ts.length
  · rw [List.getElem?_append_left hi] at e1
    rw [List.getElem?_append_left (by rw [← h.1]; exact hi)] at e2
    exact k r t (h.2 i r t e1 e2)
  · rw [List.getElem?_append_right (by omega), List.getElem?_replicate] at e1
    rw [List.getElem?_append_right (by rw [← h.1]; omega), List.getElem?_replicate] at e2
    split at e1
    · cases e1
      split at e2
      · cases e2
        exact k _ _ hf
      · cases e2
    · cases e1
theorem runs_take {A B : Nat → Int} {rs : List (Int × Int × Int)} {hi : Nat} (h : Runs A B rs hi) : (∀ i t, rs[i]? = some t → ∃ lo, (rowOf (rs.take i)).length + t.2.2.toNat ≤ hi ∧ 0 ≤ t.2.2 ∧ t.2.2 ≤ (hi : Int) ∧ ∃ hi', hi' ≤ hi ∧ Blk A B lo hi' t.1 t.2.1) ∧ (rowOf rs).length = hi := by
  induction h with
  | nil => exact ⟨fun i t e => by simp at e, rfl⟩
  | @snoc rs lo hi S W h b l ih =>
    have hlt := b.lt
    obtain ⟨i1, i2⟩ := ih
    refine ⟨fun i t e => ?_, ?_⟩
    · by_cases hi' : i < rs.length
      · rw [List.getElem?_append_left hi'] at e
        obtain ⟨lo', g1, g2, g3, hi2, g4, g5⟩ := i1 i t e
        rw [List.take_append_of_le_length (by omega)]
        exact ⟨lo', by omega, g2, by omega, hi2, by omega, g5⟩
      · rw [List.getElem?_append_right (by omega)] at e
        have z : i - rs.length = 0 := by
          have := (List.getElem?_eq_some_iff.mp e).1
          rw [List.length_singleton] at this
          omega
        rw [z] at e
        cases e
        have ei : i = rs.length := by omega
        subst ei
        rw [List.take_left', i2]
        · exact ⟨lo, by show lo + ((hi : Int) - (lo : Int)).toNat ≤ hi; omega, by show 0 ≤ (hi : Int) - (lo : Int); omega, by show (hi : Int) - (lo : Int) ≤ hi; omega, hi, Nat.le_refl _, b⟩
        · rfl
    · rw [rowOf_snoc, List.length_append, i2, List.length_replicate]
      show lo + ((hi : Int) - (lo : Int)).toNat = hi
      omega
theorem runs_bound {ns ws : List Int} {rs : List (Int × Int × Int)} {m : Nat} (h : Runs (SA ns ws) (SB ws) rs m) : (∀ i t, rs[i]? = some t → (rowOf (rs.take i)).length + t.2.2.toNat ≤ m) ∧ (WOk ws → m ≤ 1000 → ∀ t ∈ rs, 0 < t.2.1 ∧ t.2.1 < 2 ^ 60 ∧ 0 ≤ t.2.2 ∧ t.2.2 ≤ 1000) := by
  obtain ⟨h1, _⟩ := runs_take h
  refine ⟨fun i t e => ?_, fun hw hm t ht => ?_⟩
  · obtain ⟨lo, g, _⟩ := h1 i t e
    exact g
  · obtain ⟨i, hi, e⟩ := List.mem_iff_getElem.mp ht
    obtain ⟨lo, _, g2, g3, hi', g4, g5⟩ := h1 i t (by rw [List.getElem?_eq_getElem hi, e])
    obtain ⟨w1, w2⟩ := Blk.small hw g5 (by omega)
    exact ⟨w1, w2, g2, by omega⟩
end K1
namespace K1
open PySem L2 Fr1 Up
theorem len_iffF {ns : List Int} {rs : List Addr} : V.int (((rs.map V.ref).length : Nat) : Int) = V.int (((ns.map V.int).length : Nat) : Int) ↔ rs.length = ns.length := by
  rw [List.length_map, List.length_map]
  constructor
  · intro h; injection h with h; omega
  · intro h; rw [h]
theorem SqS.step {ns ws : List Int} {fs : List (Int × Int)} {i : Nat} (h : SqS ns ws fs i) (h1 : 0 < i → (fs.getD (i - 1) fz).1 * (fs.getD i fz).2 ≤ (fs.getD i fz).1 * (fs.getD (i - 1) fz).2) (h2 : i = 0 ∨ fs.getD (i - 1) fz = fs.getD i fz ∨ PS ns ws fs i = 0) (h3 : 0 ≤ PS ns ws fs (i + 1)) : SqS ns ws fs (i + 1) := by
  refine ⟨fun j hj => ?_, fun k hk => ?_, fun j hj hd => ?_⟩
  · by_cases e : j + 1 = i
    · subst e
      have := h1 (by omega)
      rw [Nat.add_sub_cancel] at this
      exact this
    · exact h.ris j (by omega)
  · by_cases e : k = i + 1
    · rw [e]; exact h3
    · exact h.nn k (by omega)
  · by_cases e : j + 1 = i
    · subst e
      rw [Nat.add_sub_cancel] at h2
      rcases h2 with z | z | z
      · omega
      · exact absurd z hd
      · exact z
    · exact h.ch j (by omega) hd
end K1
set_option Elab.async false
set_option linter.all false
set_option maxRecDepth 100000
set_option maxHeartbeats 4000000
namespace K1
open PySem L2 Fr1 Up
def HpAt (H : Hp) (hs : List Addr) (n : Nat) (f : PF) : Prop := hs.length = n ∧ ∀ i, i < n → ∃ r, hs[i]? = some r ∧ H r = some (.tup [.int (f i).1, .int (f i).2])
theorem HpAt.same {H H' : Hp} {hs : List Addr} {n : Nat} {f : PF} (h : HpAt H hs n f) (s : Same H H') : HpAt H' hs n f := ⟨h.1, fun i hi => by
  obtain ⟨r, e, z⟩ := h.2 i hi
  exact ⟨r, e, s _ _ z⟩⟩
theorem HpAt.kept {H H' : Hp} {hs : List Addr} {n : Nat} {f : PF} {p : Addr} {xs : List V} (h : HpAt H hs n f) (hp : H p = some (.lst xs)) (k : Kept H H' p) : HpAt H' hs n f := ⟨h.1, fun i hi => by
  obtain ⟨r, e, z⟩ := h.2 i hi
  exact ⟨r, e, k _ _ z (ne_of z hp (by intro w; cases w))⟩⟩
theorem kept_upd {H : Hp} {p : Addr} {o : HO} : Kept H (upd H p o) p := fun b u e hb => by rw [upd_ne hb]; exact e
theorem Kept.trans {H H1 H2 : Hp} {p : Addr} (a : Kept H H1 p) (b : Kept H1 H2 p) : Kept H H2 p := fun c o e hc => b c o (a c o e hc) hc
theorem Kept.ofSame {H H1 : Hp} {p : Addr} (s : Same H H1) : Kept H H1 p := fun c o e _ => s c o e
theorem HpAt.set {H : Hp} {hs : List Addr} {n : Nat} {f : PF} {i : Nat} {r : Addr} {y : Int × Int} (h : HpAt H hs n f) (hi : i < n) (hr : H r = some (.tup [.int y.1, .int y.2])) : HpAt H (hs.set i r) n (fset f i y) := by
  refine ⟨by rw [List.length_set]; exact h.1, fun j hj => ?_⟩
  by_cases e : j = i
  · subst e
    exact ⟨r, by rw [List.getElem?_set_self (by rw [h.1]; exact hi)], by rw [fset_same]; exact hr⟩
  · obtain ⟨u, e1, z⟩ := h.2 j hj
    exact ⟨u, by rw [List.getElem?_set_ne (Ne.symm e)]; exact e1, by rw [fset_ne e]; exact z⟩
theorem HpAt.snoc {H : Hp} {hs : List Addr} {n : Nat} {f : PF} {r : Addr} {y : Int × Int} (h : HpAt H hs n f) (hr : H r = some (.tup [.int y.1, .int y.2])) : HpAt H (hs ++ [r]) (n + 1) (fset f n y) := by
  refine ⟨by rw [List.length_append, h.1]; rfl, fun j hj => ?_⟩
  by_cases e : j = n
  · subst e
    exact ⟨r, by rw [List.getElem?_append_right (by rw [h.1]; exact Nat.le_refl _), h.1, Nat.sub_self]; rfl, by rw [fset_same]; exact hr⟩
  · obtain ⟨u, e1, z⟩ := h.2 j (by omega)
    exact ⟨u, by rw [List.getElem?_append_left (by rw [h.1]; omega)]; exact e1, by rw [fset_ne e]; exact z⟩
theorem HpAt.init {H : Hp} {hs : List Addr} {n : Nat} {f : PF} (h : HpAt H hs (n + 1) f) : ∃ hs' u, hs = hs' ++ [u] ∧ HpAt H hs' n f ∧ H u = some (.tup [.int (f n).1, .int (f n).2]) := by
  rcases List.eq_nil_or_concat hs with e | ⟨hs', u, e⟩
  · have := h.1
    rw [e] at this
    simp at this
  rw [List.concat_eq_append] at e
  subst e
  have hl : hs'.length = n := by have := h.1; rw [List.length_append] at this; simpa using this
  refine ⟨hs', u, rfl, ⟨hl, fun i hi => ?_⟩, ?_⟩
  · obtain ⟨r, e1, z⟩ := h.2 i (by omega)
    rw [List.getElem?_append_left (by omega)] at e1
    exact ⟨r, e1, z⟩
  · obtain ⟨r, e1, z⟩ := h.2 n (by omega)
    rw [List.getElem?_append_right (by omega), hl, Nat.sub_self] at e1
    cases e1
    exact z
theorem ixN_nat {n j : Nat} (h : j < n) : ixN n (j : Int) = some j := by
  unfold ixN
  rw [if_pos (by omega), if_pos (by omega)]
  simp
theorem set_map {hs : List Addr} {i : Nat} {r : Addr} : (hs.map V.ref).set i (.ref r) = (hs.set i r).map V.ref := by rw [List.map_set]
theorem par_int {p : Nat} (h : 0 < p) : ((p : Int) - 1) / 2 = ((par p : Nat) : Int) := by unfold par; omega
def spPut : Sp := fun vs H Q _ => ∃ (h : Addr) (hs : List Addr) (n : Nat) (f : PF) (v s : Int), vs = [.ref h, .int v, .int s] ∧ H h = some (.lst (hs.map V.ref)) ∧ HpAt H hs n f ∧ n ≤ 900 ∧ Hok f n ∧ Pos' f n ∧ 0 < s ∧
  ∀ hs' f' H', Kept H H' h → H' h = some (.lst (hs'.map V.ref)) → HpAt H' hs' (n + 1) f' → Hok f' (n + 1) → Pos' f' (n + 1) → (∀ g : Int × Int → Int, sm (n + 1) (fun j => g (f' j)) = sm n (fun j => g (f j)) + g (v, s)) → Q .non H'
def spGrB : Sp := fun vs H Q _ => ∃ (h : Addr) (hs : List Addr) (n : Nat) (f : PF) (p : Nat), vs = [.ref h, .int p] ∧ H h = some (.lst (hs.map V.ref)) ∧ HpAt H hs n f ∧ ∀ b : Nat, GrB f n p b → Q (.int b) H
def spTake : Sp := fun vs H Q _ => ∃ (h : Addr) (hs : List Addr) (n : Nat) (f : PF), vs = [.ref h] ∧ H h = some (.lst (hs.map V.ref)) ∧ HpAt H hs (n + 1) f ∧ Hok f (n + 1) ∧ Pos' f (n + 1) ∧
  ∀ hs' f' H', Kept H H' h → H' h = some (.lst (hs'.map V.ref)) → HpAt H' hs' n f' → Hok f' n → Pos' f' n → (∀ g : Int × Int → Int, sm n (fun j => g (f' j)) = sm (n + 1) (fun j => g (f j)) - g (f 0)) → Q .non H'
def spShares : Sp := fun vs H Q _ => ∃ (h : Addr) (hs : List Addr) (n : Nat) (f : PF) (a : Int), vs = [.ref h, .int a] ∧ H h = some (.lst (hs.map V.ref)) ∧ HpAt H hs n f ∧ 0 < n ∧ Hok f n ∧ Pos' f n ∧ 0 ≤ a ∧ a < totl f n ∧
  ∀ hs' n' f' H', Kept H H' h → H' h = some (.lst (hs'.map V.ref)) → HpAt H' hs' n' f' → 0 < n' → n' ≤ n → Hok f' n' → Pos' f' n' → (∀ x, mass f' n' x = mx0 (mass f n x - a)) → totl f' n' = totl f n - a → Q .non H'
def spEnds : Sp := fun vs H Q _ => ∃ (a b : Addr) (ns ws : List Int), vs = [.ref a, .ref b] ∧ H a = some (.lst (ns.map V.int)) ∧ H b = some (.lst (ws.map V.int)) ∧ ns.length ≤ 800 ∧ ws.length = ns.length ∧ WOk ws ∧ ∀ p es H', Same H H' → H p = none → H' p = some (.lst (es.map V.int)) → Ends ns ws es → Q (.ref p) H'
def spGP : Sp := fun vs H Q _ => ∃ n x w : Int, vs = [.int n, .int x, .int w] ∧ Q (.int (ee x n w)) H
def spLP : Sp := fun vs H Q _ => ∃ n x w : Int, vs = [.int n, .int x, .int w] ∧ Q (.int (if x < n then w else -w)) H
def spSums (g : List Int → List Int → List Int → Nat → Int) : Sp := fun vs H Q _ => ∃ (a r b : Addr) (ns row ws : List Int), vs = [.ref a, .ref r, .ref b] ∧ H a = some (.lst (ns.map V.int)) ∧ H r = some (.lst (row.map V.int)) ∧ H b = some (.lst (ws.map V.int)) ∧ ns.length ≤ 1000 ∧ row.length = ns.length ∧ ws.length = ns.length ∧
  ∀ p H', Same H H' → H p = none → H' p = some (.lst (((List.range ns.length).map (g ns ws row)).map V.int)) → Q (.ref p) H'
def SuP (ns ws row pulls : List Int) : Prop := row.length = ns.length ∧ pulls.length = ns.length ∧ SmC ns.length (fun i => ns.getD i 0) (fun i => ws.getD i 0) (fun i => row.getD i 0) (fun i => pulls.getD i 0)
structure SuAt (c : CA) (H : Hp) (x r p : Addr) (row pulls : List Int) : Prop where
  ob : ∃ dx fs, H x = some (.ins c.Summed dx fs) ∧ fs.lookup ("row" : Str) = some (.ref r) ∧ fs.lookup ("pulls" : Str) = some (.ref p) ∧ fs.lookup ("shows" : Str) = none
  rl : H r = some (.lst (row.map V.int))
  pl : H p = some (.lst (pulls.map V.int))
theorem SuAt.same {c : CA} {H H' : Hp} {x r p : Addr} {row pulls : List Int} (z : SuAt c H x r p row pulls) (s : Same H H') : SuAt c H' x r p row pulls := by
  obtain ⟨⟨dx, fs, e, k⟩, ll, hl⟩ := z
  exact ⟨⟨dx, fs, s _ _ e, k⟩, s _ _ ll, s _ _ hl⟩
def spSuInit (c : CA) : Sp := fun vs H Q _ => ∃ (x r p dx : Addr) (row pulls : List Int), vs = [.ref x, .ref r, .ref p] ∧ H x = some (.ins c.Summed dx []) ∧ H r = some (.lst (row.map V.int)) ∧ H p = some (.lst (pulls.map V.int)) ∧
  ∀ r' p' H', H r' = none → H p' = none → r' ≠ p' → SuAt c H' x r' p' row pulls → Kept H H' x → Q .non H'
def spSuShows (c : CA) : Sp := fun vs H Q _ => ∃ (x a b r p : Addr) (ns ws row pulls : List Int), vs = [.ref x, .ref a, .ref b] ∧ SuAt c H x r p row pulls ∧ H a = some (.lst (ns.map V.int)) ∧ H b = some (.lst (ws.map V.int)) ∧ ns.length ≤ 1000 ∧ row.length ≤ 1000 ∧ pulls.length ≤ 1000 ∧ ws.length = ns.length ∧ WOk ws ∧
  ∀ bb H', (bb = true ↔ SuP ns ws row pulls) → Same H H' → Q (.bl bb) H'
def spSumP (c : CA) : Sp := fun vs H Q _ => ∃ (a b : Addr) (ns ws : List Int), vs = [.ref a, .ref b] ∧ H a = some (.lst (ns.map V.int)) ∧ H b = some (.lst (ws.map V.int)) ∧ ns.length ≤ 800 ∧ ws.length = ns.length ∧ WOk ws ∧
  ∀ x r p row pulls H', SuAt c H' x r p row pulls → Same H H' → H x = none → H r = none → H p = none → r ≠ p → SuP ns ws row pulls → Q (.ref x) H'
def spSumsShow : Sp := fun vs H Q _ => ∃ (p : Addr) (pulls : List Int), vs = [.ref p] ∧ H p = some (.lst (pulls.map V.int)) ∧ ∀ bb, (bb = true ↔ ((∀ k, k ≤ pulls.length → 0 ≤ sm k (fun i => pulls.getD i 0)) ∧ sm pulls.length (fun i => pulls.getD i 0) = 0)) → Q (.bl bb) H
def spWithin : Sp := fun vs H Q _ => ∃ (p b : Addr) (pulls ws : List Int), vs = [.ref p, .ref b] ∧ H p = some (.lst (pulls.map V.int)) ∧ H b = some (.lst (ws.map V.int)) ∧ ws.length ≤ 1000 ∧ pulls.length = ws.length ∧ ∀ bb H', (bb = true ↔ ∀ i, i < ws.length → -(ws.getD i 0) ≤ pulls.getD i 0 ∧ pulls.getD i 0 ≤ ws.getD i 0) → Same H H' → Q (.bl bb) H'
theorem WOk.at {ws : List Int} (h : WOk ws) {i : Nat} (hi : i < ws.length) : 1 ≤ ws.getD i 0 ∧ ws.getD i 0 < 2 ^ 50 := h _ (List.mem_of_getElem? (gd_some hi))
theorem sum_sm (xs : List Int) : xs.sum = sm xs.length (fun i => xs.getD i 0) := by
  have : ∀ k, k ≤ xs.length → (xs.take k).sum = sm k (fun i => xs.getD i 0) := fun k => by
    induction k with
    | zero => intro _; rfl
    | succ k ih => intro hk; rw [take_snoc (gd_some (ns := xs) (i := k) (by omega)), sum_snoc, ih (by omega)]; rfl
  have z := this xs.length (Nat.le_refl _)
  rw [List.take_length] at z
  exact z
theorem dif_ab (n r : Int) : dif n r = ab n r := rfl
theorem cost_sm {ns ws row : List Int} (h1 : row.length = ns.length) (h2 : ws.length = ns.length) : (wl ws (dl ns row)).sum = sm ns.length (fun i => ws.getD i 0 * ab (ns.getD i 0) (row.getD i 0)) := by
  have hd : (dl ns row).length = ns.length := dl_length h1.symm
  have hw : (wl ws (dl ns row)).length = ns.length := by rw [wl_length (by omega)]; exact h2
  rw [sum_sm, hw]
  refine sm_congr fun i hi => ?_
  rw [gd_of (wl_at (gd_some (ns := ws) (i := i) (by omega)) (dl_at (gd_some hi) (gd_some (ns := row) (i := i) (by omega)))), dif_ab]
end K1
namespace K1
open PySem L2 Fr1 Up
theorem _root_.Up.SmC.ris_row {ns ws row pulls : List Int} (h : SmC ns.length (fun i => ns.getD i 0) (fun i => ws.getD i 0) (fun i => row.getD i 0) (fun i => pulls.getD i 0)) (hl : row.length = ns.length) : Rise row := fun i hi => h.ris i (by omega)
theorem sum_range {n : Nat} {g : Nat → Int} : ((List.range n).map g).sum = sm n g := by
  induction n with
  | zero => rfl
  | succ n ih => rw [range_snoc, sum_snoc, ih]; rfl
theorem gd_range {n i : Nat} {g : Nat → Int} (h : i < n) : ((List.range n).map g).getD i 0 = g i := by
  rw [List.getD_eq_getElem?_getD, List.getElem?_map, List.getElem?_range h]; rfl
theorem _root_.Up.SmC.pulls {n : Nat} {a w r g : Nat → Int} (h : SmC n a w r g) : SmC n a w r (fun i => ((List.range n).map g).getD i 0) := by
  have e : ∀ k, k ≤ n → sm k (fun i => ((List.range n).map g).getD i 0) = sm k g := fun k hk => sm_congr fun i hi => gd_range (by omega)
  refine ⟨h.ris, fun i hi => ?_, fun k hk => ?_, ?_, ?_⟩
  · have := h.bd i hi
    rw [gd_range hi]
    exact this
  · rw [e k hk]; exact h.nn k hk
  · rw [e n (Nat.le_refl _)]; exact h.all
  · rw [← h.cost]
    exact sm_congr fun i hi => by rw [gd_range hi]
end K1
namespace K1
open PySem L2 Fr1 Up
def spSummedL : Sp := fun vs H Q _ => ∃ (a b r p : Addr) (ns ws row pulls : List Int), vs = [.ref a, .ref b, .ref r, .ref p] ∧ H a = some (.lst (ns.map V.int)) ∧ H b = some (.lst (ws.map V.int)) ∧ H r = some (.lst (row.map V.int)) ∧ H p = some (.lst (pulls.map V.int)) ∧ ns.length ≤ 1000 ∧ row.length ≤ 1000 ∧ ws.length = ns.length ∧ WOk ws ∧
  ∀ bb H', (bb = true ↔ SuP ns ws row pulls) → Same H H' → Q (.bl bb) H'
end K1
set_option Elab.async false
set_option linter.all false
set_option maxRecDepth 100000
set_option maxHeartbeats 4000000
namespace K1
open PySem L2 Fr1 Up
abbrev bits (n : Int) : Nat := Builtin.Int.intBits n
def BotOk (b : Int) : Prop := b < 2 ^ 128 ∨ bits b ≤ 9000
theorem BotOk.bits {b : Int} (hb : 0 < b) (h : BotOk b) : bits b ≤ 9000 := by
  rcases h with h | h
  · have : K1.bits b ≤ 128 := intBits_le_iff.mpr (by omega)
    omega
  · exact h
theorem bits_le {a b : Int} {k : Nat} (h0 : 0 ≤ a) (h : a ≤ b) (hb : bits b ≤ k) : bits a ≤ k := intBits_le_of_natAbs (by omega) hb
theorem gcdL {x t b : Int} (hb : 0 < b) (h : bits b ≤ 9000) : CDivL x (Int.gcd t b : Int) := ⟨gcd_pos hb, bits_le (Int.le_of_lt (gcd_pos hb)) (gcd_le hb) h⟩
def spLowW : Sp := fun vs H Q _ => ∃ t b : Int, vs = [.int t, .int b] ∧ 0 < b ∧ (b < 2 ^ 128 ∨ bits b ≤ 9000) ∧ ∀ p, H p = none → Q (.ref p) (upd H p (.tup [.int (lowP t b).1, .int (lowP t b).2]))
structure AccOk (T : Int × Int) (k : Nat) : Prop where
  pos : 0 < T.2
  gcd : Int.gcd T.1 T.2 = 1
  b2 : bits T.2 ≤ 80 * k + 1
  b1 : bits T.1 ≤ 3000000 + 100 * k
def spSquaredW (c : CA) : Sp := fun vs H Q _ => ∃ (a b : Addr) (ns ws : List Int), vs = [.ref a, .ref b] ∧ H a = some (.lst (ns.map V.int)) ∧ H b = some (.lst (ws.map V.int)) ∧ ns.length ≤ 1000 ∧ ws.length = ns.length ∧ WOk ws ∧
  ∀ x r rs tr H', SqAt c H' x r rs (rowOf tr) → Same H H' → H x = none → H r = none → Runs (SA ns ws) (SB ws) tr ns.length → FOk (rowOf tr) → Q (.ref x) H'
theorem mem_rowOf {rs : List (Int × Int × Int)} {f : Int × Int} (h : f ∈ rowOf rs) : ∃ (i : Nat) (t : Int × Int × Int), rs[i]? = some t ∧ f = lowP t.1 t.2.1 := by
  unfold rowOf at h
  obtain ⟨l, hl, hf⟩ := List.mem_flatten.mp h
  obtain ⟨t, ht, rfl⟩ := List.mem_map.mp hl
  obtain ⟨i, hi, e⟩ := List.mem_iff_getElem.mp ht
  exact ⟨i, t, by rw [List.getElem?_eq_getElem hi, e], List.eq_of_mem_replicate hf⟩
theorem SB_le {ws : List Int} {M : Int} (h0 : 0 ≤ M) (h : ∀ w ∈ ws, w ≤ M) : ∀ k, SB ws k ≤ (k : Int) * M
  | 0 => by show (0 : Int) ≤ ((0 : Nat) : Int) * M; simp
  | k + 1 => by
    have ih := SB_le h0 h k
    have e : SB ws (k + 1) = SB ws k + ws.getD k 0 := rfl
    have : ws.getD k 0 ≤ M := by
      by_cases hk : k < ws.length
      · exact h _ (List.mem_of_getElem? (gd_some hk))
      · rw [gd_out (by omega)]; exact h0
    have e2 : (((k + 1 : Nat) : Int)) * M = (k : Int) * M + M := by rw [show ((k + 1 : Nat) : Int) = (k : Int) + 1 by omega, Int.add_mul, Int.one_mul]
    rw [e, e2]
    omega
end K1
set_option Elab.async false
set_option linter.all false
set_option maxRecDepth 100000
set_option maxHeartbeats 4000000
namespace K1
open PySem L2 Fr1 Up
theorem FrAt.rev {H : Hp} {rs : List Addr} {fs : List (Int × Int)} (h : FrAt H rs fs) : FrAt H rs.reverse fs.reverse := by
  refine ⟨by rw [List.length_reverse, List.length_reverse, h.1], fun i r f e1 e2 => ?_⟩
  have i1 := (List.getElem?_eq_some_iff.mp e1).1
  rw [List.length_reverse] at i1
  rw [List.getElem?_reverse i1] at e1
  rw [List.getElem?_reverse (by rw [← h.1]; exact i1), ← h.1] at e2
  exact h.2 _ r f e1 e2
theorem FrAt.nil (H : Hp) : FrAt H [] [] := ⟨rfl, fun i r f e => by simp at e⟩
end K1
set_option Elab.async false
set_option linter.all false
set_option maxRecDepth 100000
set_option maxHeartbeats 4000000
namespace K1
open PySem L2 Fr1 Up
def spSays : Sp := fun vs H Q _ => ∃ a : Bool, vs = [.bl a, .bl a] ∧ Q (.bl true) H
def spBent (K : PySem.W.Frag) : Sp := fun vs H Q _ => ∃ (r a : Addr) (row ns : List Int), vs = [.ref r, .ref a] ∧ H r = some (.lst (row.map V.int)) ∧ SqL K H a (ns.map V.int) ∧ row.length ≤ 200 ∧ ns.length ≤ 63 ∧
  ∀ p (out : List Int) H', Same H H' → H p = none → H' p = some (.lst (out.map V.int)) → out.length ≤ row.length + ns.length → Q (.ref p) H'
def spTwoR (K : PySem.W.Frag) : Sp := fun vs H Q _ => ∃ (a b : Addr) (ms ns : List Int), vs = [.ref a, .ref b] ∧ H a = some (.lst (ms.map V.int)) ∧ SqL K H b (ns.map V.int) ∧ ns.length ≤ 63 ∧ ms.length = ns.length ∧ ∀ H', Same H H' → Q (.bl true) H'
def spThreeR (K : PySem.W.Frag) : Sp := fun vs H Q _ => ∃ (a b d : Addr) (ms ws ns : List Int), vs = [.ref a, .ref b, .ref d] ∧ H a = some (.lst (ms.map V.int)) ∧ H b = some (.lst (ws.map V.int)) ∧ SqL K H d (ns.map V.int) ∧ ns.length ≤ 63 ∧ ms.length = ns.length ∧ ws.length = ns.length ∧ (∀ w ∈ ws, 1 ≤ w ∧ w ≤ 1000000000) ∧ ∀ H', Same H H' → Q (.bl true) H'
def spFew : Sp := fun vs H Q _ => vs = [] ∧ ∀ H', Q (.bl true) H'
theorem cut_lenT (xs : List Int) (k : Nat) : (cutI xs none (some (k : Int))).length ≤ k ∧ (cutI xs none (some (k : Int))).length ≤ xs.length := by
  unfold cutI
  rw [HT.sIx_none, HT.sIx_nat, List.length_take, List.length_drop]
  omega
theorem cut_lenD (xs : List Int) (k : Nat) : (cutI xs (some (k : Int)) none).length ≤ xs.length - k := by
  unfold cutI
  rw [HT.sIx_none, HT.sIx_nat, List.length_take, List.length_drop]
  omega
theorem cut_sum (xs : List Int) (k : Nat) : (cutI xs none (some (k : Int))).length + (cutI xs (some (k : Int)) none).length ≤ xs.length := by
  have h1 := cut_lenT xs k
  have h2 := cut_lenD xs k
  omega
end K1
set_option Elab.async false
set_option linter.all false
set_option maxRecDepth 100000
set_option maxHeartbeats 4000000
namespace K1
open PySem L2 Fr1 Up
theorem EvAt.upd {c : CA} {H : Hp} {x r : Addr} {row : List Int} {i j : Int} (z : EvAt c H x r row i j) {p : Addr} {xs : List V} (hp : H p = some (.lst xs)) (hr : r ≠ p) (o : HO) : EvAt c (upd H p o) x r row i j := by
  obtain ⟨⟨dx, fs, e, l⟩, rl⟩ := z
  have n1 : x ≠ p := ne_of e hp (by intro w; cases w)
  exact ⟨⟨dx, fs, by rw [upd_ne n1]; exact e, l⟩, by rw [upd_ne hr]; exact rl⟩
theorem LsAt.get {H : Hp} {os : List Addr} {nss : List (List Int)} (h : LsAt H os nss) {k : Nat} {o : Addr} (ho : os[k]? = some o) : ∃ xs, xs ∈ nss ∧ H o = some (.lst (xs.map V.int)) := by
  have hk : k < nss.length := by rw [← h.1]; exact (List.getElem?_eq_some_iff.mp ho).1
  obtain ⟨xs, hxs⟩ := get_of hk
  exact ⟨xs, List.mem_of_getElem? hxs, h.2 k o xs ho hxs⟩
theorem FrAt.get {H : Hp} {rs : List Addr} {fs : List (Int × Int)} (h : FrAt H rs fs) {k : Nat} {r : Addr} (hr : rs[k]? = some r) : ∃ f, f ∈ fs ∧ H r = some (.tup [.int f.1, .int f.2]) := by
  have hk : k < fs.length := by rw [← h.1]; exact (List.getElem?_eq_some_iff.mp hr).1
  obtain ⟨f, hf⟩ := get_of hk
  exact ⟨f, List.mem_of_getElem? hf, h.2 k r f hr hf⟩
theorem LsAt.nil (H : Hp) : LsAt H [] [] := ⟨rfl, fun i r f e => by simp at e⟩
theorem LsAt.cons {H : Hp} {o : Addr} {xs : List Int} {os : List Addr} {nss : List (List Int)} (h : H o = some (.lst (xs.map V.int))) (t : LsAt H os nss) : LsAt H (o :: os) (xs :: nss) := ⟨by rw [List.length_cons, List.length_cons, t.1], fun i r f e1 e2 => by
  match i, e1, e2 with
  | 0, e1, e2 => cases e1; cases e2; exact h
  | i + 1, e1, e2 => exact t.2 i r f e1 e2⟩
theorem FrAt.cons {H : Hp} {o : Addr} {x : Int × Int} {os : List Addr} {fs : List (Int × Int)} (h : H o = some (.tup [.int x.1, .int x.2])) (t : FrAt H os fs) : FrAt H (o :: os) (x :: fs) := ⟨by rw [List.length_cons, List.length_cons, t.1], fun i r f e1 e2 => by
  match i, e1, e2 with
  | 0, e1, e2 => cases e1; cases e2; exact h
  | i + 1, e1, e2 => exact t.2 i r f e1 e2⟩
theorem SuAt.upd {c : CA} {H : Hp} {x r q : Addr} {row pulls : List Int} (z : SuAt c H x r q row pulls) {p : Addr} {xs : List V} (hp : H p = some (.lst xs)) (hr : r ≠ p) (hq : q ≠ p) (o : HO) : SuAt c (upd H p o) x r q row pulls := by
  obtain ⟨⟨dx, fs, e, l⟩, rl, pl⟩ := z
  have n1 : x ≠ p := ne_of e hp (by intro w; cases w)
  exact ⟨⟨dx, fs, by rw [upd_ne n1]; exact e, l⟩, by rw [upd_ne hr]; exact rl, by rw [upd_ne hq]; exact pl⟩
theorem BaAt.upd {c : CA} {H : Hp} {x l h : Addr} {lows highs : List Int} (z : BaAt c H x l h lows highs) {p : Addr} {xs : List V} (hp : H p = some (.lst xs)) (hr : l ≠ p) (hq : h ≠ p) (o : HO) : BaAt c (upd H p o) x l h lows highs := by
  obtain ⟨⟨dx, fs, e, k⟩, rl, pl⟩ := z
  have n1 : x ≠ p := ne_of e hp (by intro w; cases w)
  exact ⟨⟨dx, fs, by rw [upd_ne n1]; exact e, k⟩, by rw [upd_ne hr]; exact rl, by rw [upd_ne hq]; exact pl⟩
theorem PrAt.nil (H : Hp) : PrAt H [] [] := ⟨rfl, fun i r f e => by simp at e⟩
theorem PrAt.cons {H : Hp} {o a b : Addr} {p : List Int × List Int} {os : List Addr} {prs : List (List Int × List Int)} (h : H o = some (.tup [.ref a, .ref b])) (ha : H a = some (.lst (p.1.map V.int))) (hb : H b = some (.lst (p.2.map V.int))) (t : PrAt H os prs) : PrAt H (o :: os) (p :: prs) := ⟨by rw [List.length_cons, List.length_cons, t.1], fun i r f e1 e2 => by
  match i, e1, e2 with
  | 0, e1, e2 => cases e1; cases e2; exact ⟨a, b, h, ha, hb⟩
  | i + 1, e1, e2 => exact t.2 i r f e1 e2⟩
def UU (ms : List Int) (m : Int) : List Int := (upL ms).map fun x => x - m
def LO (ms : List Int) (m : Int) : List Int := (loL ms).map fun x => x + m
theorem UU_length (ms : List Int) (m : Int) : (UU ms m).length = ms.length := by unfold UU; rw [List.length_map, upL_length]
theorem LO_length (ms : List Int) (m : Int) : (LO ms m).length = ms.length := by unfold LO; rw [List.length_map, loL_length]
def goodB (ms : List Int) (m : Int) : Bool := ((List.range ms.length).map fun j => decide ((UU ms m).getD j 0 ≤ (LO ms m).getD j 0)).all fun b => b
theorem good_iff {ms : List Int} {m : Int} : goodB ms m = true ↔ ∀ j k, j ≤ k → k < ms.length → ms.getD j 0 - ms.getD k 0 ≤ 2 * m := by
  unfold goodB
  rw [all_range]
  have e1 : ∀ i, i < ms.length → (UU ms m).getD i 0 = (upL ms).getD i 0 - m := fun i hi => gd_map (fun x => x - m) (by rw [upL_length]; exact hi)
  have e2 : ∀ i, i < ms.length → (LO ms m).getD i 0 = (loL ms).getD i 0 + m := fun i hi => gd_map (fun x => x + m) (by rw [loL_length]; exact hi)
  constructor
  · intro h j k hjk hk
    have z := of_decide_eq_true (h j (by omega))
    rw [e1 j (by omega), e2 j (by omega)] at z
    have a1 := (up_at (ns := ms) (i := j) (by omega)).2 j (Nat.le_refl _)
    have a2 := (lo_at (ns := ms) (i := j) (by omega)).2 k hjk hk
    omega
  · intro h i hi
    rw [decide_eq_true_iff, e1 i hi, e2 i hi]
    obtain ⟨j, h1, h2⟩ := (up_at (ns := ms) hi).1
    obtain ⟨k, h3, h4, h5⟩ := (lo_at (ns := ms) hi).1
    have := h j k (by omega) h4
    omega
theorem ba_iff {ms lows highs : List Int} {m : Int} : BaP ms lows highs m ↔ (goodB ms m = true ∧ lows = UU ms m ∧ highs = LO ms m) := by
  rw [good_iff]
  exact ⟨fun z => ⟨z.al, z.lo, z.hi⟩, fun ⟨z1, z2, z3⟩ => ⟨z2, z3, z1⟩⟩
theorem rep_zero (n : Nat) : (List.replicate n [V.int 0]).flatten = (List.replicate n (0 : Int)).map V.int := rep_one 0 n
end K1
set_option Elab.async false
set_option linter.all false
set_option maxRecDepth 100000
set_option maxHeartbeats 4000000
namespace K1
open PySem L2 Fr1 Up
theorem runs_q {ns ws : List Int} {tr : List (Int × Int × Int)} {m : Nat} (h : Runs (SA ns ws) (SB ws) tr m) (hw : ∀ w ∈ ws, 1 ≤ w ∧ w ≤ 1000000000) (hm : m ≤ 100) : ∀ f ∈ rowOf tr, f.2 < 2 ^ 40 := fun f hf => by
  obtain ⟨i, t, e, rfl⟩ := mem_rowOf hf
  obtain ⟨lo, _, _, _, hi, g4, g5⟩ := (runs_take h).1 i t e
  have w1 := lowP_le (t := t.1) g5.pos
  have mB := SB_mono (ws := ws) (fun w hw' => (hw w hw').1)
  have z0 : 0 ≤ SB ws lo := mB 0 lo (Nat.zero_le _)
  have z1 := mB hi m g4
  have z2 := SB_le (M := 1000000000) (by decide) (fun w hw' => (hw w hw').2) m
  have ew := g5.w
  omega
theorem FrAt.app {H : Hp} {rs ts : List Addr} {fs gs : List (Int × Int)} (h : FrAt H rs fs) (t : FrAt H ts gs) : FrAt H (rs ++ ts) (fs ++ gs) := by
  refine ⟨by rw [List.length_append, List.length_append, h.1, t.1], fun i r f e1 e2 => ?_⟩
  by_cases hi : i < rs.length
  · rw [List.getElem?_append_left hi] at e1
    rw [List.getElem?_append_left (by rw [← h.1]; exact hi)] at e2
    exact h.2 i r f e1 e2
  · rw [List.getElem?_append_right (by omega)] at e1
    rw [List.getElem?_append_right (by rw [← h.1]; omega), ← h.1] at e2
    exact t.2 _ r f e1 e2
theorem FrAt.rep {H : Hp} {t : Addr} {f : Int × Int} (h : H t = some (.tup [.int f.1, .int f.2])) (n : Nat) : FrAt H (List.replicate n t) (List.replicate n f) := by
  refine ⟨by rw [List.length_replicate, List.length_replicate], fun i r g e1 e2 => ?_⟩
  rw [List.eq_of_mem_replicate (List.mem_of_getElem? e1), List.eq_of_mem_replicate (List.mem_of_getElem? e2)]
  exact h
theorem FrAt.cut {H : Hp} {rs : List Addr} {fs : List (Int × Int)} (h : FrAt H rs fs) (lo hi : Option Int) : ∃ rs' fs', cutV (rs.map V.ref) lo hi = rs'.map V.ref ∧ FrAt H rs' fs' ∧ (∀ f ∈ fs', f ∈ fs) ∧ fs'.length ≤ fs.length := by
  refine ⟨(rs.drop (HT.sIx rs.length 0 lo)).take (HT.sIx rs.length rs.length hi - HT.sIx rs.length 0 lo), (fs.drop (HT.sIx rs.length 0 lo)).take (HT.sIx rs.length rs.length hi - HT.sIx rs.length 0 lo), ?_, ⟨?_, fun i r f e1 e2 => ?_⟩, fun f hf => List.mem_of_mem_drop (List.mem_of_mem_take hf), ?_⟩
  · unfold cutV
    rw [List.length_map, List.map_take, List.map_drop]
  · rw [List.length_take, List.length_take, List.length_drop, List.length_drop, h.1]
  · have hi := (List.getElem?_eq_some_iff.mp e1).1
    rw [List.length_take] at hi
    rw [List.getElem?_take_of_lt (by omega), List.getElem?_drop] at e1 e2
    exact h.2 _ r f e1 e2
  · rw [List.length_take, List.length_drop]; omega
theorem FrAt.upd {H : Hp} {rs : List Addr} {fs : List (Int × Int)} (h : FrAt H rs fs) {p : Addr} {xs : List V} (hp : H p = some (.lst xs)) (o : HO) : FrAt (upd H p o) rs fs := ⟨h.1, fun i r f e1 e2 => by
  have z := h.2 i r f e1 e2
  rw [upd_ne (ne_of z hp (by intro w; cases w))]
  exact z⟩
def RowOk (H : Hp) (o : Addr) : Prop := ∃ rs fs, H o = some (.lst (rs.map V.ref)) ∧ FrAt H rs fs ∧ FOk fs ∧ fs.length ≤ 200
theorem RowOk.same {H H' : Hp} {o : Addr} (h : RowOk H o) (s : Same H H') : RowOk H' o := by
  obtain ⟨rs, fs, h1, h2, h3, h4⟩ := h
  exact ⟨rs, fs, s.at h1, h2.same s, h3, h4⟩
theorem RowOk.upd {H : Hp} {o : Addr} (h : RowOk H o) {p : Addr} {xs : List V} (hp : H p = some (.lst xs)) (ho : o ≠ p) (u : HO) : RowOk (upd H p u) o := by
  obtain ⟨rs, fs, h1, h2, h3, h4⟩ := h
  exact ⟨rs, fs, by rw [upd_ne ho]; exact h1, h2.upd hp u, h3, h4⟩
theorem SqAt.upd {c : CA} {H : Hp} {x r : Addr} {rs : List Addr} {fs : List (Int × Int)} (z : SqAt c H x r rs fs) {p : Addr} {xs : List V} (hp : H p = some (.lst xs)) (hr : r ≠ p) (o : HO) : SqAt c (upd H p o) x r rs fs := by
  obtain ⟨⟨dx, fs', e, k⟩, rl, fr⟩ := z
  have n1 : x ≠ p := ne_of e hp (by intro w; cases w)
  exact ⟨⟨dx, fs', by rw [upd_ne n1]; exact e, k⟩, by rw [upd_ne hr]; exact rl, fr.upd hp o⟩
theorem atI_end {xs : List V} (h : 0 < xs.length) : ∃ v, atI xs (-1) = some v ∧ v ∈ xs := by
  rcases List.eq_nil_or_concat xs with e | ⟨ys, v, e⟩
  · rw [e] at h; simp at h
  · rw [List.concat_eq_append] at e
    subst e
    exact ⟨v, atI_last _ _, by simp⟩
theorem fok_sum {a0 a1 c0 c1 : Int} (h1 : 1 ≤ a1) (h2 : a1 < 2 ^ 40) (h3 : 1 ≤ c1) (h4 : c1 ≤ 4) : 1 ≤ (lowP (a0 * c1 + c0 * a1) (a1 * c1)).2 ∧ (lowP (a0 * c1 + c0 * a1) (a1 * c1)).2 < 2 ^ 60 ∧ Int.gcd (lowP (a0 * c1 + c0 * a1) (a1 * c1)).1 (lowP (a0 * c1 + c0 * a1) (a1 * c1)).2 = 1 := by
  have hb : 0 < a1 * c1 := Int.mul_pos (by omega) (by omega)
  have p1 := lowP_pos (t := a0 * c1 + c0 * a1) hb
  have p2 := lowP_le (t := a0 * c1 + c0 * a1) hb
  have p3 : a1 * c1 ≤ 2 ^ 40 * 4 := Int.mul_le_mul (by omega) h4 (by omega) (by decide)
  exact ⟨by omega, by omega, lowP_gcd hb⟩
theorem sum_le {M : Int} (h0 : 0 ≤ M) : ∀ (ws : List Int), (∀ w ∈ ws, 1 ≤ w ∧ w ≤ M) → 0 ≤ ws.sum ∧ ws.sum ≤ (ws.length : Int) * M
  | [], _ => by simp
  | x :: xs, h => by
    have ih := sum_le h0 xs fun w hw => h w (List.mem_cons_of_mem _ hw)
    have hx := h x List.mem_cons_self
    rw [List.sum_cons, List.length_cons]
    have e : (((xs.length + 1 : Nat)) : Int) * M = (xs.length : Int) * M + M := by rw [show ((xs.length + 1 : Nat) : Int) = (xs.length : Int) + 1 by omega, Int.add_mul, Int.one_mul]
    rw [e]
    omega
structure RowsAt (H : Hp) (w : Addr) (os : List Addr) : Prop where
  rl : H w = some (.lst (os.map V.ref))
  ok : ∀ o ∈ os, o ≠ w ∧ RowOk H o
theorem RowsAt.same {H H' : Hp} {w : Addr} {os : List Addr} (h : RowsAt H w os) (s : Same H H') : RowsAt H' w os := ⟨s.at h.rl, fun o ho => ⟨(h.ok o ho).1, (h.ok o ho).2.same s⟩⟩
theorem RowsAt.app {H : Hp} {w D : Addr} {os : List Addr} (h : RowsAt H w os) (hD : D ≠ w) (k : RowOk H D) : RowsAt (upd H w (.lst (os.map V.ref ++ [.ref D]))) w (os ++ [D]) := by
  refine ⟨by rw [upd_same, List.map_append]; rfl, fun o ho => ?_⟩
  rcases List.mem_append.mp ho with z | z
  · exact ⟨(h.ok o z).1, (h.ok o z).2.upd h.rl (h.ok o z).1 _⟩
  · rw [List.mem_singleton.mp z]; exact ⟨hD, k.upd h.rl hD _⟩
theorem FOk.snoc {fs : List (Int × Int)} {f : Int × Int} (h : FOk fs) (k : 1 ≤ f.2 ∧ f.2 < 2 ^ 60 ∧ Int.gcd f.1 f.2 = 1) : FOk (fs ++ [f]) := fun g hg => by
  rcases List.mem_append.mp hg with z | z
  · exact h g z
  · rw [List.mem_singleton.mp z]; exact k
theorem FOk.nil : FOk [] := fun f hf => (nomatch hf)
end K1
set_option Elab.async false
set_option linter.all false
set_option maxRecDepth 100000
set_option maxHeartbeats 4000000
namespace K1
open PySem L2 Fr1 Up
theorem su1 : ¬ SuP [0, 0] [1, 1] [0, 0] [-1, 1] := fun z => by have := z.2.2.nn 1 (by decide); revert this; decide
theorem su2 : ¬ SuP [0, 0] [1, 1] [0, 0] [5, -5] := fun z => by have := (z.2.2.bd 0 (by decide)).2; revert this; decide
theorem su3 : SuP [0, 0] [1, 1] [0, 0] [1, -1] := by
  refine ⟨rfl, rfl, fun i hi => ?_, fun i hi => ?_, fun k hk => ?_, by decide, by decide⟩
  · have : i = 0 := by have : i + 1 < 2 := hi; omega
    subst this; decide
  · have : i = 0 ∨ i = 1 := by have : i < 2 := hi; omega
    rcases this with rfl | rfl <;> decide
  · have : k = 0 ∨ k = 1 ∨ k = 2 := by have : k ≤ 2 := hk; omega
    rcases this with rfl | rfl | rfl <;> decide
theorem su4 : ¬ SuP [0, 0] [1, 1] [0, 1] [0, 0] := fun z => by have := z.2.2.cost; revert this; decide
theorem su5 : ¬ SuP [0] [1] [0] [1] := fun z => by have := z.2.2.all; revert this; decide
theorem sq1 : ¬ SqP [0, 2] [1, 1] [(1, 1), (1, 1)] := fun z => by have := z.nn 1 (by decide); revert this; decide
theorem sq2 : SqP [0, 2] [1, 1] [(0, 1), (2, 1)] := by
  refine ⟨rfl, fun i hi => ?_, fun k hk => ?_, by decide, fun i hi _ => ?_⟩
  · have : i = 0 := by have : i + 1 < 2 := hi; omega
    subst this; decide
  · have : k = 0 ∨ k = 1 ∨ k = 2 := by have : k ≤ 2 := hk; omega
    rcases this with rfl | rfl | rfl <;> decide
  · have : i = 0 := by have : i + 1 < 2 := hi; omega
    subst this; decide
theorem sq3 : ¬ SqP [0, 2] [1, 1] [(-1, 1), (3, 1)] := fun z => by have := z.ch 0 (by decide) (by decide); revert this; decide
theorem sq4 : ¬ SqP [0, 2] [1, 1] [(2, 1), (0, 1)] := fun z => by have := z.ris 0 (by decide); revert this; decide
theorem sq5 : ¬ SqP [2, 0] [1, 1] [(2, 1), (0, 1)] := fun z => by have := z.ris 0 (by decide); revert this; decide
theorem wok2 : WOk [1, 1] := fun w hw => by
  simp only [List.mem_cons, List.not_mem_nil, or_false, or_self] at hw
  rw [hw]; exact ⟨by decide, by decide⟩
theorem wok1 : WOk [1] := fun w hw => by
  rw [List.mem_singleton.mp hw]; exact ⟨by decide, by decide⟩
theorem fok2 (x y : Int) : FOk [(x, 1), (y, 1)] := fun f hf => by
  simp only [List.mem_cons, List.not_mem_nil, or_false] at hf
  rcases hf with rfl | rfl
  · exact ⟨by show (1 : Int) ≤ 1; decide, by show (1 : Int) < 2 ^ 60; decide, Int.gcd_one_right _⟩
  · exact ⟨by show (1 : Int) ≤ 1; decide, by show (1 : Int) < 2 ^ 60; decide, Int.gcd_one_right _⟩
def TriOk (H : Hp) (t : Addr) : Prop := ∃ (la lb : Addr) (row pulls : List Int) (due : Bool), H t = some (.tup [.ref la, .ref lb, .bl due]) ∧ H la = some (.lst (row.map V.int)) ∧ H lb = some (.lst (pulls.map V.int)) ∧ row.length ≤ 2 ∧ pulls.length ≤ 2 ∧ (due = true ↔ SuP [0, 0] [1, 1] row pulls)
theorem TriOk.same {H H' : Hp} {t : Addr} (h : TriOk H t) (s : Same H H') : TriOk H' t := by
  obtain ⟨la, lb, row, pulls, due, h1, h2, h3, h4⟩ := h
  exact ⟨la, lb, row, pulls, due, s.at h1, s.at h2, s.at h3, h4⟩
def DuoOk (H : Hp) (t : Addr) : Prop := ∃ (la : Addr) (rs : List Addr) (fs : List (Int × Int)) (due : Bool), H t = some (.tup [.ref la, .bl due]) ∧ H la = some (.lst (rs.map V.ref)) ∧ FrAt H rs fs ∧ FOk fs ∧ fs.length ≤ 2 ∧ (due = true ↔ SqP [0, 2] [1, 1] fs)
theorem DuoOk.same {H H' : Hp} {t : Addr} (h : DuoOk H t) (s : Same H H') : DuoOk H' t := by
  obtain ⟨la, rs, fs, due, h1, h2, h3, h4⟩ := h
  exact ⟨la, rs, fs, due, s.at h1, s.at h2, h3.same s, h4⟩
end K1
set_option Elab.async false
set_option linter.all false
set_option maxRecDepth 100000
set_option maxHeartbeats 8000000
namespace K1
open PySem L2 Fr1 Up
def top (i : Nat) : Stmt := PySem.Challenge.pw_uprow_k07_answers_by_hand.main.body.getD i (.Pass ⟨0, 0, 0, 0⟩)
abbrev s_common_divisor : Stmt := top 6
theorem sc_common_divisor : FnScope ["one", "other", "divisor", "rest", "left"] ["one", "other"] (defScope s_common_divisor) := ⟨rfl, rfl, rfl, by decide +kernel, rfl, by decide +kernel, by decide +kernel⟩
abbrev s_lowest : Stmt := top 7
theorem sc_lowest : FnScope ["top", "bottom", "divisor"] ["top", "bottom"] (defScope s_lowest) := ⟨rfl, rfl, rfl, by decide +kernel, rfl, by decide +kernel, by decide +kernel⟩
abbrev s_is_less : Stmt := top 8
theorem sc_is_less : FnScope ["one", "other"] ["one", "other"] (defScope s_is_less) := ⟨rfl, rfl, rfl, by decide +kernel, rfl, by decide +kernel, by decide +kernel⟩
abbrev s_is_whole : Stmt := top 10
theorem sc_is_whole : FnScope ["value"] ["value"] (defScope s_is_whole) := ⟨rfl, rfl, rfl, by decide +kernel, rfl, by decide +kernel, by decide +kernel⟩
abbrev s_is_fraction : Stmt := top 11
theorem sc_is_fraction : FnScope ["value"] ["value"] (defScope s_is_fraction) := ⟨rfl, rfl, rfl, by decide +kernel, rfl, by decide +kernel, by decide +kernel⟩
abbrev s_is_list_of_wholes : Stmt := top 12
theorem sc_is_list_of_wholes : FnScope ["values"] ["values"] (defScope s_is_list_of_wholes) := ⟨rfl, rfl, rfl, by decide +kernel, rfl, by decide +kernel, by decide +kernel⟩
abbrev s_is_list_of_fractions : Stmt := top 13
theorem sc_is_list_of_fractions : FnScope ["values"] ["values"] (defScope s_is_list_of_fractions) := ⟨rfl, rfl, rfl, by decide +kernel, rfl, by decide +kernel, by decide +kernel⟩
abbrev s_is_whole_row : Stmt := top 14
theorem sc_is_whole_row : FnScope ["numbers", "row"] ["numbers", "row"] (defScope s_is_whole_row) := ⟨rfl, rfl, rfl, by decide +kernel, rfl, by decide +kernel, by decide +kernel⟩
abbrev s_is_fraction_row : Stmt := top 15
theorem sc_is_fraction_row : FnScope ["numbers", "row"] ["numbers", "row"] (defScope s_is_fraction_row) := ⟨rfl, rfl, rfl, by decide +kernel, rfl, by decide +kernel, by decide +kernel⟩
abbrev s_are_weights : Stmt := top 16
theorem sc_are_weights : FnScope ["numbers", "weights"] ["numbers", "weights"] (defScope s_are_weights) := ⟨rfl, rfl, rfl, by decide +kernel, rfl, by decide +kernel, by decide +kernel⟩
abbrev s_is_most : Stmt := top 17
theorem sc_is_most : FnScope ["most"] ["most"] (defScope s_is_most) := ⟨rfl, rfl, rfl, by decide +kernel, rfl, by decide +kernel, by decide +kernel⟩
abbrev s_check_numbers : Stmt := top 18
theorem sc_check_numbers : FnScope ["numbers"] ["numbers"] (defScope s_check_numbers) := ⟨rfl, rfl, rfl, by decide +kernel, rfl, by decide +kernel, by decide +kernel⟩
abbrev s_check_whole_row : Stmt := top 19
theorem sc_check_whole_row : FnScope ["numbers", "row"] ["numbers", "row"] (defScope s_check_whole_row) := ⟨rfl, rfl, rfl, by decide +kernel, rfl, by decide +kernel, by decide +kernel⟩
abbrev s_check_weights : Stmt := top 20
theorem sc_check_weights : FnScope ["numbers", "weights"] ["numbers", "weights"] (defScope s_check_weights) := ⟨rfl, rfl, rfl, by decide +kernel, rfl, by decide +kernel, by decide +kernel⟩
abbrev s_differences : Stmt := top 22
theorem sc_differences : FnScope ["numbers", "row"] ["numbers", "row"] (defScope s_differences) := ⟨rfl, rfl, rfl, by decide +kernel, rfl, by decide +kernel, by decide +kernel⟩
abbrev s_greatest : Stmt := top 23
theorem sc_greatest : FnScope ["numbers", "row"] ["numbers", "row"] (defScope s_greatest) := ⟨rfl, rfl, rfl, by decide +kernel, rfl, by decide +kernel, by decide +kernel⟩
abbrev s_summed_up : Stmt := top 24
theorem sc_summed_up : FnScope ["numbers", "row", "weights"] ["numbers", "row", "weights"] (defScope s_summed_up) := ⟨rfl, rfl, rfl, by decide +kernel, rfl, by decide +kernel, by decide +kernel⟩
abbrev s_rises : Stmt := top 26
theorem sc_rises : FnScope ["row"] ["row"] (defScope s_rises) := ⟨rfl, rfl, rfl, by decide +kernel, rfl, by decide +kernel, by decide +kernel⟩
abbrev s_fractions_rise : Stmt := top 27
theorem sc_fractions_rise : FnScope ["row"] ["row"] (defScope s_fractions_rise) := ⟨rfl, rfl, rfl, by decide +kernel, rfl, by decide +kernel, by decide +kernel⟩
abbrev s_upper_row : Stmt := top 28
theorem sc_upper_row : FnScope ["numbers", "row", "number"] ["numbers"] (defScope s_upper_row) := ⟨rfl, rfl, rfl, by decide +kernel, rfl, by decide +kernel, by decide +kernel⟩
abbrev s_lower_row : Stmt := top 29
theorem sc_lower_row : FnScope ["numbers", "row", "number"] ["numbers"] (defScope s_lower_row) := ⟨rfl, rfl, rfl, by decide +kernel, rfl, by decide +kernel, by decide +kernel⟩
abbrev s_deepest_fall : Stmt := top 30
theorem sc_deepest_fall : FnScope ["numbers", "deepest", "top", "place", "number", "depth"] ["numbers"] (defScope s_deepest_fall) := ⟨rfl, rfl, rfl, by decide +kernel, rfl, by decide +kernel, by decide +kernel⟩
abbrev s_least_stands : Stmt := top 31
theorem sc_least_stands : FnScope ["numbers", "most"] ["numbers", "most"] (defScope s_least_stands) := ⟨rfl, rfl, rfl, by decide +kernel, rfl, by decide +kernel, by decide +kernel⟩
abbrev s_greatest_stands : Stmt := top 32
theorem sc_greatest_stands : FnScope ["numbers", "most"] ["numbers", "most"] (defScope s_greatest_stands) := ⟨rfl, rfl, rfl, by decide +kernel, rfl, by decide +kernel, by decide +kernel⟩
abbrev s_is_rising_whole_row : Stmt := top 34
theorem sc_is_rising_whole_row : FnScope ["numbers", "row"] ["numbers", "row"] (defScope s_is_rising_whole_row) := ⟨rfl, rfl, rfl, by decide +kernel, rfl, by decide +kernel, by decide +kernel⟩
abbrev s_are_places : Stmt := top 35
theorem sc_are_places : FnScope ["numbers", "first", "second", "last"] ["numbers", "first", "second"] (defScope s_are_places) := ⟨rfl, rfl, rfl, by decide +kernel, rfl, by decide +kernel, by decide +kernel⟩
abbrev s_fall_between : Stmt := top 36
theorem sc_fall_between : FnScope ["numbers", "first", "second"] ["numbers", "first", "second"] (defScope s_fall_between) := ⟨rfl, rfl, rfl, by decide +kernel, rfl, by decide +kernel, by decide +kernel⟩
abbrev s_sums_show : Stmt := top 37
theorem sc_sums_show : FnScope ["pulls", "total", "pull"] ["pulls"] (defScope s_sums_show) := ⟨rfl, rfl, rfl, by decide +kernel, rfl, by decide +kernel, by decide +kernel⟩
abbrev s_within_weights : Stmt := top 38
theorem sc_within_weights : FnScope ["pulls", "weights"] ["pulls", "weights"] (defScope s_within_weights) := ⟨rfl, rfl, rfl, by decide +kernel, rfl, by decide +kernel, by decide +kernel⟩
abbrev s_lacks_show : Stmt := top 39
theorem sc_lacks_show : FnScope ["numbers", "row", "weights", "total", "place", "number", "stand"] ["numbers", "row", "weights"] (defScope s_lacks_show) := ⟨rfl, rfl, rfl, by decide +kernel, rfl, by decide +kernel, by decide +kernel⟩
abbrev s_Evened___init__ : Stmt := inClass (top 41) 0
theorem sc_Evened___init__ : FnScope ["self", "row", "first", "second"] ["self", "row", "first", "second"] (defScope s_Evened___init__) := ⟨rfl, rfl, rfl, by decide +kernel, rfl, by decide +kernel, by decide +kernel⟩
abbrev s_Evened_shows : Stmt := inClass (top 41) 1
theorem sc_Evened_shows : FnScope ["self", "numbers"] ["self", "numbers"] (defScope s_Evened_shows) := ⟨rfl, rfl, rfl, by decide +kernel, rfl, by decide +kernel, by decide +kernel⟩
abbrev s_Summed___init__ : Stmt := inClass (top 42) 0
theorem sc_Summed___init__ : FnScope ["self", "row", "pulls"] ["self", "row", "pulls"] (defScope s_Summed___init__) := ⟨rfl, rfl, rfl, by decide +kernel, rfl, by decide +kernel, by decide +kernel⟩
abbrev s_Summed_shows : Stmt := inClass (top 42) 1
theorem sc_Summed_shows : FnScope ["self", "numbers", "weights", "pulled"] ["self", "numbers", "weights"] (defScope s_Summed_shows) := ⟨rfl, rfl, rfl, by decide +kernel, rfl, by decide +kernel, by decide +kernel⟩
abbrev s_Squared___init__ : Stmt := inClass (top 43) 0
theorem sc_Squared___init__ : FnScope ["self", "row"] ["self", "row"] (defScope s_Squared___init__) := ⟨rfl, rfl, rfl, by decide +kernel, rfl, by decide +kernel, by decide +kernel⟩
abbrev s_Squared_shows : Stmt := inClass (top 43) 1
theorem sc_Squared_shows : FnScope ["self", "numbers", "weights"] ["self", "numbers", "weights"] (defScope s_Squared_shows) := ⟨rfl, rfl, rfl, by decide +kernel, rfl, by decide +kernel, by decide +kernel⟩
abbrev s_Band___init__ : Stmt := inClass (top 44) 0
theorem sc_Band___init__ : FnScope ["self", "lows", "highs"] ["self", "lows", "highs"] (defScope s_Band___init__) := ⟨rfl, rfl, rfl, by decide +kernel, rfl, by decide +kernel, by decide +kernel⟩
abbrev s_Band_shows : Stmt := inClass (top 44) 1
theorem sc_Band_shows : FnScope ["self", "numbers", "most"] ["self", "numbers", "most"] (defScope s_Band_shows) := ⟨rfl, rfl, rfl, by decide +kernel, rfl, by decide +kernel, by decide +kernel⟩
abbrev s_Barred___init__ : Stmt := inClass (top 45) 0
theorem sc_Barred___init__ : FnScope ["self", "first", "second"] ["self", "first", "second"] (defScope s_Barred___init__) := ⟨rfl, rfl, rfl, by decide +kernel, rfl, by decide +kernel, by decide +kernel⟩
abbrev s_Barred_shows : Stmt := inClass (top 45) 1
theorem sc_Barred_shows : FnScope ["self", "numbers", "most"] ["self", "numbers", "most"] (defScope s_Barred_shows) := ⟨rfl, rfl, rfl, by decide +kernel, rfl, by decide +kernel, by decide +kernel⟩
abbrev s_upper : Stmt := top 47
theorem sc_upper : FnScope ["numbers"] ["numbers"] (defScope s_upper) := ⟨rfl, rfl, rfl, by decide +kernel, rfl, by decide +kernel, by decide +kernel⟩
abbrev s_lower : Stmt := top 48
theorem sc_lower : FnScope ["numbers"] ["numbers"] (defScope s_lower) := ⟨rfl, rfl, rfl, by decide +kernel, rfl, by decide +kernel, by decide +kernel⟩
abbrev s_put_in : Stmt := top 50
theorem sc_put_in : FnScope ["heap", "value", "share", "place"] ["heap", "value", "share"] (defScope s_put_in) := ⟨rfl, rfl, rfl, by decide +kernel, rfl, by decide +kernel, by decide +kernel⟩
abbrev s_greater_below : Stmt := top 51
theorem sc_greater_below : FnScope ["heap", "place", "left"] ["heap", "place"] (defScope s_greater_below) := ⟨rfl, rfl, rfl, by decide +kernel, rfl, by decide +kernel, by decide +kernel⟩
abbrev s_take_top : Stmt := top 52
theorem sc_take_top : FnScope ["heap", "last", "place", "below"] ["heap"] (defScope s_take_top) := ⟨rfl, rfl, rfl, by decide +kernel, rfl, by decide +kernel, by decide +kernel⟩
abbrev s_take_shares : Stmt := top 53
theorem sc_take_shares : FnScope ["heap", "amount", "left"] ["heap", "amount"] (defScope s_take_shares) := ⟨rfl, rfl, rfl, by decide +kernel, rfl, by decide +kernel, by decide +kernel⟩
abbrev s_evened : Stmt := top 55
theorem sc_evened : FnScope ["numbers", "fall", "cost"] ["numbers"] (defScope s_evened) := ⟨rfl, rfl, rfl, by decide +kernel, rfl, by decide +kernel, by decide +kernel⟩
abbrev s_cheapest_ends : Stmt := top 56
theorem sc_cheapest_ends : FnScope ["numbers", "weights", "heap", "ends", "number", "weight"] ["numbers", "weights"] (defScope s_cheapest_ends) := ⟨rfl, rfl, rfl, by decide +kernel, rfl, by decide +kernel, by decide +kernel⟩
abbrev s_greatest_pull : Stmt := top 57
theorem sc_greatest_pull : FnScope ["number", "stand", "weight"] ["number", "stand", "weight"] (defScope s_greatest_pull) := ⟨rfl, rfl, rfl, by decide +kernel, rfl, by decide +kernel, by decide +kernel⟩
abbrev s_least_pull : Stmt := top 58
theorem sc_least_pull : FnScope ["number", "stand", "weight"] ["number", "stand", "weight"] (defScope s_least_pull) := ⟨rfl, rfl, rfl, by decide +kernel, rfl, by decide +kernel, by decide +kernel⟩
abbrev s_sums_from_ahead : Stmt := top 59
theorem sc_sums_from_ahead : FnScope ["numbers", "row", "weights", "sums", "total", "place", "stand"] ["numbers", "row", "weights"] (defScope s_sums_from_ahead) := ⟨rfl, rfl, rfl, by decide +kernel, rfl, by decide +kernel, by decide +kernel⟩
abbrev s_sums_from_behind : Stmt := top 60
theorem sc_sums_from_behind : FnScope ["numbers", "row", "weights", "sums", "total", "place"] ["numbers", "row", "weights"] (defScope s_sums_from_behind) := ⟨rfl, rfl, rfl, by decide +kernel, rfl, by decide +kernel, by decide +kernel⟩
abbrev s_pulls_of : Stmt := top 61
theorem sc_pulls_of : FnScope ["numbers", "row", "weights", "pulls", "reached", "ahead", "behind", "one", "other"] ["numbers", "row", "weights"] (defScope s_pulls_of) := ⟨rfl, rfl, rfl, by decide +kernel, rfl, by decide +kernel, by decide +kernel⟩
abbrev s_summed : Stmt := top 62
theorem sc_summed : FnScope ["numbers", "weights", "row"] ["numbers", "weights"] (defScope s_summed) := ⟨rfl, rfl, rfl, by decide +kernel, rfl, by decide +kernel, by decide +kernel⟩
abbrev s_joined : Stmt := top 63
theorem sc_joined : FnScope ["one", "other"] ["one", "other"] (defScope s_joined) := ⟨rfl, rfl, rfl, by decide +kernel, rfl, by decide +kernel, by decide +kernel⟩
abbrev s_level_runs : Stmt := top 64
theorem sc_level_runs : FnScope ["numbers", "weights", "runs", "number", "weight", "run"] ["numbers", "weights"] (defScope s_level_runs) := ⟨rfl, rfl, rfl, by decide +kernel, rfl, by decide +kernel, by decide +kernel⟩
abbrev s_squared : Stmt := top 65
theorem sc_squared : FnScope ["numbers", "weights", "row", "run"] ["numbers", "weights"] (defScope s_squared) := ⟨rfl, rfl, rfl, by decide +kernel, rfl, by decide +kernel, by decide +kernel⟩
abbrev s__law_numbers : Stmt := top 67
theorem sc__law_numbers : FnScope ["_law_script", "_law_most", "_law_numbers_here"] ["_law_script"] (defScope s__law_numbers) := ⟨rfl, rfl, rfl, by decide +kernel, rfl, by decide +kernel, by decide +kernel⟩
abbrev s__law_weights : Stmt := top 68
theorem sc__law_weights : FnScope ["_law_script", "_law_kind", "_law_rests"] ["_law_script"] (defScope s__law_weights) := ⟨rfl, rfl, rfl, by decide +kernel, rfl, by decide +kernel, by decide +kernel⟩
abbrev s__law_rises : Stmt := top 69
theorem sc__law_rises : FnScope ["_law_row"] ["_law_row"] (defScope s__law_rises) := ⟨rfl, rfl, rfl, by decide +kernel, rfl, by decide +kernel, by decide +kernel⟩
abbrev s__law_common : Stmt := top 70
theorem sc__law_common : FnScope ["_law_one", "_law_other"] ["_law_one", "_law_other"] (defScope s__law_common) := ⟨rfl, rfl, rfl, by decide +kernel, rfl, by decide +kernel, by decide +kernel⟩
abbrev s__law_low : Stmt := top 71
theorem sc__law_low : FnScope ["_law_above", "_law_below", "_law_far"] ["_law_above", "_law_below"] (defScope s__law_low) := ⟨rfl, rfl, rfl, by decide +kernel, rfl, by decide +kernel, by decide +kernel⟩
abbrev s__law_sum : Stmt := top 72
theorem sc__law_sum : FnScope ["_law_one", "_law_other"] ["_law_one", "_law_other"] (defScope s__law_sum) := ⟨rfl, rfl, rfl, by decide +kernel, rfl, by decide +kernel, by decide +kernel⟩
abbrev s__law_even : Stmt := top 73
theorem sc__law_even : FnScope ["_law_numbers_here", "_law_row", "_law_first", "_law_second", "_law_cost"] ["_law_numbers_here", "_law_row", "_law_first", "_law_second"] (defScope s__law_even) := ⟨rfl, rfl, rfl, by decide +kernel, rfl, by decide +kernel, by decide +kernel⟩
abbrev s__law_summed : Stmt := top 74
theorem sc__law_summed : FnScope ["_law_numbers_here", "_law_weights_here", "_law_row", "_law_pulls", "_law_total", "_law_told", "_law_cost", "_law_at"] ["_law_numbers_here", "_law_weights_here", "_law_row", "_law_pulls"] (defScope s__law_summed) := ⟨rfl, rfl, rfl, by decide +kernel, rfl, by decide +kernel, by decide +kernel⟩
abbrev s__law_squared : Stmt := top 75
theorem sc__law_squared : FnScope ["_law_numbers_here", "_law_weights_here", "_law_row", "_law_total", "_law_at", "_law_above", "_law_below"] ["_law_numbers_here", "_law_weights_here", "_law_row"] (defScope s__law_squared) := ⟨rfl, rfl, rfl, by decide +kernel, rfl, by decide +kernel, by decide +kernel⟩
abbrev s__law_says : Stmt := top 76
theorem sc__law_says : FnScope ["_law_said", "_law_due"] ["_law_said", "_law_due"] (defScope s__law_says) := ⟨rfl, rfl, rfl, by decide +kernel, rfl, by decide +kernel, by decide +kernel⟩
abbrev s__law_bent : Stmt := top 77
theorem sc__law_bent : FnScope ["_law_row", "_law_script", "_law_found", "_law_cell", "_law_at"] ["_law_row", "_law_script"] (defScope s__law_bent) := ⟨rfl, rfl, rfl, by decide +kernel, rfl, by decide +kernel, by decide +kernel⟩
abbrev s__law_evens_right : Stmt := top 78
theorem sc__law_evens_right : FnScope ["_law_numbers_here", "_law_script", "_law_told", "_law_rows", "_law_row", "_law_first", "_law_second", "_law_handed", "_law_answer", "_law_due"] ["_law_numbers_here", "_law_script"] (defScope s__law_evens_right) := ⟨rfl, rfl, rfl, by decide +kernel, rfl, by decide +kernel, by decide +kernel⟩
abbrev s__law_sums_right : Stmt := top 79
theorem sc__law_sums_right : FnScope ["_law_numbers_here", "_law_weights_here", "_law_script", "_law_told", "_law_many", "_law_row", "_law_pulls", "_law_handed", "_law_answer"] ["_law_numbers_here", "_law_weights_here", "_law_script"] (defScope s__law_sums_right) := ⟨rfl, rfl, rfl, by decide +kernel, rfl, by decide +kernel, by decide +kernel⟩
abbrev s__law_squares_right : Stmt := top 80
theorem sc__law_squares_right : FnScope ["_law_numbers_here", "_law_weights_here", "_law_script", "_law_told", "_law_rows", "_law_total", "_law_ends", "_law_row", "_law_handed", "_law_answer", "_law_due"] ["_law_numbers_here", "_law_weights_here", "_law_script"] (defScope s__law_squares_right) := ⟨rfl, rfl, rfl, by decide +kernel, rfl, by decide +kernel, by decide +kernel⟩
abbrev s__law_bands_right : Stmt := top 81
theorem sc__law_bands_right : FnScope ["_law_numbers_here", "_law_script", "_law_most", "_law_highs", "_law_lows", "_law_good", "_law_bent_here", "_law_mine", "_law_theirs", "_law_handed", "_law_answer", "_law_cell", "_law_first", "_law_second", "_law_due"] ["_law_numbers_here", "_law_script"] (defScope s__law_bands_right) := ⟨rfl, rfl, rfl, by decide +kernel, rfl, by decide +kernel, by decide +kernel⟩
abbrev s__law_few_right : Stmt := top 82
theorem sc__law_few_right : FnScope ["_law_some", "_law_row", "_law_pulls", "_law_due"] [] (defScope s__law_few_right) := ⟨rfl, rfl, rfl, by decide +kernel, rfl, by decide +kernel, by decide +kernel⟩
abbrev s_law : Stmt := top 83
theorem sc_law : FnScope ["_law_script", "_law_numbers_here", "_law_weights_here"] ["_law_script"] (defScope s_law) := ⟨rfl, rfl, rfl, by decide +kernel, rfl, by decide +kernel, by decide +kernel⟩
section
seal L2.PE L2.PA L2.PT L2.PW L2.PS L2.PSs L2.PI L2.PG
variable {P : Program} {w : World} {K : PySem.W.Frag} {mg : Str → Option Value} {base : Heap} {f : Addr} {fd : FuncData} {c : CA}
theorem ok_common_divisor (M : Bn mg) (F : Fun K "common_divisor" "common_divisor" s_common_divisor f fd) : FnOk P w K mg base CX0 1 f fd ["one", "other"] spGcd := by
  refine F.ok sc_common_divisor (fun vs H Q E h => ?_) (fun cdv A outer s H vs Q E hr h => ?_)
  · obtain ⟨a, b, rfl, _⟩ := h; rfl
  obtain ⟨a, b, rfl, q⟩ := h
  refine ⟨_, (pss_cons (ps_set (i := 2) sc_common_divisor.nd rfl (Or.inl rfl) (pe_callB call_abs rfl M.abs' boot_absB (pa_cons (pv 0) pa_nil)))
      (pss_cons (ps_set (i := 3) sc_common_divisor.nd rfl (Or.inl rfl) (pe_callB call_abs rfl M.abs' boot_absB (pa_cons (pv 1) pa_nil)))
      (pss_cons (ps_while PassesOwn.never (pt_cmpR op_ne (pv 3) pe_int (nomark _)) (pss_cons (ps_set (i := 4) sc_common_divisor.nd rfl (Or.inl rfl) (pe_op op_mod (pv 2) (pv 3)))
      (pss_cons (ps_set (i := 2) sc_common_divisor.nd rfl (Or.inl rfl) (pv 3))
      (pss_one (ps_set (i := 3) sc_common_divisor.nd rfl (Or.inl rfl) (pv 4))))))
      (pss_one (ps_ret (pv 2)))))), ?_⟩
  refine ⟨_, rfl, a, rfl, ?_⟩
  refine ⟨_, rfl, b, rfl, ?_⟩
  refine while_by (fun σ H' => H' = H ∧ ∃ d r x, σ = [some (.int a), some (.int b), some (.int d), some (.int r), x] ∧ 0 ≤ d ∧ 0 ≤ r ∧ Int.gcd d r = Int.gcd a b)
    (fun σ _ => match σ with | [_, _, _, some (.int r), _] => r.toNat | _ => 0) ⟨rfl, _, _, _, rfl, ?_, ?_, gcd_abs a b⟩ ?_ (fun σ H Q Q' h ⟨v, e1, e2, k, e3, q⟩ => ⟨v, e1, e2, k, e3, h _ _ q⟩)
  · split <;> omega
  · split <;> omega
  rintro σ H' ⟨rfl, d, r, x, rfl, hd, hr0, hg⟩
  refine ⟨_, rfl, rfl, _, rfl, ?_⟩
  by_cases h : r = 0
  · subst h
    refine iteNS rfl ?_
    refine ⟨_, rfl, ?_⟩
    have e : (Int.gcd a b : Int) = d := by rw [← hg]; exact gcd_zero_nn hd
    rw [e] at q
    exact q
  · have hc : ¬ (V.int r = V.int 0) := fun z => h (by injection z)
    rw [decide_eq_false hc]
    refine iteT ?_
    refine ⟨_, rfl, _, rfl, _, _, rfl, rfl, (by omega), ?_⟩
    refine ⟨_, rfl, ?_⟩
    refine ⟨_, rfl, ?_⟩
    have h1 := Int.emod_nonneg d h
    have h2 := Int.emod_lt_of_pos d (show 0 < r by omega)
    refine ⟨⟨rfl, r, d % r, _, rfl, hr0, h1, ?_⟩, ?_⟩
    · rw [gcd_turn]; exact hg
    · show (d % r).toNat < r.toNat
      omega
theorem ok__law_common (M : Bn mg) (F : Fun K "_law_common" "_law_common" s__law_common f fd) : FnOk P w K mg base CX0 1 f fd ["_law_one", "_law_other"] spGcd := by
  refine F.ok sc__law_common (fun vs H Q E h => ?_) (fun cdv A outer s H vs Q E hr h => ?_)
  · obtain ⟨a, b, rfl, _⟩ := h; rfl
  obtain ⟨a, b, rfl, q⟩ := h
  refine ⟨_, (pss_cons (ps_par (i := 0) (j := 1) rfl sc__law_common.nd rfl rfl (by decide) rfl rfl (pa_cons (pe_callB call_abs rfl M.abs' boot_absB (pa_cons (pv 0) pa_nil)) (pa_cons (pe_callB call_abs rfl M.abs' boot_absB (pa_cons (pv 1) pa_nil)) pa_nil)) rfl)
      (pss_cons (ps_while PassesOwn.never (pt_cmpR op_gt (pv 1) pe_int (nomark _)) (pss_one (ps_par (i := 0) (j := 1) rfl sc__law_common.nd rfl rfl (by decide) rfl rfl (pa_cons (pv 1) (pa_cons (pe_op op_mod (pv 0) (pv 1)) pa_nil)) rfl)))
      (pss_one (ps_ret (pv 0))))), ?_⟩
  refine ⟨_, rfl, a, rfl, _, rfl, b, rfl, _, _, rfl, ?_⟩
  refine while_by (fun σ H' => H' = H ∧ ∃ d r, σ = [some (.int d), some (.int r)] ∧ 0 ≤ d ∧ 0 ≤ r ∧ Int.gcd d r = Int.gcd a b)
    (fun σ _ => match σ with | [_, some (.int r)] => r.toNat | _ => 0) ⟨rfl, _, _, rfl, ?_, ?_, gcd_abs a b⟩ ?_ (fun σ H Q Q' h ⟨v, e1, i, j, e2, e2', k, e3, q⟩ => ⟨v, e1, i, j, e2, e2', k, e3, h _ _ q⟩)
  · split <;> omega
  · split <;> omega
  rintro σ H' ⟨rfl, d, r, rfl, hd, hr0, hg⟩
  refine ⟨_, rfl, _, _, rfl, rfl, _, rfl, ?_⟩
  by_cases h : 0 < r
  · rw [decide_eq_true h]
    refine iteT ?_
    have h1 := Int.emod_nonneg d (show r ≠ 0 by omega)
    have h2 := Int.emod_lt_of_pos d h
    refine ⟨_, rfl, _, rfl, _, rfl, _, _, rfl, rfl, h, _, _, rfl, ⟨rfl, r, d % r, rfl, hr0, h1, ?_⟩, ?_⟩
    · rw [gcd_turn]; exact hg
    · show (d % r).toNat < r.toNat
      omega
  · rw [decide_eq_false h]
    refine iteF ?_
    refine ⟨_, rfl, ?_⟩
    have hr1 : r = 0 := by omega
    subst hr1
    have e : (Int.gcd a b : Int) = d := by rw [← hg]; exact gcd_zero_nn hd
    rw [e] at q
    exact q
theorem ok__law_low (M : Bn mg) (F__law_common : FnA P w K mg base "_law_common" ["_law_one", "_law_other"] 1 spGcd) (F : Fun K "_law_low" "_law_low" s__law_low f fd) : FnOk P w K mg base CX0 2 f fd ["_law_above", "_law_below"] spLow := by
  refine F.ok sc__law_low (fun vs H Q E h => ?_) (fun cdv A outer s H vs Q E hr h => ?_)
  · obtain ⟨t, b, rfl, _⟩ := h; rfl
  obtain ⟨t, b, rfl, hb, hb2, q⟩ := h
  refine ⟨_, (pss_cons (ps_set (i := 2) sc__law_low.nd rfl (Or.inl rfl) (pe_callA F__law_common (hr.mono (by decide)) rfl (pa_cons (pv 0) (pa_cons (pv 1) pa_nil))))
      (pss_one (ps_ret (pe_tup (pa_cons (pe_op op_fdivB (pv 0) (pv 2)) (pa_cons (pe_op op_fdivB (pv 1) (pv 2)) pa_nil)))))), ?_⟩
  refine ⟨_, rfl, _, rfl, t, b, rfl, ?_⟩
  exact ⟨_, rfl, _, rfl, _, _, rfl, rfl, gcd_small hb hb2, _, rfl, _, rfl, _, _, rfl, rfl, gcd_small hb hb2, (by show 2 ≤ sizeLine; decide), fun p hp => q p hp⟩
theorem ok__law_sum (M : Bn mg) (F__law_low : FnA P w K mg base "_law_low" ["_law_above", "_law_below"] 2 spLow) (F : Fun K "_law_sum" "_law_sum" s__law_sum f fd) : FnOk P w K mg base CX0 3 f fd ["_law_one", "_law_other"] spSum := by
  refine F.ok sc__law_sum (fun vs H Q E h => ?_) (fun cdv A outer s H vs Q E hr h => ?_)
  · obtain ⟨a, c, a0, a1, c0, c1, rfl, _⟩ := h; rfl
  obtain ⟨a, c, a0, a1, c0, c1, rfl, hA, hC, p1, p2, p3, p4, q⟩ := h
  have hm : 0 < a1 * c1 := Int.mul_pos p1 p3
  have hm2 : a1 * c1 < 2 ^ 128 := by
    have z : a1 * c1 ≤ 2 ^ 60 * 2 ^ 60 := Int.mul_le_mul (by omega) (by omega) (by omega) (by decide)
    exact Int.lt_of_le_of_lt z (by decide)
  refine ⟨_, (pss_one (ps_ret (pe_callA F__law_low (hr.mono (by decide)) rfl (pa_cons (pe_op op_add (pe_op op_mul (pe_ix ix_tup (pv 0) pe_int (fun _ _ => rfl)) (pe_ix ix_tup (pv 1) pe_int (fun _ _ => rfl))) (pe_op op_mul (pe_ix ix_tup (pv 1) pe_int (fun _ _ => rfl)) (pe_ix ix_tup (pv 0) pe_int (fun _ _ => rfl)))) (pa_cons (pe_op op_mul (pe_ix ix_tup (pv 0) pe_int (fun _ _ => rfl)) (pe_ix ix_tup (pv 1) pe_int (fun _ _ => rfl))) pa_nil))))), ?_⟩
  exact ⟨_, rfl, a, _, 0, _, rfl, rfl, SqT.of hA, rfl, _, rfl, c, _, 1, _, rfl, rfl, SqT.of hC, rfl, _, _, rfl, rfl, .inr ⟨by omega, by omega⟩,
    _, rfl, c, _, 0, _, rfl, rfl, SqT.of hC, rfl, _, rfl, a, _, 1, _, rfl, rfl, SqT.of hA, rfl, _, _, rfl, rfl, .inr ⟨by omega, by omega⟩, _, _, rfl, rfl,
    _, rfl, a, _, 1, _, rfl, rfl, SqT.of hA, rfl, _, rfl, c, _, 1, _, rfl, rfl, SqT.of hC, rfl, _, _, rfl, rfl, .inr ⟨by omega, by omega⟩, _, _, rfl, hm, hm2, fun p hp => q p hp⟩
theorem ok_is_whole (M : Bn mg) (F : Fun K "is_whole" "is_whole" s_is_whole f fd) : FnOk P w K mg base CX0 1 f fd ["value"] spWhole := by
  refine F.ok sc_is_whole (fun vs H Q E h => ?_) (fun cdv A outer s H vs Q E hr h => ?_)
  · obtain ⟨i, rfl, _⟩ := h; rfl
  obtain ⟨i, rfl, q⟩ := h
  refine ⟨_, (pss_one (ps_ret (pe_and (pe_callB call_isi rfl M.isinstance' boot_isi (pa_cons (pv 0) (pa_cons (pe_bltn (v := .ty "int") rfl M.int' boot_intT rfl) pa_nil))) (pe_one (pe_not (pe_callB call_isi rfl M.isinstance' boot_isi (pa_cons (pv 0) (pa_cons (pe_bltn (v := .ty "bool") rfl M.bool' boot_boolT rfl) pa_nil)))))))), ?_⟩
  refine ⟨_, rfl, _, "int", _, true, rfl, .int i, kit_ii, true, rfl, ?_⟩
  refine iteT ?_
  exact ⟨_, rfl, _, "bool", _, false, rfl, .int i, kit_ib, false, rfl, q⟩
theorem ok_is_fraction (M : Bn mg) (F_is_whole : FnA P w K mg base "is_whole" ["value"] 1 spWhole) (F_common_divisor : FnA P w K mg base "common_divisor" ["one", "other"] 1 spGcd) (F : Fun K "is_fraction" "is_fraction" s_is_fraction f fd) : FnOk P w K mg base CX0 2 f fd ["value"] spFrac := by
  refine F.ok sc_is_fraction (fun vs H Q E h => ?_) (fun cdv A outer s H vs Q E hr h => ?_)
  · obtain ⟨a, p, r, rfl, _⟩ := h; rfl
  obtain ⟨a, p, r, rfl, hA, h1, hg, q⟩ := h
  refine ⟨_, (pss_cons (ps_if (PW.pt (pw_or (pt_not (pt_val (pe_callB call_isi rfl M.isinstance' boot_isi (pa_cons (pv 0) (pa_cons (pe_bltn (v := .ty "tuple") rfl M.tuple' boot_tupleT rfl) pa_nil))))) (pw_or1 (pt_cmpR op_ne (pe_callB call_len_seq rfl M.len' PySem.boot_len (pa_cons (pv 0) pa_nil)) pe_int (nomark _))))) (pss_one (ps_ret pe_bl)) pss_nil)
      (pss_cons (ps_if (PW.pt (pw_or (pt_not (pt_val (pe_callA F_is_whole (hr.mono (by decide)) rfl (pa_cons (pe_ix ix_tup (pv 0) pe_int (fun _ _ => rfl)) pa_nil)))) (pw_or1 (pt_not (pt_val (pe_callA F_is_whole (hr.mono (by decide)) rfl (pa_cons (pe_ix ix_tup (pv 0) pe_int (fun _ _ => rfl)) pa_nil))))))) (pss_one (ps_ret pe_bl)) pss_nil)
      (pss_one (ps_ret (pe_and (pe_cmpR op_ge (pe_ix ix_tup (pv 0) pe_int (fun _ _ => rfl)) pe_int (nomark _)) (pe_one (pe_cmpR op_eq (pe_callA F_common_divisor (hr.mono (by decide)) rfl (pa_cons (pe_ix ix_tup (pv 0) pe_int (fun _ _ => rfl)) (pa_cons (pe_ix ix_tup (pv 0) pe_int (fun _ _ => rfl)) pa_nil))) pe_int (nomark _)))))))), ?_⟩
  refine ⟨_, rfl, _, "tuple", _, true, rfl, .tup hA, kit_tt, true, rfl, ?_⟩
  refine iteF ?_
  refine ⟨_, rfl, a, _, rfl, .inr (SqT.of hA), rfl, _, rfl, ?_⟩
  refine iteNS rfl ?_
  refine ⟨_, rfl, a, _, 0, _, rfl, rfl, SqT.of hA, rfl, p, rfl, true, rfl, ?_⟩
  refine iteF ?_
  refine ⟨_, rfl, a, _, 1, _, rfl, rfl, SqT.of hA, rfl, r, rfl, true, rfl, ?_⟩
  refine iteF ?_
  refine ⟨_, rfl, a, _, 1, _, rfl, rfl, SqT.of hA, rfl, _, _, rfl, rfl, _, rfl, ?_⟩
  rw [decide_eq_true h1]
  refine iteT ?_
  refine ⟨_, rfl, a, _, 0, _, rfl, rfl, SqT.of hA, rfl, _, rfl, a, _, 1, _, rfl, rfl, SqT.of hA, rfl, p, r, rfl, rfl, ?_⟩
  rw [hg]
  exact q
theorem ok_is_list_of_wholes (M : Bn mg) (F_is_whole : FnA P w K mg base "is_whole" ["value"] 1 spWhole) (F : Fun K "is_list_of_wholes" "is_list_of_wholes" s_is_list_of_wholes f fd) : FnOk P w K mg base CX0 3 f fd ["values"] spListW := by
  refine F.ok sc_is_list_of_wholes (fun vs H Q E h => ?_) (fun cdv A outer s H vs Q E hr h => ?_)
  · obtain ⟨a, ns, rfl, _⟩ := h; rfl
  obtain ⟨a, ns, rfl, hA, h63, q⟩ := h
  refine ⟨_, (pss_one (ps_ret (pe_and (pe_callB call_isi rfl M.isinstance' boot_isi (pa_cons (pv 0) (pa_cons (pe_bltn (v := .ty "list") rfl M.list' boot_listT rfl) pa_nil))) (pe_one (pe_callB (call_allL rfl) rfl M.all' boot_allB (pa_cons (pe_comp rfl (CompScope.none ["value"]) (pi_list (pv 0)) (fun _ _ _ _ _ => (pg_name (i := 0) (show (["value"] : List Str).Nodup by decide +kernel) rfl (Or.inl rfl) (Or.inr rfl))) (fun _ _ _ _ _ => (pe_callA F_is_whole (hr.mono (by decide)) rfl (pa_cons (pv 0) pa_nil)))) pa_nil)))))), ?_⟩
  refine ⟨_, rfl, _, "list", _, true, rfl, .lst hA, kit_ll, true, rfl, ?_⟩
  refine iteT ?_
  refine ⟨_, rfl, a, rfl, ⟨_, SqL.of hA⟩, ?_⟩
  refine comp_list (xs := ns.map V.int) (by rw [List.length_map]; exact le63 h63) (fun i ys H' => H' = H ∧ ys = List.replicate i (.bl true)) ⟨rfl, rfl⟩ (fun i ys H' _ h => by rw [h.1]; exact SqL.of hA) ?_ ?_
  · rintro i x ys H' hx ⟨rfl, rfl⟩
    obtain ⟨z, _, rfl⟩ := ints_at hx
    exact ⟨⟨rfl, rfl⟩, _, rfl, z, rfl, rfl, rep_snoc _ _⟩
  · rintro ys H' ⟨rfl, rfl⟩ D hD
    refine ⟨D, List.replicate (ns.map V.int).length true, rfl, SqL.of ?_, ?_⟩
    · rw [upd_same, List.map_replicate]
    · rw [rep_all]
      exact q _ (same_new hD _)
theorem ok_is_list_of_fractions (M : Bn mg) (F_is_fraction : FnA P w K mg base "is_fraction" ["value"] 2 spFrac) (F : Fun K "is_list_of_fractions" "is_list_of_fractions" s_is_list_of_fractions f fd) : FnOk P w K mg base CX0 3 f fd ["values"] spListF := by
  refine F.ok sc_is_list_of_fractions (fun vs H Q E h => ?_) (fun cdv A outer s H vs Q E hr h => ?_)
  · obtain ⟨a, rs, fs, rfl, _⟩ := h; rfl
  obtain ⟨a, rs, fs, rfl, hA, hF, h63, hok, q⟩ := h
  refine ⟨_, (pss_one (ps_ret (pe_and (pe_callB call_isi rfl M.isinstance' boot_isi (pa_cons (pv 0) (pa_cons (pe_bltn (v := .ty "list") rfl M.list' boot_listT rfl) pa_nil))) (pe_one (pe_callB (call_allL rfl) rfl M.all' boot_allB (pa_cons (pe_comp rfl (CompScope.none ["value"]) (pi_list (pv 0)) (fun _ _ _ _ _ => (pg_name (i := 0) (show (["value"] : List Str).Nodup by decide +kernel) rfl (Or.inl rfl) (Or.inr rfl))) (fun _ _ _ _ _ => (pe_callA F_is_fraction (hr.mono (by decide)) rfl (pa_cons (pv 0) pa_nil)))) pa_nil)))))), ?_⟩
  refine ⟨_, rfl, _, "list", _, true, rfl, .lst hA, kit_ll, true, rfl, ?_⟩
  refine iteT ?_
  refine ⟨_, rfl, a, rfl, ⟨_, SqL.of hA⟩, ?_⟩
  refine comp_list (xs := rs.map V.ref) (by rw [List.length_map, hF.1]; exact le63 h63) (fun i ys H' => H' = H ∧ ys = List.replicate i (.bl true)) ⟨rfl, rfl⟩ (fun i ys H' _ h => by rw [h.1]; exact SqL.of hA) ?_ ?_
  · rintro i x ys H' hx ⟨rfl, rfl⟩
    obtain ⟨r, hr', rfl⟩ := refs_at hx
    have hi : i < fs.length := by rw [← hF.1]; exact (List.getElem?_eq_some_iff.mp hr').1
    obtain ⟨fr, hfr⟩ := get_of hi
    have ht := hF.2 i r fr hr' hfr
    have ho := hok fr (List.mem_of_getElem? hfr)
    exact ⟨⟨rfl, rfl⟩, _, rfl, r, _, _, rfl, ht, ho.1, ho.2, rfl, rep_snoc _ _⟩
  · rintro ys H' ⟨rfl, rfl⟩ D hD
    refine ⟨D, List.replicate (rs.map V.ref).length true, rfl, SqL.of ?_, ?_⟩
    · rw [upd_same, List.map_replicate]
    · rw [rep_all]
      exact q _ (same_new hD _)
theorem ok_check_numbers (M : Bn mg) (F_is_list_of_wholes : FnA P w K mg base "is_list_of_wholes" ["values"] 3 spListW) (F : Fun K "check_numbers" "check_numbers" s_check_numbers f fd) : FnOk P w K mg base CX0 4 f fd ["numbers"] spChk1 := by
  refine F.ok sc_check_numbers (fun vs H Q E h => ?_) (fun cdv A outer s H vs Q E hr h => ?_)
  · obtain ⟨a, ns, rfl, _⟩ := h; rfl
  obtain ⟨a, ns, rfl, hA, h63, q⟩ := h
  refine ⟨_, (pss_one (ps_if (pt_not (pt_val (pe_callA F_is_list_of_wholes (hr.mono (by decide)) rfl (pa_cons (pv 0) pa_nil)))) (pss_one ps_never) pss_nil)), ?_⟩
  exact ⟨_, rfl, a, ns, rfl, hA, h63, fun H' sm => ⟨true, rfl, iteF (q H' sm)⟩⟩
theorem ok_is_whole_row (M : Bn mg) (F_is_list_of_wholes : FnA P w K mg base "is_list_of_wholes" ["values"] 3 spListW) (F : Fun K "is_whole_row" "is_whole_row" s_is_whole_row f fd) : FnOk P w K mg base CX0 4 f fd ["numbers", "row"] spRowW := by
  refine F.ok sc_is_whole_row (fun vs H Q E h => ?_) (fun cdv A outer s H vs Q E hr h => ?_)
  · obtain ⟨a, b, ns, ms, rfl, _⟩ := h; rfl
  obtain ⟨a, b, ns, ms, rfl, hA, hB, h1, h2, q⟩ := h
  refine ⟨_, (pss_one (ps_ret (pe_and (pe_callA F_is_list_of_wholes (hr.mono (by decide)) rfl (pa_cons (pv 1) pa_nil)) (pe_one (pe_cmpR op_eq (pe_callB call_len_seq rfl M.len' PySem.boot_len (pa_cons (pv 1) pa_nil)) (pe_callB call_len_seq rfl M.len' PySem.boot_len (pa_cons (pv 0) pa_nil)) (nomark _)))))), ?_⟩
  refine ⟨_, rfl, b, ms, rfl, hB, h2, fun H' sm => ⟨true, rfl, iteT ?_⟩⟩
  refine ⟨_, rfl, b, _, rfl, .inl (SqL.of (sm.at hB)), _, rfl, a, _, rfl, .inl (SqL.of (sm.at hA)), rfl, ?_⟩
  exact q _ H' dec_len sm
theorem ok_check_whole_row (M : Bn mg) (F_is_whole_row : FnA P w K mg base "is_whole_row" ["numbers", "row"] 4 spRowW) (F : Fun K "check_whole_row" "check_whole_row" s_check_whole_row f fd) : FnOk P w K mg base CX0 5 f fd ["numbers", "row"] spChk2 := by
  refine F.ok sc_check_whole_row (fun vs H Q E h => ?_) (fun cdv A outer s H vs Q E hr h => ?_)
  · obtain ⟨a, b, ns, ms, rfl, _⟩ := h; rfl
  obtain ⟨a, b, ns, ms, rfl, hA, hB, h63, hl, q⟩ := h
  refine ⟨_, (pss_one (ps_if (pt_not (pt_val (pe_callA F_is_whole_row (hr.mono (by decide)) rfl (pa_cons (pv 0) (pa_cons (pv 1) pa_nil))))) (pss_one ps_never) pss_nil)), ?_⟩
  refine ⟨_, rfl, _, rfl, a, b, ns, ms, rfl, hA, hB, h63, by omega, fun bb H' hb sm => ⟨bb, rfl, ?_⟩⟩
  obtain rfl : bb = true := hb.mpr hl
  exact iteF (q H' sm)
theorem ok_is_fraction_row (M : Bn mg) (F_is_list_of_fractions : FnA P w K mg base "is_list_of_fractions" ["values"] 3 spListF) (F : Fun K "is_fraction_row" "is_fraction_row" s_is_fraction_row f fd) : FnOk P w K mg base CX0 4 f fd ["numbers", "row"] spRowF := by
  refine F.ok sc_is_fraction_row (fun vs H Q E h => ?_) (fun cdv A outer s H vs Q E hr h => ?_)
  · obtain ⟨a, b, ns, rs, fs, rfl, _⟩ := h; rfl
  obtain ⟨a, b, ns, rs, fs, rfl, hA, hB, hF, h1, h2, hok, q⟩ := h
  refine ⟨_, (pss_one (ps_ret (pe_and (pe_callA F_is_list_of_fractions (hr.mono (by decide)) rfl (pa_cons (pv 1) pa_nil)) (pe_one (pe_cmpR op_eq (pe_callB call_len_seq rfl M.len' PySem.boot_len (pa_cons (pv 1) pa_nil)) (pe_callB call_len_seq rfl M.len' PySem.boot_len (pa_cons (pv 0) pa_nil)) (nomark _)))))), ?_⟩
  refine ⟨_, rfl, b, rs, fs, rfl, hB, hF, h2, hok, fun H' sm => ⟨true, rfl, iteT ?_⟩⟩
  refine ⟨_, rfl, b, _, rfl, .inl (SqL.of (sm.at hB)), _, rfl, a, _, rfl, .inl (SqL.of (sm.at hA)), rfl, ?_⟩
  refine q _ H' ?_ sm
  rw [← hF.1]
  exact dec_lenF
theorem ok_are_weights (M : Bn mg) (F_is_whole_row : FnA P w K mg base "is_whole_row" ["numbers", "row"] 4 spRowW) (F : Fun K "are_weights" "are_weights" s_are_weights f fd) : FnOk P w K mg base CX0 5 f fd ["numbers", "weights"] spWts := by
  refine F.ok sc_are_weights (fun vs H Q E h => ?_) (fun cdv A outer s H vs Q E hr h => ?_)
  · obtain ⟨a, b, ns, ws, rfl, _⟩ := h; rfl
  obtain ⟨a, b, ns, ws, rfl, hA, hB, h63, hl, hw, q⟩ := h
  refine ⟨_, (pss_one (ps_ret (pe_and (pe_callA F_is_whole_row (hr.mono (by decide)) rfl (pa_cons (pv 0) (pa_cons (pv 1) pa_nil))) (pe_one (pe_cmpR op_ge (pe_minD rfl rfl M.min' (pa_cons (pv 1) pa_nil) (pk_cons pe_int pk_nil)) pe_int (nomark _)))))), ?_⟩
  refine ⟨_, rfl, _, rfl, a, b, ns, ws, rfl, hA, hB, h63, by omega, fun bb H' hb sm => ⟨bb, rfl, ?_⟩⟩
  obtain rfl : bb = true := hb.mpr hl
  refine iteT ?_
  refine ⟨_, rfl, b, ws, .int 1, rfl, rfl, SqL.of (sm.at hB), fun _ => ?_, fun m hm hle => ?_⟩
  · refine ⟨_, _, rfl, rfl, ?_⟩
    show Q (.bl (decide ((1 : Int) ≤ 1))) H'
    rw [decide_eq_true (show (1 : Int) ≤ 1 by decide)]
    exact q H' sm
  · have := hw m hm
    refine ⟨_, _, rfl, rfl, ?_⟩
    show Q (.bl (decide ((1 : Int) ≤ m))) H'
    rw [decide_eq_true (show (1 : Int) ≤ m by omega)]
    exact q H' sm
theorem ok_check_weights (M : Bn mg) (F_are_weights : FnA P w K mg base "are_weights" ["numbers", "weights"] 5 spWts) (F : Fun K "check_weights" "check_weights" s_check_weights f fd) : FnOk P w K mg base CX0 6 f fd ["numbers", "weights"] spChkW := by
  refine F.ok sc_check_weights (fun vs H Q E h => ?_) (fun cdv A outer s H vs Q E hr h => ?_)
  · obtain ⟨a, b, ns, ws, rfl, _⟩ := h; rfl
  obtain ⟨a, b, ns, ws, rfl, hA, hB, h63, hl, hw, q⟩ := h
  refine ⟨_, (pss_one (ps_if (pt_not (pt_val (pe_callA F_are_weights (hr.mono (by decide)) rfl (pa_cons (pv 0) (pa_cons (pv 1) pa_nil))))) (pss_one ps_never) pss_nil)), ?_⟩
  exact ⟨_, rfl, _, rfl, a, b, ns, ws, rfl, hA, hB, h63, hl, hw, fun H' sm => ⟨true, rfl, iteF (q H' sm)⟩⟩
theorem ok_differences (M : Bn mg) (F : Fun K "differences" "differences" s_differences f fd) : FnOk P w K mg base CX0 1 f fd ["numbers", "row"] spDiff := by
  refine F.ok sc_differences (fun vs H Q E h => ?_) (fun cdv A outer s H vs Q E hr h => ?_)
  · obtain ⟨a, b, ns, ms, rfl, _⟩ := h; rfl
  obtain ⟨a, b, ns, ms, rfl, hA, hB, h63, hl, q⟩ := h
  refine ⟨_, (pss_one (ps_ret (pe_comp rfl (CompScope.none ["number", "stand"]) (pi_zip rfl M.zip' (pa_cons (pv 0) (pa_cons (pv 1) pa_nil))) (fun _ _ _ _ _ => (pg_two (K := K) (i := 0) (j := 1) rfl rfl (show (["number", "stand"] : List Str).Nodup by decide +kernel) rfl rfl rfl rfl)) (fun _ _ _ _ _ => (pe_callB call_abs rfl M.abs' boot_absB (pa_cons (pe_op op_sub (pv 0) (pv 1)) pa_nil)))))), ?_⟩
  refine ⟨_, rfl, _, rfl, a, b, rfl, ⟨_, SqL.of hA⟩, ⟨_, SqL.of hB⟩, ?_⟩
  refine comp_zip (xs := ns.map V.int) (zs := ms.map V.int) (by rw [List.length_map]; exact le63 h63) (by rw [List.length_map, List.length_map, hl]) (fun i ys H' => Same H H' ∧ ys = ((dl ns ms).take i).map V.int) ⟨Same.refl _, rfl⟩
    (fun i ys H' _ h => ⟨SqL.of (h.1.at hA), SqL.of (h.1.at hB)⟩) ?_ ?_
  · rintro i x z ys H' p hx hz ⟨sm, rfl⟩ hp
    obtain ⟨n, hn, rfl⟩ := ints_at hx
    obtain ⟨m, hm, rfl⟩ := ints_at hz
    refine ⟨p, _, rfl, SqT.of upd_same, rfl, _, _, rfl, _, _, rfl, rfl, ⟨rfl, rfl⟩, _, rfl, _, rfl, _, _, rfl, rfl, _, rfl, sm.new hp _, ?_⟩
    rw [take_snoc (dl_at hn hm), List.map_append]
    rfl
  · rintro ys H' ⟨sm, rfl⟩ D hD
    refine q D _ (sm.new hD _) ?_
    rw [upd_same, List.length_map, ← dl_length (rs := ms) (by omega), take_all]
theorem ok_greatest (M : Bn mg) (F_check_numbers : FnA P w K mg base "check_numbers" ["numbers"] 4 spChk1) (F_check_whole_row : FnA P w K mg base "check_whole_row" ["numbers", "row"] 5 spChk2) (F_differences : FnA P w K mg base "differences" ["numbers", "row"] 1 spDiff) (F : Fun K "greatest" "greatest" s_greatest f fd) : FnOk P w K mg base CX0 6 f fd ["numbers", "row"] spGreat := by
  refine F.ok sc_greatest (fun vs H Q E h => ?_) (fun cdv A outer s H vs Q E hr h => ?_)
  · obtain ⟨a, b, ns, ms, rfl, _⟩ := h; rfl
  obtain ⟨a, b, ns, ms, rfl, hA, hB, h63, hl, q⟩ := h
  refine ⟨_, (pss_cons (ps_expr (pe_callA F_check_numbers (hr.mono (by decide)) rfl (pa_cons (pv 0) pa_nil)))
      (pss_cons (ps_expr (pe_callA F_check_whole_row (hr.mono (by decide)) rfl (pa_cons (pv 0) (pa_cons (pv 1) pa_nil))))
      (pss_one (ps_ret (pe_maxD rfl rfl M.max' (pa_cons (pe_callA F_differences (hr.mono (by decide)) rfl (pa_cons (pv 0) (pa_cons (pv 1) pa_nil))) pa_nil) (pk_cons pe_int pk_nil)))))), ?_⟩
  refine ⟨_, rfl, a, ns, rfl, hA, h63, fun H1 s1 => ?_⟩
  refine ⟨_, rfl, _, rfl, a, b, ns, ms, rfl, s1.at hA, s1.at hB, h63, hl, fun H2 s2 => ?_⟩
  refine ⟨_, rfl, _, rfl, a, b, ns, ms, rfl, s2.at (s1.at hA), s2.at (s1.at hB), h63, hl, fun p H3 s3 hp => ?_⟩
  have sm : Same H H3 := s1.trans (s2.trans s3)
  refine ⟨p, dl ns ms, .int 0, rfl, rfl, SqL.of hp, fun he => ?_, fun m hm hle => ?_⟩
  · have z := q H3 sm
    rw [he] at z
    exact z
  · have e := maxL_of dl_nn hm hle
    rw [e]
    exact q H3 sm
theorem ok_summed_up (M : Bn mg) (F_check_numbers : FnA P w K mg base "check_numbers" ["numbers"] 4 spChk1) (F_check_whole_row : FnA P w K mg base "check_whole_row" ["numbers", "row"] 5 spChk2) (F_check_weights : FnA P w K mg base "check_weights" ["numbers", "weights"] 6 spChkW) (F_differences : FnA P w K mg base "differences" ["numbers", "row"] 1 spDiff) (F : Fun K "summed_up" "summed_up" s_summed_up f fd) : FnOk P w K mg base CX0 7 f fd ["numbers", "row", "weights"] spSummed := by
  refine F.ok sc_summed_up (fun vs H Q E h => ?_) (fun cdv A outer s H vs Q E hr h => ?_)
  · obtain ⟨a, b, c, ns, ms, ws, rfl, _⟩ := h; rfl
  obtain ⟨a, b, c, ns, ms, ws, rfl, hA, hB, hC, h63, hl, hl2, hw, q⟩ := h
  refine ⟨_, (pss_cons (ps_expr (pe_callA F_check_numbers (hr.mono (by decide)) rfl (pa_cons (pv 0) pa_nil)))
      (pss_cons (ps_expr (pe_callA F_check_whole_row (hr.mono (by decide)) rfl (pa_cons (pv 0) (pa_cons (pv 1) pa_nil))))
      (pss_cons (ps_expr (pe_callA F_check_weights (hr.mono (by decide)) rfl (pa_cons (pv 0) (pa_cons (pv 2) pa_nil))))
      (pss_one (ps_ret (pe_callB (call_sumL rfl) rfl M.sum' PyProof.Rows.boot_sum (pa_cons (pe_comp rfl (CompScope.none ["weight", "difference"]) (pi_zip rfl M.zip' (pa_cons (pv 2) (pa_cons (pe_callA F_differences (hr.mono (by decide)) rfl (pa_cons (pv 0) (pa_cons (pv 1) pa_nil))) pa_nil))) (fun _ _ _ _ _ => (pg_two (K := K) (i := 0) (j := 1) rfl rfl (show (["weight", "difference"] : List Str).Nodup by decide +kernel) rfl rfl rfl rfl)) (fun _ _ _ _ _ => (pe_op op_mul (pv 0) (pv 1)))) pa_nil))))))), ?_⟩
  refine ⟨_, rfl, a, ns, rfl, hA, h63, fun H1 s1 => ?_⟩
  refine ⟨_, rfl, _, rfl, a, b, ns, ms, rfl, s1.at hA, s1.at hB, h63, hl, fun H2 s2 => ?_⟩
  have s12 : Same H H2 := s1.trans s2
  refine ⟨_, rfl, _, rfl, a, c, ns, ws, rfl, s12.at hA, s12.at hC, h63, hl2, fun x hx => (hw x hx).1, fun H3 s3 => ?_⟩
  have s13 : Same H H3 := s12.trans s3
  refine ⟨_, rfl, _, rfl, _, rfl, a, b, ns, ms, rfl, s13.at hA, s13.at hB, h63, hl, fun p H4 s4 hp => ?_⟩
  have s14 : Same H H4 := s13.trans s4
  have hdl := dl_length (ns := ns) (rs := ms) (by omega)
  refine ⟨c, p, rfl, ⟨_, SqL.of (s14.at hC)⟩, ⟨_, SqL.of hp⟩, ?_⟩
  refine comp_zip (xs := ws.map V.int) (zs := (dl ns ms).map V.int) (by rw [List.length_map]; exact le63 (by omega)) (by rw [List.length_map, List.length_map]; omega) (fun i ys H' => Same H4 H' ∧ ys = ((wl ws (dl ns ms)).take i).map V.int) ⟨Same.refl _, rfl⟩
    (fun i ys H' _ h => ⟨SqL.of (h.1.at (s14.at hC)), SqL.of (h.1.at hp)⟩) ?_ ?_
  · rintro i x z ys H' t hx hz ⟨sm, rfl⟩ ht
    obtain ⟨n, hn, rfl⟩ := ints_at hx
    obtain ⟨m, hm, rfl⟩ := ints_at hz
    have hb := hw n (List.mem_of_getElem? hn)
    refine ⟨t, _, rfl, SqT.of upd_same, rfl, _, _, rfl, _, _, rfl, rfl, ⟨rfl, rfl⟩, _, rfl, _, rfl, _, _, rfl, rfl, .inl ⟨by omega, by omega⟩, sm.new ht _, ?_⟩
    rw [take_snoc (wl_at hn hm), List.map_append]
    rfl
  · rintro ys H' ⟨sm, rfl⟩ D hD
    refine ⟨D, wl ws (dl ns ms), rfl, SqL.of ?_, q _ (s14.trans (sm.new hD _))⟩
    rw [upd_same, List.length_map, ← wl_length (ds := dl ns ms) (by omega), take_all]
theorem ok_rises (M : Bn mg) (F : Fun K "rises" "rises" s_rises f fd) : FnOk P w K mg base CX0 2 f fd ["row"] spRise := by
  refine F.ok sc_rises (fun vs H Q E h => ?_) (fun cdv A outer s H vs Q E hr h => ?_)
  · obtain ⟨a, ns, rfl, _⟩ := h; rfl
  obtain ⟨a, ns, rfl, hA, h1k, q⟩ := h
  refine ⟨_, (pss_one (ps_ret (pe_callB (call_allL rfl) rfl M.all' boot_allB (pa_cons (pe_comp rfl (CompScope.one ["place"] "row" 0) (pi_range2 rfl M.range' (pa_cons pe_int (pa_cons (pe_callB call_len_seq rfl M.len' PySem.boot_len (pa_cons (pv 0) pa_nil)) pa_nil))) (fun _ _ _ _ _ => (pg_name (i := 0) (show (["place", "row"] : List Str).Nodup by decide +kernel) rfl (Or.inl rfl) (Or.inr rfl))) (fun _ _ _ _ _ => (pe_cmpR op_le (pe_ix (ix_listK (K := K) rfl) (pv 1) (pe_op op_sub (pv 0) pe_int) (fun _ _ => rfl)) (pe_ix (ix_listK (K := K) rfl) (pv 1) (pv 0) (fun _ _ => rfl)) (nomark _)))) pa_nil)))), ?_⟩
  refine ⟨_, rfl, a, _, rfl, .inl (SqL.of hA), 1, _, rfl, ⟨by omega, by omega, by omega, by rw [List.length_map]; omega⟩, ?_⟩
  have hn : ((((ns.map V.int).length : Nat) : Int) - 1).toNat = ns.length - 1 := by rw [List.length_map]; omega
  rw [hn]
  refine comp_range (n := ns.length - 1) (le1000 (by omega)) (fun i ys H' => H' = H ∧ ys = ((List.range i).map fun j => decide (ns.getD j 0 ≤ ns.getD (j + 1) 0)).map V.bl) ⟨rfl, rfl⟩ ?_ ?_
  · rintro i ys H' hi ⟨rfl, rfl⟩
    refine ⟨⟨rfl, rfl⟩, _, rfl, _, rfl, _, _, rfl, rfl, a, _, _, _, rfl, rfl, SqL.of hA, atI_gd (i := i) (by omega) (by omega), _, rfl, _, rfl, a, _, _, _, rfl, rfl, SqL.of hA, atI_gd (i := i + 1) (by omega) (by omega), _, _, rfl, rfl, rfl, ?_⟩
    rw [range_snoc, List.map_append]
    rfl
  · rintro ys H' ⟨rfl, rfl⟩ D hD
    refine ⟨D, _, rfl, SqL.of upd_same, q _ _ ?_ (same_new hD _)⟩
    rw [all_range]
    exact ⟨fun h i hi => of_decide_eq_true (h i (by omega)), fun h i hi => decide_eq_true (h i (by omega))⟩
theorem ok_upper_row (M : Bn mg) (F : Fun K "upper_row" "upper_row" s_upper_row f fd) : FnOk P w K mg base CX0 2 f fd ["numbers"] spUp := by
  refine F.ok sc_upper_row (fun vs H Q E h => ?_) (fun cdv A outer s H vs Q E hr h => ?_)
  · obtain ⟨a, ns, rfl, _⟩ := h; rfl
  obtain ⟨a, ns, rfl, hA, h1k, q⟩ := h
  refine ⟨_, (pss_cons (ps_set (i := 1) sc_upper_row.nd rfl (Or.inl rfl) (pe_lst pa_nil))
      (pss_cons (ps_for PassesOwn.never rfl (pi_list (pv 0)) (pg_name (i := 2) sc_upper_row.nd rfl (Or.inl rfl) (Or.inl rfl)) (pss_one (ps_expr (pe_bm PySem.F.plainAttrs_list PySem.F.slot_list_append PySem.F.type_list_append mt_append (pv 1) (pa_cons (pe_ifExp (pt_cmpR (op_eqLI hr.units) (pv 1) (pe_lst pa_nil) (nomark _)) (pv 2) (pe_callB (call_max2 rfl) rfl M.max' PyProof.Rows.boot_max (pa_cons (pe_ix ix_list (pv 1) (pe_un un_neg pe_int) (fun _ _ => rfl)) (pa_cons (pv 2) pa_nil)))) pa_nil)))))
      (pss_one (ps_ret (pv 1))))), ?_⟩
  refine ⟨Nat.zero_le _, fun p hp => ?_⟩
  have s0 : Same H (upd H p (.lst [])) := same_new hp _
  refine ⟨_, rfl, a, rfl, ⟨_, SqL.of (s0.at hA)⟩, ?_⟩
  refine for_list (xs := ns.map V.int) (fun i σ H' => Same H H' ∧ ∃ v, σ = [some (.ref a), some (.ref p), v] ∧ H' p = some (.lst ((runL mx (ns.take i)).map V.int))) ⟨s0, _, rfl, upd_same⟩ (fun i σ H' _ h => SqL.of (h.1.at hA)) ?_ ?_
  · rintro i x σ H' hx ⟨sm, v, rfl, hP⟩
    obtain ⟨n, hn, rfl⟩ := ints_at hx
    have hi : i < ns.length := (List.getElem?_eq_some_iff.mp hn).1
    have hlen : (runL mx (ns.take i)).length = i := runL_take _ _ _ (by omega)
    have e1 : runL mx (ns.take (i + 1)) = stp mx (runL mx (ns.take i)) n := by rw [take_snoc hn, runL_snoc]
    refine ⟨_, rfl, .inl ⟨rfl, _, SqL.of hP⟩, _, rfl, Nat.zero_le _, fun e he => ?_⟩
    have s1 : Same H' (upd H' e (.lst [])) := same_new he _
    have sm1 : Same H (upd H' e (.lst [])) := sm.trans s1
    refine ⟨p, e, runL mx (ns.take i), [], rfl, rfl, SqL.of (s1.at hP), SqL.of upd_same, _, rfl, ?_⟩
    rcases List.eq_nil_or_concat (runL mx (ns.take i)) with e0 | ⟨r', m, e0⟩
    · refine iteDT e0 ?_
      refine ⟨_, rfl, p, _, _, rfl, rfl, s1.at hP, ?_, sm1.upd hp _, _, rfl, ?_⟩
      · rw [List.length_map, hlen]; exact small1000 (by omega)
      · rw [upd_same, e1, e0]; rfl
    · rw [List.concat_eq_append] at e0
      refine iteDF (by rw [e0]; simp) ?_
      have hP' : H' p = some (.lst (r'.map V.int ++ [V.int m])) := by rw [hP, e0, List.map_append]; rfl
      refine ⟨_, rfl, _, rfl, p, _, _, _, rfl, rfl, SqL.of (s1.at hP'), atI_last _ _, _, rfl, _, _, rfl, p, _, _, rfl, rfl, s1.at hP, ?_, sm1.upd hp _, _, rfl, ?_⟩
      · rw [List.length_map, hlen]; exact small1000 (by omega)
      · rw [upd_same, e1, e0]
        unfold stp
        rw [List.getLast?_append]
        simp [mx]
  · rintro σ H' ⟨sm, v, rfl, hP⟩
    refine ⟨_, rfl, q p H' sm hp ?_⟩
    rw [hP, List.length_map, take_all]
    rfl
theorem ok_lower_row (M : Bn mg) (F : Fun K "lower_row" "lower_row" s_lower_row f fd) : FnOk P w K mg base CX0 2 f fd ["numbers"] spLo := by
  refine F.ok sc_lower_row (fun vs H Q E h => ?_) (fun cdv A outer s H vs Q E hr h => ?_)
  · obtain ⟨a, ns, rfl, _⟩ := h; rfl
  obtain ⟨a, ns, rfl, hA, h1k, q⟩ := h
  refine ⟨_, (pss_cons (ps_set (i := 1) sc_lower_row.nd rfl (Or.inl rfl) (pe_lst pa_nil))
      (pss_cons (ps_for PassesOwn.never rfl (pi_rev rfl M.reversed' (pa_cons (pv 0) pa_nil)) (pg_name (i := 2) sc_lower_row.nd rfl (Or.inl rfl) (Or.inl rfl)) (pss_one (ps_expr (pe_bm PySem.F.plainAttrs_list PySem.F.slot_list_append PySem.F.type_list_append mt_append (pv 1) (pa_cons (pe_ifExp (pt_cmpR (op_eqLI hr.units) (pv 1) (pe_lst pa_nil) (nomark _)) (pv 2) (pe_callB (call_min2 rfl) rfl M.min' PyProof.Rows.boot_min (pa_cons (pe_ix ix_list (pv 1) (pe_un un_neg pe_int) (fun _ _ => rfl)) (pa_cons (pv 2) pa_nil)))) pa_nil)))))
      (pss_cons (ps_expr (pe_bm0 PySem.F.plainAttrs_list PySem.F.slot_list_reverse PySem.F.type_list_reverse mt_reverse (pv 1)))
      (pss_one (ps_ret (pv 1)))))), ?_⟩
  refine ⟨Nat.zero_le _, fun p hp => ?_⟩
  have s0 : Same H (upd H p (.lst [])) := same_new hp _
  refine ⟨_, rfl, a, _, rfl, SqL.of (s0.at hA), ?_⟩
  refine for_rev (xs := ns.map V.int) (fun i σ H' => Same H H' ∧ ∃ v, σ = [some (.ref a), some (.ref p), v] ∧ H' p = some (.lst ((runL mn (ns.reverse.take i)).map V.int))) ⟨s0, _, rfl, upd_same⟩ (fun i σ H' _ h => SqL.of (h.1.at hA)) ?_ ?_
  · rintro i x σ H' hi0 hx ⟨sm, v, rfl, hP⟩
    obtain ⟨n, hn0, rfl⟩ := ints_at hx
    rw [List.length_map] at hi0 hn0
    have hn : ns.reverse[i]? = some n := by rw [List.getElem?_reverse hi0]; exact hn0
    have hlen : (runL mn (ns.reverse.take i)).length = i := runL_take _ _ _ (by rw [List.length_reverse]; omega)
    have e1 : runL mn (ns.reverse.take (i + 1)) = stp mn (runL mn (ns.reverse.take i)) n := by rw [take_snoc hn, runL_snoc]
    refine ⟨_, rfl, .inl ⟨rfl, _, SqL.of hP⟩, _, rfl, Nat.zero_le _, fun e he => ?_⟩
    have s1 : Same H' (upd H' e (.lst [])) := same_new he _
    have sm1 : Same H (upd H' e (.lst [])) := sm.trans s1
    refine ⟨p, e, runL mn (ns.reverse.take i), [], rfl, rfl, SqL.of (s1.at hP), SqL.of upd_same, _, rfl, ?_⟩
    rcases List.eq_nil_or_concat (runL mn (ns.reverse.take i)) with e0 | ⟨r', m, e0⟩
    · refine iteDT e0 ?_
      refine ⟨_, rfl, p, _, _, rfl, rfl, s1.at hP, ?_, sm1.upd hp _, _, rfl, ?_⟩
      · rw [List.length_map, hlen]; exact small1000 (by omega)
      · rw [upd_same, e1, e0]; rfl
    · rw [List.concat_eq_append] at e0
      refine iteDF (by rw [e0]; simp) ?_
      have hP' : H' p = some (.lst (r'.map V.int ++ [V.int m])) := by rw [hP, e0, List.map_append]; rfl
      refine ⟨_, rfl, _, rfl, p, _, _, _, rfl, rfl, SqL.of (s1.at hP'), atI_last _ _, _, rfl, _, _, rfl, p, _, _, rfl, rfl, s1.at hP, ?_, sm1.upd hp _, _, rfl, ?_⟩
      · rw [List.length_map, hlen]; exact small1000 (by omega)
      · rw [upd_same, e1, e0]
        unfold stp
        rw [List.getLast?_append]
        simp [mn]
  · rintro σ H' ⟨sm, v, rfl, hP⟩
    refine ⟨_, rfl, .inl ⟨rfl, _, SqL.of hP⟩, p, _, rfl, rfl, hP, ?_⟩
    refine ⟨_, rfl, q p _ (sm.upd hp _) hp ?_⟩
    rw [upd_same, List.length_map, show ns.length = ns.reverse.length from List.length_reverse.symm, take_all, ← List.map_reverse]
    rfl
theorem ok_deepest_fall (M : Bn mg) (F : Fun K "deepest_fall" "deepest_fall" s_deepest_fall f fd) : FnOk P w K mg base CX0 2 f fd ["numbers"] spFall := by
  refine F.ok sc_deepest_fall (fun vs H Q E h => ?_) (fun cdv A outer s H vs Q E hr h => ?_)
  · obtain ⟨a, ns, rfl, _⟩ := h; rfl
  obtain ⟨a, ns, rfl, hA, h1k, q⟩ := h
  refine ⟨_, (pss_cons (ps_set (i := 1) sc_deepest_fall.nd rfl (Or.inl rfl) (pe_tup (pa_cons pe_int (pa_cons pe_int (pa_cons pe_int pa_nil)))))
      (pss_cons (ps_set (i := 2) sc_deepest_fall.nd rfl (Or.inl rfl) pe_int)
      (pss_cons (ps_for PassesOwn.never rfl (pi_enum rfl M.enumerate' (pa_cons (pv 0) pa_nil)) (pg_two (K := K) (i := 3) (j := 4) rfl rfl sc_deepest_fall.nd rfl rfl rfl rfl) (pss_cons (ps_if (pt_cmpR op_gt (pv 4) (pe_ix ix_list (pv 0) (pv 2) (fun _ _ => rfl)) (nomark _)) (pss_one (ps_set (i := 2) sc_deepest_fall.nd rfl (Or.inl rfl) (pv 3))) pss_nil)
      (pss_cons (ps_set (i := 5) sc_deepest_fall.nd rfl (Or.inl rfl) (pe_op op_sub (pe_ix ix_list (pv 0) (pv 2) (fun _ _ => rfl)) (pv 4)))
      (pss_one (ps_if (pt_cmpR op_gt (pv 5) (pe_ix ix_tup (pv 1) pe_int (fun _ _ => rfl)) (nomark _)) (pss_one (ps_set (i := 1) sc_deepest_fall.nd rfl (Or.inl rfl) (pe_tup (pa_cons (pv 2) (pa_cons (pv 3) (pa_cons (pv 5) pa_nil)))))) pss_nil)))))
      (pss_one (ps_ret (pv 1)))))), ?_⟩
  refine ⟨(by show 3 ≤ sizeLine; decide), fun r0 hr0 => ?_⟩
  have s0 : Same H (upd H r0 (.tup [.int 0, .int 0, .int 0])) := same_new hr0 _
  refine ⟨_, rfl, a, rfl, ⟨_, SqL.of (s0.at hA)⟩, ?_⟩
  refine for_enum (xs := ns.map V.int) (fun i σ H' => Same H H' ∧ ∃ (top t p : Nat) (d : Int) (r : Addr) (v3 v4 v5 : Option V), σ = [some (.ref a), some (.ref r), some (.int top), v3, v4, v5] ∧ H' r = some (.tup [.int t, .int p, .int d]) ∧ FallI ns i top t p d)
    ⟨s0, 0, 0, 0, 0, r0, _, _, _, rfl, upd_same, FallI.zero ns⟩ (fun i σ H' _ h => SqL.of (h.1.at hA)) ?_ ?_
  · rintro i x σ H' pp hx ⟨sm, top, t, p, d, r, v3, v4, v5, rfl, hR, hI⟩ hpp
    obtain ⟨n, hn, rfl⟩ := ints_at hx
    have hi : i < ns.length := (List.getElem?_eq_some_iff.mp hn).1
    have en : ns.getD i 0 = n := gd_of hn
    have s1 : Same H' (upd H' pp (.tup [.int i, .int n])) := same_new hpp _
    have smp := sm.trans s1
    have htl : top < ns.length := by rcases hI.tl with z | z <;> omega
    refine ⟨pp, _, rfl, SqT.of upd_same, rfl, _, _, rfl, _, _, rfl, rfl, ?_⟩
    dsimp only [gName]
    refine seq_with (fun σ' H1 => ∃ top' : Nat, H1 = upd H' pp (.tup [.int i, .int n]) ∧ σ' = [some (.ref a), some (.ref r), some (.int top'), some (.int i), some (.int n), v5] ∧ top' = if ns.getD i 0 > ns.getD top 0 then i else top) ?_ (fun cont => ?_)
    · rintro σ' H1 ⟨top', rfl, rfl, ht⟩
      have htl' : top' < ns.length := by rw [ht]; split <;> omega
      obtain ⟨g1, g2⟩ := hI.step hi ht
      refine ⟨_, rfl, _, rfl, a, _, _, _, rfl, rfl, SqL.of (smp.at hA), atI_gd rfl htl', _, rfl, _, _, rfl, rfl, ?_⟩
      refine ⟨_, rfl, _, rfl, r, _, _, _, rfl, rfl, SqT.of (s1.at hR), rfl, _, _, rfl, rfl, _, rfl, ?_⟩
      rw [en] at g1 g2
      by_cases hd : ns.getD top' 0 - n > d
      · rw [decide_eq_true (show d < ns.getD top' 0 - n from hd)]
        refine iteT ⟨_, rfl, _, rfl, _, rfl, (by show 3 ≤ sizeLine; decide), fun r2 hr2 => ?_⟩
        exact ⟨smp.new hr2 _, top', top', i, _, r2, _, _, _, rfl, upd_same, g1 hd⟩
      · rw [decide_eq_false (show ¬ d < ns.getD top' 0 - n from hd)]
        exact iteF ⟨smp, top', t, p, d, r, _, _, _, rfl, s1.at hR, g2 hd⟩
    · refine ⟨_, rfl, _, rfl, _, rfl, a, _, _, _, rfl, rfl, SqL.of (smp.at hA), atI_gd rfl htl, _, _, rfl, rfl, _, rfl, ?_⟩
      by_cases hd : ns.getD top 0 < n
      · rw [decide_eq_true hd]
        refine iteT ⟨_, rfl, cont _ _ ⟨i, rfl, rfl, ?_⟩⟩
        rw [en, if_pos hd]
      · rw [decide_eq_false hd]
        refine iteF (cont _ _ ⟨top, rfl, rfl, ?_⟩)
        rw [en, if_neg hd]
  · rintro σ H' ⟨sm, top, t, p, d, r, v3, v4, v5, rfl, hR, hI⟩
    rw [List.length_map] at hI
    exact ⟨_, rfl, q t p d r H' hI.fall sm hR⟩
theorem ok_least_stands (M : Bn mg) (F_upper_row : FnA P w K mg base "upper_row" ["numbers"] 2 spUp) (F : Fun K "least_stands" "least_stands" s_least_stands f fd) : FnOk P w K mg base CX0 3 f fd ["numbers", "most"] spLeast := by
  refine F.ok sc_least_stands (fun vs H Q E h => ?_) (fun cdv A outer s H vs Q E hr h => ?_)
  · obtain ⟨a, ns, m, rfl, _⟩ := h; rfl
  obtain ⟨a, ns, m, rfl, hA, h1k, q⟩ := h
  refine ⟨_, (pss_one (ps_ret (pe_comp rfl (CompScope.one ["stand"] "most" 1) (pi_list (pe_callA F_upper_row (hr.mono (by decide)) rfl (pa_cons (pv 0) pa_nil))) (fun _ _ _ _ _ => (pg_name (i := 0) (show (["stand", "most"] : List Str).Nodup by decide +kernel) rfl (Or.inl rfl) (Or.inr rfl))) (fun _ _ _ _ _ => (pe_op op_sub (pv 0) (pv 1)))))), ?_⟩
  refine ⟨_, rfl, a, ns, rfl, hA, h1k, fun p H1 s1 hp hP => ⟨p, rfl, ⟨_, SqL.of hP⟩, ?_⟩⟩
  refine comp_list (xs := (upL ns).map V.int) (len_map_le (by rw [upL_length]; exact h1k)) (fun i ys H' => H' = H1 ∧ ys = (((upL ns).take i).map fun x => x - m).map V.int) ⟨rfl, rfl⟩ (fun i ys H' _ h => by rw [h.1]; exact SqL.of hP) ?_ ?_
  · rintro i x ys H' hx ⟨rfl, rfl⟩
    obtain ⟨z, hz, rfl⟩ := ints_at hx
    refine ⟨⟨rfl, rfl⟩, _, rfl, _, rfl, _, _, rfl, rfl, rfl, ?_⟩
    rw [map_snoc _ hz, List.map_append]
    rfl
  · rintro ys H' ⟨rfl, rfl⟩ D hD
    refine q D _ (s1.new hD _) (s1.free hD) ?_
    rw [upd_same, List.length_map, take_all]
theorem ok_greatest_stands (M : Bn mg) (F_lower_row : FnA P w K mg base "lower_row" ["numbers"] 2 spLo) (F : Fun K "greatest_stands" "greatest_stands" s_greatest_stands f fd) : FnOk P w K mg base CX0 3 f fd ["numbers", "most"] spGreatS := by
  refine F.ok sc_greatest_stands (fun vs H Q E h => ?_) (fun cdv A outer s H vs Q E hr h => ?_)
  · obtain ⟨a, ns, m, rfl, _⟩ := h; rfl
  obtain ⟨a, ns, m, rfl, hA, h1k, q⟩ := h
  refine ⟨_, (pss_one (ps_ret (pe_comp rfl (CompScope.one ["stand"] "most" 1) (pi_list (pe_callA F_lower_row (hr.mono (by decide)) rfl (pa_cons (pv 0) pa_nil))) (fun _ _ _ _ _ => (pg_name (i := 0) (show (["stand", "most"] : List Str).Nodup by decide +kernel) rfl (Or.inl rfl) (Or.inr rfl))) (fun _ _ _ _ _ => (pe_op op_add (pv 0) (pv 1)))))), ?_⟩
  refine ⟨_, rfl, a, ns, rfl, hA, h1k, fun p H1 s1 hp hP => ⟨p, rfl, ⟨_, SqL.of hP⟩, ?_⟩⟩
  refine comp_list (xs := (loL ns).map V.int) (len_map_le (by rw [loL_length]; exact h1k)) (fun i ys H' => H' = H1 ∧ ys = (((loL ns).take i).map fun x => x + m).map V.int) ⟨rfl, rfl⟩ (fun i ys H' _ h => by rw [h.1]; exact SqL.of hP) ?_ ?_
  · rintro i x ys H' hx ⟨rfl, rfl⟩
    obtain ⟨z, hz, rfl⟩ := ints_at hx
    refine ⟨⟨rfl, rfl⟩, _, rfl, _, rfl, _, _, rfl, rfl, rfl, ?_⟩
    rw [map_snoc _ hz, List.map_append]
    rfl
  · rintro ys H' ⟨rfl, rfl⟩ D hD
    refine q D _ (s1.new hD _) (s1.free hD) ?_
    rw [upd_same, List.length_map, take_all]
theorem ok_is_rising_whole_row (M : Bn mg) (F_is_whole_row : FnA P w K mg base "is_whole_row" ["numbers", "row"] 4 spRowW) (F_rises : FnA P w K mg base "rises" ["row"] 2 spRise) (F : Fun K "is_rising_whole_row" "is_rising_whole_row" s_is_rising_whole_row f fd) : FnOk P w K mg base CX0 5 f fd ["numbers", "row"] spRiW := by
  refine F.ok sc_is_rising_whole_row (fun vs H Q E h => ?_) (fun cdv A outer s H vs Q E hr h => ?_)
  · obtain ⟨a, b, ns, ms, rfl, _⟩ := h; rfl
  obtain ⟨a, b, ns, ms, rfl, hA, hB, h1, h2, q⟩ := h
  refine ⟨_, (pss_one (ps_ret (pe_and (pe_callA F_is_whole_row (hr.mono (by decide)) rfl (pa_cons (pv 0) (pa_cons (pv 1) pa_nil))) (pe_one (pe_callA F_rises (hr.mono (by decide)) rfl (pa_cons (pv 1) pa_nil)))))), ?_⟩
  refine ⟨_, rfl, _, rfl, a, b, ns, ms, rfl, hA, hB, h1, h2, fun bb H1 hb s1 => ⟨bb, rfl, ?_⟩⟩
  refine ite2 (fun hbb => ?_) (fun hbb => ?_)
  · refine ⟨_, rfl, b, ms, rfl, s1.at hB, h2, fun b2 H2 hb2 s2 => q _ _ ?_ (s1.trans s2)⟩
    rw [hb2]
    exact ⟨fun z => ⟨hb.mp hbb, z⟩, fun z => z.2⟩
  · refine q _ _ ⟨fun z => (by cases z), fun z => absurd (hb.mpr z.1) hbb⟩ s1
theorem ok_are_places (M : Bn mg) (F_is_whole : FnA P w K mg base "is_whole" ["value"] 1 spWhole) (F : Fun K "are_places" "are_places" s_are_places f fd) : FnOk P w K mg base CX0 2 f fd ["numbers", "first", "second"] spPlaces := by
  refine F.ok sc_are_places (fun vs H Q E h => ?_) (fun cdv A outer s H vs Q E hr h => ?_)
  · obtain ⟨a, ns, i, j, rfl, _⟩ := h; rfl
  obtain ⟨a, ns, i, j, rfl, hA, q⟩ := h
  refine ⟨_, (pss_cons (ps_set (i := 3) sc_are_places.nd rfl (Or.inl rfl) (pe_callB (call_max2 rfl) rfl M.max' PyProof.Rows.boot_max (pa_cons (pe_op op_sub (pe_callB call_len_seq rfl M.len' PySem.boot_len (pa_cons (pv 0) pa_nil)) pe_int) (pa_cons pe_int pa_nil))))
      (pss_one (ps_ret (pe_and (pe_callA F_is_whole (hr.mono (by decide)) rfl (pa_cons (pv 1) pa_nil)) (pe_and (pe_callA F_is_whole (hr.mono (by decide)) rfl (pa_cons (pv 2) pa_nil)) (pe_one (pe_chain3 op_le op_le op_le pe_int (pv 1) (pv 2) (pv 3)))))))), ?_⟩
  refine ⟨_, rfl, a, _, rfl, .inl (SqL.of hA), _, _, rfl, rfl, _, _, rfl, ?_⟩
  refine ⟨_, rfl, i, rfl, true, rfl, iteT ⟨_, rfl, j, rfl, true, rfl, iteT ?_⟩⟩
  have hL : (if (0 : Int) > (((ns.map V.int).length : Nat) : Int) - 1 then (0 : Int) else (((ns.map V.int).length : Nat) : Int) - 1) = ((ns.length - 1 : Nat) : Int) := by
    rw [List.length_map]; split <;> omega
  refine ⟨_, rfl, _, _, rfl, rfl, _, rfl, ?_⟩
  by_cases h1 : (0 : Int) ≤ i
  · rw [decide_eq_true h1]
    refine iteT ⟨_, rfl, _, _, rfl, rfl, _, rfl, ?_⟩
    by_cases h2 : i ≤ j
    · rw [decide_eq_true h2]
      refine iteT ⟨_, rfl, _, _, rfl, rfl, q _ ?_⟩
      rw [hL, decide_eq_true_iff]
      omega
    · rw [decide_eq_false h2]
      exact iteF (q _ (ff_iff (by omega)))
  · rw [decide_eq_false h1]
    exact iteF (q _ (ff_iff (by omega)))
theorem ok_fall_between (M : Bn mg) (F : Fun K "fall_between" "fall_between" s_fall_between f fd) : FnOk P w K mg base CX0 1 f fd ["numbers", "first", "second"] spFallB := by
  refine F.ok sc_fall_between (fun vs H Q E h => ?_) (fun cdv A outer s H vs Q E hr h => ?_)
  · obtain ⟨a, ns, i, j, rfl, _⟩ := h; rfl
  obtain ⟨a, ns, i, j, rfl, hA, hb, q⟩ := h
  refine ⟨_, (pss_one (ps_ret (pe_ifExp (pt_cmpR (op_eqLI hr.units) (pv 0) (pe_lst pa_nil) (nomark _)) pe_int (pe_op op_sub (pe_ix ix_list (pv 0) (pv 1) (fun _ _ => rfl)) (pe_ix ix_list (pv 0) (pv 2) (fun _ _ => rfl)))))), ?_⟩
  refine ⟨_, rfl, Nat.zero_le _, fun e he => ?_⟩
  have s1 : Same H (upd H e (.lst [])) := same_new he _
  refine ⟨a, e, ns, [], rfl, rfl, SqL.of (s1.at hA), SqL.of upd_same, _, rfl, ?_⟩
  by_cases hn : ns = []
  · subst hn
    exact iteDT rfl (q _ s1)
  · refine iteDF hn ?_
    rcases hb with z | ⟨h1, h2, h3, h4⟩
    · exact absurd z hn
    · exact ⟨_, rfl, _, rfl, a, _, _, _, rfl, rfl, SqL.of (s1.at hA), atI_gd (i := i.toNat) (by omega) (by omega), _, rfl, _, rfl, a, _, _, _, rfl, rfl, SqL.of (s1.at hA), atI_gd (i := j.toNat) (by omega) (by omega), _, _, rfl, rfl, q _ s1⟩
theorem ok_Evened___init__ (M : Bn mg) (C_Evened : ClsA K mg "Evened" c.Evened) (N_Evened : NaEvened K c.Evened) (F : Fun K "__init__" "Evened.__init__" s_Evened___init__ f fd) : FnOk P w K mg base CX0 1 f fd ["self", "row", "first", "second"] (spEvInit c) := by
  refine F.ok sc_Evened___init__ (fun vs H Q E h => ?_) (fun cdv A outer s H vs Q E hr h => ?_)
  · obtain ⟨x, r, dx, row, i, j, rfl, _⟩ := h; rfl
  obtain ⟨x, r, dx, row, i, j, rfl, hx, hR, q⟩ := h
  refine ⟨_, (pss_cons (ps_fld (pv 0) (pe_callTy call_list_of rfl M.list' boot_listT (pa_cons (pv 1) pa_nil)) rfl)
      (pss_cons (ps_fld (pv 0) (pv 2) rfl)
      (pss_one (ps_fld (pv 0) (pv 3) rfl)))), ?_⟩
  refine ⟨_, rfl, r, _, rfl, .inl (SqL.of hR), fun l hl => ?_⟩
  have nxl : x ≠ l := ne_of_none hx hl
  refine ⟨_, rfl, x, _, dx, _, rfl, (by rw [upd_ne nxl]; exact hx), C_Evened.cl, N_Evened.r, (by show 0 < 1000; decide), ?_⟩
  refine ⟨_, rfl, _, rfl, x, _, dx, _, rfl, upd_same, C_Evened.cl, N_Evened.f, (Nat.lt_of_le_of_lt (length_putF _ _ _) (by show 0 + 1 < 1000; decide)), ?_⟩
  refine ⟨_, rfl, _, rfl, x, _, dx, _, rfl, upd_same, C_Evened.cl, N_Evened.s, (Nat.lt_of_le_of_lt (length_putF _ _ _) (Nat.lt_of_le_of_lt (Nat.succ_le_succ (length_putF _ _ _)) (by show 0 + 1 + 1 < 1000; decide))), ?_⟩
  refine q l _ hl ⟨⟨dx, _, upd_same, ?_, ?_, ?_, ?_⟩, ?_⟩ fun b o e hb => ?_
  · rw [lookup_putF, if_neg (by decide +kernel), lookup_putF, if_neg (by decide +kernel), lookup_putF, if_pos rfl]
  · rw [lookup_putF, if_neg (by decide +kernel), lookup_putF, if_pos rfl]
  · rw [lookup_putF, if_pos rfl]
  · rw [lookup_putF, if_neg (by decide +kernel), lookup_putF, if_neg (by decide +kernel), lookup_putF, if_neg (by decide +kernel)]; rfl
  · rw [upd_ne nxl.symm, upd_ne nxl.symm, upd_ne nxl.symm, upd_same]
  · rw [upd_ne hb, upd_ne hb, upd_ne hb, upd_ne (ne_of_none e hl)]; exact e
theorem ok_Evened_shows (M : Bn mg) (C_Evened : ClsA K mg "Evened" c.Evened) (N_Evened : NaEvened K c.Evened) (F_is_list_of_wholes : FnA P w K mg base "is_list_of_wholes" ["values"] 3 spListW) (F_is_rising_whole_row : FnA P w K mg base "is_rising_whole_row" ["numbers", "row"] 5 spRiW) (F_are_places : FnA P w K mg base "are_places" ["numbers", "first", "second"] 2 spPlaces) (F_fall_between : FnA P w K mg base "fall_between" ["numbers", "first", "second"] 1 spFallB) (F_greatest : FnA P w K mg base "greatest" ["numbers", "row"] 6 spGreat) (F : Fun K "shows" "Evened.shows" s_Evened_shows f fd) : FnOk P w K mg base CX0 7 f fd ["self", "numbers"] (spEvShows c) := by
  refine F.ok sc_Evened_shows (fun vs H Q E h => ?_) (fun cdv A outer s H vs Q E hr h => ?_)
  · obtain ⟨x, a, r, ns, row, i, j, rfl, _⟩ := h; rfl
  obtain ⟨x, a, r, ns, row, i, j, rfl, hX, hA, h1, h2, q⟩ := h
  refine ⟨_, (pss_cons (ps_if (PW.pt (pw_or (pt_not (pt_val (pe_callA F_is_list_of_wholes (hr.mono (by decide)) rfl (pa_cons (pv 1) pa_nil)))) (pw_or1 (pt_not (pt_val (pe_callA F_is_rising_whole_row (hr.mono (by decide)) rfl (pa_cons (pv 1) (pa_cons (pe_fld (pv 0) rfl) pa_nil)))))))) (pss_one (ps_ret pe_bl)) pss_nil)
      (pss_cons (ps_if (pt_not (pt_val (pe_callA F_are_places (hr.mono (by decide)) rfl (pa_cons (pv 1) (pa_cons (pe_fld (pv 0) rfl) (pa_cons (pe_fld (pv 0) rfl) pa_nil)))))) (pss_one (ps_ret pe_bl)) pss_nil)
      (pss_one (ps_ret (pe_cmpR op_ge (pe_callA F_fall_between (hr.mono (by decide)) rfl (pa_cons (pv 1) (pa_cons (pe_fld (pv 0) rfl) (pa_cons (pe_fld (pv 0) rfl) pa_nil)))) (pe_op op_sub (pe_op op_mul pe_int (pe_callA F_greatest (hr.mono (by decide)) rfl (pa_cons (pv 1) (pa_cons (pe_fld (pv 0) rfl) pa_nil)))) pe_int) (nomark _)))))), ?_⟩
  obtain ⟨dx, fs, ob, l1, l2, l3, l4⟩ := hX.ob
  refine ⟨_, rfl, a, ns, rfl, hA, h1, fun H1 s1 => ⟨true, rfl, iteF ?_⟩⟩
  refine ⟨_, rfl, _, rfl, x, _, dx, fs, _, rfl, s1.at ob, C_Evened.cl, N_Evened.r, l1, a, r, ns, row, rfl, s1.at hA, s1.at hX.rl, h1, h2, fun b2 H2 hb2 s2 => ⟨b2, rfl, ?_⟩⟩
  have s12 := s1.trans s2
  cases b2 with
  | false => exact iteT (q _ _ (ff_iff fun z => by have := hb2.mpr ⟨z.len, z.ris⟩; cases this) s12)
  | true =>
    obtain ⟨g1, g2⟩ := hb2.mp rfl
    refine iteF ?_
    refine ⟨_, rfl, _, rfl, x, _, dx, fs, _, rfl, s12.at ob, C_Evened.cl, N_Evened.f, l2, _, rfl, x, _, dx, fs, _, rfl, s12.at ob, C_Evened.cl, N_Evened.s, l3, a, ns, i, j, rfl, s12.at hA, fun b3 hb3 => ⟨b3, rfl, ?_⟩⟩
    cases b3 with
    | false => exact iteT (q _ _ (ff_iff fun z => by have := hb3.mpr ⟨z.f0, z.fs, z.sl⟩; cases this) s12)
    | true =>
      obtain ⟨g3, g4, g5⟩ := hb3.mp rfl
      refine iteF ?_
      refine ⟨_, rfl, _, rfl, x, _, dx, fs, _, rfl, s12.at ob, C_Evened.cl, N_Evened.f, l2, _, rfl, x, _, dx, fs, _, rfl, s12.at ob, C_Evened.cl, N_Evened.s, l3, a, ns, i, j, rfl, s12.at hA, ?_, fun H3 s3 => ?_⟩
      · by_cases hn : ns = []
        · exact .inl hn
        · have : 0 < ns.length := List.length_pos_iff.mpr hn
          exact .inr (by omega)
      · have s13 := s12.trans s3
        refine ⟨_, rfl, _, rfl, x, _, dx, fs, _, rfl, s13.at ob, C_Evened.cl, N_Evened.r, l1, a, r, ns, row, rfl, s13.at hA, s13.at hX.rl, h1, g1, fun H4 s4 => ?_⟩
        refine ⟨_, _, rfl, rfl, .inl ⟨by decide, by decide⟩, _, _, rfl, rfl, _, _, rfl, rfl, q _ _ ?_ (s13.trans s4)⟩
        rw [decide_eq_true_iff]
        exact ⟨fun z => ⟨g1, g2, g3, g4, g5, z⟩, fun z => z.sh⟩
theorem ok_evened (M : Bn mg) (F_check_numbers : FnA P w K mg base "check_numbers" ["numbers"] 4 spChk1) (F_deepest_fall : FnA P w K mg base "deepest_fall" ["numbers"] 2 spFall) (F_least_stands : FnA P w K mg base "least_stands" ["numbers", "most"] 3 spLeast) (F_Evened___init__ : MakeA P w K mg base "Evened" c.Evened ["self", "row", "first", "second"] 1 (spEvInit c)) (F : Fun K "evened" "evened" s_evened f fd) : FnOk P w K mg base CX0 8 f fd ["numbers"] (spEvened c) := by
  refine F.ok sc_evened (fun vs H Q E h => ?_) (fun cdv A outer s H vs Q E hr h => ?_)
  · obtain ⟨a, ns, rfl, _⟩ := h; rfl
  obtain ⟨a, ns, rfl, hA, h1, q⟩ := h
  refine ⟨_, (pss_cons (ps_expr (pe_callA F_check_numbers (hr.mono (by decide)) rfl (pa_cons (pv 0) pa_nil)))
      (pss_cons (ps_set (i := 1) sc_evened.nd rfl (Or.inl rfl) (pe_callA F_deepest_fall (hr.mono (by decide)) rfl (pa_cons (pv 0) pa_nil)))
      (pss_cons (ps_set (i := 2) sc_evened.nd rfl (Or.inl rfl) (pe_op op_fdivB (pe_op op_add (pe_ix ix_tup (pv 1) pe_int (fun _ _ => rfl)) pe_int) pe_int))
      (pss_one (ps_ret (pe_makeA F_Evened___init__ (hr.mono (by decide)) rfl (pa_cons (pe_callA F_least_stands (hr.mono (by decide)) rfl (pa_cons (pv 0) (pa_cons (pv 2) pa_nil))) (pa_cons (pe_ix ix_tup (pv 1) pe_int (fun _ _ => rfl)) (pa_cons (pe_ix ix_tup (pv 1) pe_int (fun _ _ => rfl)) pa_nil))))))))), ?_⟩
  refine ⟨_, rfl, a, ns, rfl, hA, h1, fun H1 s1 => ?_⟩
  refine ⟨_, rfl, a, ns, rfl, s1.at hA, h1, fun t p d r H2 hF s2 hR => ?_⟩
  have s12 := s1.trans s2
  refine ⟨_, rfl, r, _, _, _, rfl, rfl, SqT.of hR, rfl, _, _, rfl, rfl, _, _, rfl, rfl, ⟨by decide, by decide⟩, ?_⟩
  refine ⟨_, rfl, _, rfl, a, ns, _, rfl, s12.at hA, h1, fun l H3 s3 hl hL => ?_⟩
  have s13 := s12.trans s3
  refine ⟨_, rfl, r, _, _, _, rfl, rfl, SqT.of (s3.at hR), rfl, _, rfl, r, _, _, _, rfl, rfl, SqT.of (s3.at hR), rfl, fun x dx hx hdx hne => ?_⟩
  have s4 : Same H3 (upd (upd H3 dx (.own x)) x (.ins c.Evened dx [])) := same_own hx hdx
  refine ⟨x, l, dx, _, _, _, rfl, upd_same, s4.at hL, fun l' H5 hl' hX kp => ⟨rfl, ?_⟩⟩
  have s35 : Same H3 H5 := kp.same s4 hx
  exact q x l' _ _ _ H5 hX (s13.trans s35) (s13.free hx) (s13.free (s4.free hl')) (evened_ok hF)
theorem ok_is_most (M : Bn mg) (F_is_whole : FnA P w K mg base "is_whole" ["value"] 1 spWhole) (F : Fun K "is_most" "is_most" s_is_most f fd) : FnOk P w K mg base CX0 2 f fd ["most"] spMost := by
  refine F.ok sc_is_most (fun vs H Q E h => ?_) (fun cdv A outer s H vs Q E hr h => ?_)
  · obtain ⟨m, rfl, _⟩ := h; rfl
  obtain ⟨m, rfl, hm, q⟩ := h
  refine ⟨_, (pss_one (ps_ret (pe_and (pe_callA F_is_whole (hr.mono (by decide)) rfl (pa_cons (pv 0) pa_nil)) (pe_one (pe_cmpR op_ge (pv 0) pe_int (nomark _)))))), ?_⟩
  refine ⟨_, rfl, m, rfl, true, rfl, iteT ⟨_, rfl, _, _, rfl, rfl, ?_⟩⟩
  show Q (.bl (decide ((0 : Int) ≤ m))) H
  rw [decide_eq_true hm]
  exact q
theorem ok_upper (M : Bn mg) (F_check_numbers : FnA P w K mg base "check_numbers" ["numbers"] 4 spChk1) (F_upper_row : FnA P w K mg base "upper_row" ["numbers"] 2 spUp) (F : Fun K "upper" "upper" s_upper f fd) : FnOk P w K mg base CX0 5 f fd ["numbers"] spUp := by
  refine F.ok sc_upper (fun vs H Q E h => ?_) (fun cdv A outer s H vs Q E hr h => ?_)
  · obtain ⟨a, ns, rfl, _⟩ := h; rfl
  obtain ⟨a, ns, rfl, hA, h1, q⟩ := h
  refine ⟨_, (pss_cons (ps_expr (pe_callA F_check_numbers (hr.mono (by decide)) rfl (pa_cons (pv 0) pa_nil)))
      (pss_one (ps_ret (pe_callA F_upper_row (hr.mono (by decide)) rfl (pa_cons (pv 0) pa_nil))))), ?_⟩
  exact ⟨_, rfl, a, ns, rfl, hA, h1, fun H1 s1 => ⟨_, rfl, a, ns, rfl, s1.at hA, h1, fun p H2 s2 hp hP => q p H2 (s1.trans s2) (s1.free hp) hP⟩⟩
theorem ok_lower (M : Bn mg) (F_check_numbers : FnA P w K mg base "check_numbers" ["numbers"] 4 spChk1) (F_lower_row : FnA P w K mg base "lower_row" ["numbers"] 2 spLo) (F : Fun K "lower" "lower" s_lower f fd) : FnOk P w K mg base CX0 5 f fd ["numbers"] spLo := by
  refine F.ok sc_lower (fun vs H Q E h => ?_) (fun cdv A outer s H vs Q E hr h => ?_)
  · obtain ⟨a, ns, rfl, _⟩ := h; rfl
  obtain ⟨a, ns, rfl, hA, h1, q⟩ := h
  refine ⟨_, (pss_cons (ps_expr (pe_callA F_check_numbers (hr.mono (by decide)) rfl (pa_cons (pv 0) pa_nil)))
      (pss_one (ps_ret (pe_callA F_lower_row (hr.mono (by decide)) rfl (pa_cons (pv 0) pa_nil))))), ?_⟩
  exact ⟨_, rfl, a, ns, rfl, hA, h1, fun H1 s1 => ⟨_, rfl, a, ns, rfl, s1.at hA, h1, fun p H2 s2 hp hP => q p H2 (s1.trans s2) (s1.free hp) hP⟩⟩
theorem ok_Band___init__ (M : Bn mg) (C_Band : ClsA K mg "Band" c.Band) (N_Band : NaBand K c.Band) (F : Fun K "__init__" "Band.__init__" s_Band___init__ f fd) : FnOk P w K mg base CX0 1 f fd ["self", "lows", "highs"] (spBaInit c) := by
  refine F.ok sc_Band___init__ (fun vs H Q E h => ?_) (fun cdv A outer s H vs Q E hr h => ?_)
  · obtain ⟨x, l, h, dx, lows, highs, rfl, _⟩ := h; rfl
  obtain ⟨x, l, h, dx, lows, highs, rfl, hx, hL, hH, q⟩ := h
  refine ⟨_, (pss_cons (ps_fld (pv 0) (pe_callTy call_list_of rfl M.list' boot_listT (pa_cons (pv 1) pa_nil)) rfl)
      (pss_one (ps_fld (pv 0) (pe_callTy call_list_of rfl M.list' boot_listT (pa_cons (pv 2) pa_nil)) rfl))), ?_⟩
  refine ⟨_, rfl, l, _, rfl, .inl (SqL.of hL), fun l' hl' => ?_⟩
  have nxl : x ≠ l' := ne_of_none hx hl'
  have nhl : h ≠ l' := ne_of_none hH hl'
  have nhx : h ≠ x := ne_of hH hx (by intro z; cases z)
  refine ⟨_, rfl, x, _, dx, _, rfl, (by rw [upd_ne nxl]; exact hx), C_Band.cl, N_Band.l, (by show 0 < 1000; decide), ?_⟩
  refine ⟨_, rfl, h, _, rfl, .inl (SqL.of (by rw [upd_ne nhx, upd_ne nhl]; exact hH)), fun h' hh' => ?_⟩
  have nxh : x ≠ h' := ne_of_none upd_same hh'
  have nlh : l' ≠ h' := ne_of_none (by rw [upd_ne nxl.symm]; exact upd_same) hh'
  have hh0 : H h' = none := by rw [upd_ne nxh.symm, upd_ne nlh.symm] at hh'; exact hh'
  refine ⟨_, rfl, x, _, dx, _, rfl, (by rw [upd_ne nxh]; exact upd_same), C_Band.cl, N_Band.h, (Nat.lt_of_le_of_lt (length_putF _ _ _) (by show 0 + 1 < 1000; decide)), ?_⟩
  refine q l' h' _ hl' hh0 nlh ⟨⟨dx, _, upd_same, ?_, ?_, ?_⟩, ?_, ?_⟩ fun b o e hb => ?_
  · rw [lookup_putF, if_neg (by decide +kernel), lookup_putF, if_pos rfl]
  · rw [lookup_putF, if_pos rfl]
  · rw [lookup_putF, if_neg (by decide +kernel), lookup_putF, if_neg (by decide +kernel)]; rfl
  · rw [upd_ne nxl.symm, upd_ne nlh, upd_ne nxl.symm, upd_same]
  · rw [upd_ne nxh.symm, upd_same]
  · rw [upd_ne hb, upd_ne (ne_of_none e hh0), upd_ne hb, upd_ne (ne_of_none e hl')]; exact e
theorem ok_Barred___init__ (M : Bn mg) (C_Barred : ClsA K mg "Barred" c.Barred) (N_Barred : NaBarred K c.Barred) (F : Fun K "__init__" "Barred.__init__" s_Barred___init__ f fd) : FnOk P w K mg base CX0 1 f fd ["self", "first", "second"] (spBrInit c) := by
  refine F.ok sc_Barred___init__ (fun vs H Q E h => ?_) (fun cdv A outer s H vs Q E hr h => ?_)
  · obtain ⟨x, dx, i, j, rfl, _⟩ := h; rfl
  obtain ⟨x, dx, i, j, rfl, hx, q⟩ := h
  refine ⟨_, (pss_cons (ps_fld (pv 0) (pv 1) rfl)
      (pss_one (ps_fld (pv 0) (pv 2) rfl))), ?_⟩
  refine ⟨_, rfl, _, rfl, x, _, dx, _, rfl, hx, C_Barred.cl, N_Barred.f, (by show 0 < 1000; decide), ?_⟩
  refine ⟨_, rfl, _, rfl, x, _, dx, _, rfl, upd_same, C_Barred.cl, N_Barred.s, (Nat.lt_of_le_of_lt (length_putF _ _ _) (by show 0 + 1 < 1000; decide)), ?_⟩
  refine q _ ⟨⟨dx, _, upd_same, ?_, ?_, ?_⟩⟩ fun b o e hb => ?_
  · rw [lookup_putF, if_neg (by decide +kernel), lookup_putF, if_pos rfl]
  · rw [lookup_putF, if_pos rfl]
  · rw [lookup_putF, if_neg (by decide +kernel), lookup_putF, if_neg (by decide +kernel)]; rfl
  · rw [upd_ne hb, upd_ne hb]; exact e
theorem ok_Band_shows (M : Bn mg) (C_Band : ClsA K mg "Band" c.Band) (N_Band : NaBand K c.Band) (F_is_list_of_wholes : FnA P w K mg base "is_list_of_wholes" ["values"] 3 spListW) (F_is_most : FnA P w K mg base "is_most" ["most"] 2 spMost) (F_deepest_fall : FnA P w K mg base "deepest_fall" ["numbers"] 2 spFall) (F_least_stands : FnA P w K mg base "least_stands" ["numbers", "most"] 3 spLeast) (F_greatest_stands : FnA P w K mg base "greatest_stands" ["numbers", "most"] 3 spGreatS) (F : Fun K "shows" "Band.shows" s_Band_shows f fd) : FnOk P w K mg base CX0 5 f fd ["self", "numbers", "most"] (spBaShows c) := by
  refine F.ok sc_Band_shows (fun vs H Q E h => ?_) (fun cdv A outer s H vs Q E hr h => ?_)
  · obtain ⟨x, a, l, h, ns, lows, highs, m, rfl, _⟩ := h; rfl
  obtain ⟨x, a, l, h, ns, lows, highs, m, rfl, hX, hA, h1, h2, h3, hm, q⟩ := h
  refine ⟨_, (pss_cons (ps_if (PW.pt (pw_or (pt_not (pt_val (pe_callA F_is_list_of_wholes (hr.mono (by decide)) rfl (pa_cons (pv 1) pa_nil)))) (pw_or1 (pt_not (pt_val (pe_callA F_is_most (hr.mono (by decide)) rfl (pa_cons (pv 2) pa_nil))))))) (pss_one (ps_ret pe_bl)) pss_nil)
      (pss_cons (ps_if (PW.pt (pw_or (pt_not (pt_val (pe_callA F_is_list_of_wholes (hr.mono (by decide)) rfl (pa_cons (pe_fld (pv 0) rfl) pa_nil)))) (pw_or1 (pt_not (pt_val (pe_callA F_is_list_of_wholes (hr.mono (by decide)) rfl (pa_cons (pe_fld (pv 0) rfl) pa_nil))))))) (pss_one (ps_ret pe_bl)) pss_nil)
      (pss_cons (ps_if (pt_cmpR op_gt (pe_ix ix_tup (pe_callA F_deepest_fall (hr.mono (by decide)) rfl (pa_cons (pv 1) pa_nil)) pe_int (fun _ _ => rfl)) (pe_op op_mul pe_int (pv 2)) (nomark _)) (pss_one (ps_ret pe_bl)) pss_nil)
      (pss_one (ps_ret (pe_and (pe_cmpR (op_eqLI hr.units) (pe_fld (pv 0) rfl) (pe_callA F_least_stands (hr.mono (by decide)) rfl (pa_cons (pv 1) (pa_cons (pv 2) pa_nil))) (nomark _)) (pe_one (pe_cmpR (op_eqLI hr.units) (pe_fld (pv 0) rfl) (pe_callA F_greatest_stands (hr.mono (by decide)) rfl (pa_cons (pv 1) (pa_cons (pv 2) pa_nil))) (nomark _))))))))), ?_⟩
  obtain ⟨dx, fs, ob, l1, l2, l3⟩ := hX.ob
  refine ⟨_, rfl, a, ns, rfl, hA, h1, fun H1 s1 => ⟨true, rfl, iteF ?_⟩⟩
  refine ⟨_, rfl, m, rfl, hm, true, rfl, iteF ?_⟩
  refine ⟨_, rfl, x, _, dx, fs, _, rfl, s1.at ob, C_Band.cl, N_Band.l, l1, l, lows, rfl, s1.at hX.ll, h2, fun H2 s2 => ⟨true, rfl, iteF ?_⟩⟩
  have s12 := s1.trans s2
  refine ⟨_, rfl, x, _, dx, fs, _, rfl, s12.at ob, C_Band.cl, N_Band.h, l2, h, highs, rfl, s12.at hX.hl, h3, fun H3 s3 => ⟨true, rfl, iteF ?_⟩⟩
  have s13 := s12.trans s3
  refine ⟨_, rfl, a, ns, rfl, s13.at hA, h1, fun t p d r H4 hF s4 hR => ?_⟩
  have s14 := s13.trans s4
  refine ⟨r, _, _, _, rfl, rfl, SqT.of hR, rfl, _, rfl, _, _, rfl, rfl, .inl ⟨by decide, by decide⟩, _, _, rfl, rfl, _, rfl, ?_⟩
  refine iteD (fun hd => q _ _ (ff_iff fun z => ?_) s14) (fun hd => ?_)
  · have := (hF.most hm).mp z.al
    omega
  have al := (hF.most hm).mpr (by omega)
  refine ⟨_, rfl, x, _, dx, fs, _, rfl, s14.at ob, C_Band.cl, N_Band.l, l1, _, rfl, _, rfl, a, ns, m, rfl, s14.at hA, h1, fun p5 H5 s5 hp5 hP5 => ?_⟩
  have s15 := s14.trans s5
  refine ⟨l, p5, _, _, rfl, rfl, SqL.of (s15.at hX.ll), SqL.of hP5, _, rfl, ?_⟩
  refine iteD (fun e1 => ?_) (fun e1 => q _ _ (ff_iff fun z => e1 z.lo) s15)
  refine ⟨_, rfl, x, _, dx, fs, _, rfl, s15.at ob, C_Band.cl, N_Band.h, l2, _, rfl, _, rfl, a, ns, m, rfl, s15.at hA, h1, fun p6 H6 s6 hp6 hP6 => ?_⟩
  have s16 := s15.trans s6
  refine ⟨h, p6, _, _, rfl, rfl, SqL.of (s16.at hX.hl), SqL.of hP6, q _ _ ?_ s16⟩
  show decide _ = true ↔ _
  rw [decide_eq_true_iff]
  exact ⟨fun z => ⟨e1, z, al⟩, fun z => z.hi⟩
theorem ok_Barred_shows (M : Bn mg) (C_Barred : ClsA K mg "Barred" c.Barred) (N_Barred : NaBarred K c.Barred) (F_is_list_of_wholes : FnA P w K mg base "is_list_of_wholes" ["values"] 3 spListW) (F_is_most : FnA P w K mg base "is_most" ["most"] 2 spMost) (F_are_places : FnA P w K mg base "are_places" ["numbers", "first", "second"] 2 spPlaces) (F_fall_between : FnA P w K mg base "fall_between" ["numbers", "first", "second"] 1 spFallB) (F : Fun K "shows" "Barred.shows" s_Barred_shows f fd) : FnOk P w K mg base CX0 5 f fd ["self", "numbers", "most"] (spBrShows c) := by
  refine F.ok sc_Barred_shows (fun vs H Q E h => ?_) (fun cdv A outer s H vs Q E hr h => ?_)
  · obtain ⟨x, a, ns, i, j, m, rfl, _⟩ := h; rfl
  obtain ⟨x, a, ns, i, j, m, rfl, hX, hA, h1, hm, q⟩ := h
  refine ⟨_, (pss_cons (ps_if (PW.pt (pw_or (pt_not (pt_val (pe_callA F_is_list_of_wholes (hr.mono (by decide)) rfl (pa_cons (pv 1) pa_nil)))) (pw_or1 (pt_not (pt_val (pe_callA F_is_most (hr.mono (by decide)) rfl (pa_cons (pv 2) pa_nil))))))) (pss_one (ps_ret pe_bl)) pss_nil)
      (pss_cons (ps_if (pt_not (pt_val (pe_callA F_are_places (hr.mono (by decide)) rfl (pa_cons (pv 1) (pa_cons (pe_fld (pv 0) rfl) (pa_cons (pe_fld (pv 0) rfl) pa_nil)))))) (pss_one (ps_ret pe_bl)) pss_nil)
      (pss_one (ps_ret (pe_cmpR op_gt (pe_callA F_fall_between (hr.mono (by decide)) rfl (pa_cons (pv 1) (pa_cons (pe_fld (pv 0) rfl) (pa_cons (pe_fld (pv 0) rfl) pa_nil)))) (pe_op op_mul pe_int (pv 2)) (nomark _)))))), ?_⟩
  obtain ⟨dx, fs, ob, l1, l2, l3⟩ := hX.ob
  refine ⟨_, rfl, a, ns, rfl, hA, h1, fun H1 s1 => ⟨true, rfl, iteF ?_⟩⟩
  refine ⟨_, rfl, m, rfl, hm, true, rfl, iteF ?_⟩
  refine ⟨_, rfl, _, rfl, x, _, dx, fs, _, rfl, s1.at ob, C_Barred.cl, N_Barred.f, l1, _, rfl, x, _, dx, fs, _, rfl, s1.at ob, C_Barred.cl, N_Barred.s, l2, a, ns, i, j, rfl, s1.at hA, fun b3 hb3 => ⟨b3, rfl, ?_⟩⟩
  cases b3 with
  | false => exact iteT (q _ _ (ff_iff fun z => by have := hb3.mpr ⟨z.f0, by have := z.fs; omega, .inl z.sl⟩; cases this) s1)
  | true =>
    obtain ⟨g3, g4, g5⟩ := hb3.mp rfl
    refine iteF ?_
    refine ⟨_, rfl, _, rfl, x, _, dx, fs, _, rfl, s1.at ob, C_Barred.cl, N_Barred.f, l1, _, rfl, x, _, dx, fs, _, rfl, s1.at ob, C_Barred.cl, N_Barred.s, l2, a, ns, i, j, rfl, s1.at hA, ?_, fun H3 s3 => ?_⟩
    · by_cases hn : ns = []
      · exact .inl hn
      · have : 0 < ns.length := List.length_pos_iff.mpr hn
        exact .inr (by omega)
    · refine ⟨_, rfl, _, _, rfl, rfl, .inl ⟨by decide, by decide⟩, _, _, rfl, rfl, q _ _ ?_ (s1.trans s3)⟩
      rw [decide_eq_true_iff]
      refine ⟨fun z => ?_, fun z => z.gt⟩
      have hne : i ≠ j := fun e => by rw [e] at z; omega
      refine ⟨g3, by omega, ?_, z⟩
      rcases g5 with z5 | z5 <;> omega
end
end K1
set_option Elab.async false
set_option linter.all false
set_option maxRecDepth 100000
set_option maxHeartbeats 8000000
namespace K1
open PySem L2 Fr1 Up
section
seal L2.PE L2.PA L2.PT L2.PW L2.PS L2.PSs L2.PI L2.PG
variable {P : Program} {w : World} {K : PySem.W.Frag} {mg : Str → Option Value} {base : Heap} {f : Addr} {fd : FuncData} {c : CA}
theorem ok_is_less (M : Bn mg) (F : Fun K "is_less" "is_less" s_is_less f fd) : FnOk P w K mg base CX0 1 f fd ["one", "other"] spLess := by
  refine F.ok sc_is_less (fun vs H Q E h => ?_) (fun cdv A outer s H vs Q E hr h => ?_)
  · obtain ⟨a, c, a0, a1, c0, c1, xa, xc, rfl, _⟩ := h; rfl
  obtain ⟨a, c, a0, a1, c0, c1, xa, xc, rfl, hA, hC, e1, e2, e3, e4, p1, p2, p3, p4, q⟩ := h
  refine ⟨_, (pss_one (ps_ret (pe_cmpR op_lt (pe_op op_mul (pe_ix ix_tup (pv 0) pe_int (fun _ _ => rfl)) (pe_ix ix_tup (pv 1) pe_int (fun _ _ => rfl))) (pe_op op_mul (pe_ix ix_tup (pv 1) pe_int (fun _ _ => rfl)) (pe_ix ix_tup (pv 0) pe_int (fun _ _ => rfl))) (nomark _)))), ?_⟩
  exact ⟨_, rfl, a, _, 0, _, rfl, rfl, SqT.of hA, atI_0 e1, _, rfl, c, _, 1, _, rfl, rfl, SqT.of hC, atI_1 e4, _, _, rfl, rfl, .inr ⟨by omega, by omega⟩, _, rfl, c, _, 0, _, rfl, rfl, SqT.of hC, atI_0 e3, _, rfl, a, _, 1, _, rfl, rfl, SqT.of hA, atI_1 e2, _, _, rfl, rfl, .inr ⟨by omega, by omega⟩, _, _, rfl, rfl, q⟩
theorem ok_fractions_rise (M : Bn mg) (F_is_less : FnA P w K mg base "is_less" ["one", "other"] 1 spLess) (F : Fun K "fractions_rise" "fractions_rise" s_fractions_rise f fd) : FnOk P w K mg base CX0 3 f fd ["row"] spFRise := by
  refine F.ok sc_fractions_rise (fun vs H Q E h => ?_) (fun cdv A outer s H vs Q E hr h => ?_)
  · obtain ⟨r, rs, fs, rfl, _⟩ := h; rfl
  obtain ⟨r, rs, fs, rfl, hR, hF, h1k, hok, q⟩ := h
  refine ⟨_, (pss_one (ps_ret (pe_not (pe_callB (call_anyL rfl) rfl M.any' boot_anyB (pa_cons (pe_comp rfl (CompScope.one ["place"] "row" 0) (pi_range2 rfl M.range' (pa_cons pe_int (pa_cons (pe_callB call_len_seq rfl M.len' PySem.boot_len (pa_cons (pv 0) pa_nil)) pa_nil))) (fun _ _ _ _ _ => (pg_name (i := 0) (show (["place", "row"] : List Str).Nodup by decide +kernel) rfl (Or.inl rfl) (Or.inr rfl))) (fun _ _ _ _ _ => (pe_callA F_is_less (hr.mono (by decide)) rfl (pa_cons (pe_ix (ix_listK (K := K) rfl) (pv 1) (pv 0) (fun _ _ => rfl)) (pa_cons (pe_ix (ix_listK (K := K) rfl) (pv 1) (pe_op op_sub (pv 0) pe_int) (fun _ _ => rfl)) pa_nil))))) pa_nil))))), ?_⟩
  refine ⟨_, rfl, r, _, rfl, .inl (SqL.of hR), 1, _, rfl, ⟨by omega, by omega, by omega, by rw [List.length_map, hF.1]; omega⟩, ?_⟩
  have hn : ((((rs.map V.ref).length : Nat) : Int) - 1).toNat = fs.length - 1 := by rw [List.length_map, hF.1]; omega
  rw [hn]
  refine comp_range (n := fs.length - 1) (le1000 (by omega)) (fun i ys H' => H' = H ∧ ys = ((List.range i).map fun j => decide ((fs.getD (j + 1) fz).1 * (fs.getD j fz).2 < (fs.getD j fz).1 * (fs.getD (j + 1) fz).2)).map V.bl) ⟨rfl, rfl⟩ ?_ ?_
  · rintro i ys H' hi ⟨rfl, rfl⟩
    obtain ⟨u, hu, hU⟩ := fr_get hF (i := i) (by omega)
    obtain ⟨v, hv, hV⟩ := fr_get hF (i := i + 1) (by omega)
    obtain ⟨a1, a2, _⟩ := hok.at (i := i) (by omega)
    obtain ⟨b1, b2, _⟩ := hok.at (i := i + 1) (by omega)
    refine ⟨⟨rfl, rfl⟩, _, rfl, _, rfl, r, _, _, _, rfl, rfl, SqL.of hR, (by rw [show (1 + (i : Int)) = ((i + 1 : Nat) : Int) by omega]; exact atI_nat (at_refs hv)), _, rfl, _, rfl, _, _, rfl, rfl, r, _, _, _, rfl, rfl, SqL.of hR, (by rw [show (1 + (i : Int) - 1) = ((i : Nat) : Int) by omega]; exact atI_nat (at_refs hu)),
      v, u, _, _, _, _, _, _, rfl, hV, hU, rfl, rfl, rfl, rfl, by omega, b2, by omega, a2, rfl, ?_⟩
    rw [range_snoc, List.map_append]
    rfl
  · rintro ys H' ⟨rfl, rfl⟩ D hD
    refine ⟨D, _, rfl, SqL.of upd_same, _, rfl, q _ _ ?_ (same_new hD _)⟩
    rw [Bool.not_eq_true']
    constructor
    · intro h i hi
      have : ¬ ((fs.getD (i + 1) fz).1 * (fs.getD i fz).2 < (fs.getD i fz).1 * (fs.getD (i + 1) fz).2) := fun z => by
        have := (any_range (n := fs.length - 1) (p := fun j => decide ((fs.getD (j + 1) fz).1 * (fs.getD j fz).2 < (fs.getD j fz).1 * (fs.getD (j + 1) fz).2))).mpr ⟨i, by omega, decide_eq_true z⟩
        rw [h] at this
        cases this
      omega
    · intro h
      cases e : ((List.range (fs.length - 1)).map fun j => decide ((fs.getD (j + 1) fz).1 * (fs.getD j fz).2 < (fs.getD j fz).1 * (fs.getD (j + 1) fz).2)).any fun b => b with
      | false => rfl
      | true =>
        obtain ⟨j, hj, z⟩ := any_range.mp e
        have z' := of_decide_eq_true z
        have := h j (by omega)
        omega
theorem ok_lacks_show (M : Bn mg) (F : Fun K "lacks_show" "lacks_show" s_lacks_show f fd) : FnOk P w K mg base CX0 1 f fd ["numbers", "row", "weights"] spLacks := by
  refine F.ok sc_lacks_show (fun vs H Q E h => ?_) (fun cdv A outer s H vs Q E hr h => ?_)
  · obtain ⟨a, r, b, ns, ws, rs, fs, rfl, _⟩ := h; rfl
  obtain ⟨a, r, b, ns, ws, rs, fs, rfl, hA, hR, hB, hF, h1k, hl, hl2, hok, hw, q⟩ := h
  refine ⟨_, (pss_cons (ps_set (i := 3) sc_lacks_show.nd rfl (Or.inl rfl) pe_int)
      (pss_cons (ps_for PassesOwn.never rfl (pi_enum rfl M.enumerate' (pa_cons (pv 0) pa_nil)) (pg_two (K := K) (i := 4) (j := 5) rfl rfl sc_lacks_show.nd rfl rfl rfl rfl) (pss_cons (ps_set (i := 6) sc_lacks_show.nd rfl (Or.inl rfl) (pe_ix ix_list (pv 1) (pv 4) (fun _ _ => rfl)))
      (pss_cons (ps_if (PW.pt (pw_and (pt_cmpR op_gt (pv 4) pe_int (nomark _)) (pw_and (pt_cmpR (op_neP hr.units) (pv 6) (pe_ix ix_list (pv 1) (pe_op op_sub (pv 4) pe_int) (fun _ _ => rfl)) (nomark _)) (pw_and1 (pt_cmpR op_ne (pv 3) pe_int (nomark _)))))) (pss_one (ps_ret pe_bl)) pss_nil)
      (pss_cons (ps_aug (i := 3) sc_lacks_show.nd rfl (Or.inl rfl) (pe_op op_mul (pe_ix ix_list (pv 2) (pv 4) (fun _ _ => rfl)) (pe_op op_sub (pe_op op_mul (pv 5) (pe_ix ix_tup (pv 6) pe_int (fun _ _ => rfl))) (pe_ix ix_tup (pv 6) pe_int (fun _ _ => rfl)))) ip_add)
      (pss_one (ps_if (pt_cmpR op_lt (pv 3) pe_int (nomark _)) (pss_one (ps_ret pe_bl)) pss_nil))))))
      (pss_one (ps_ret (pe_cmpR op_eq (pv 3) pe_int (nomark _)))))), ?_⟩
  refine ⟨_, rfl, a, rfl, ⟨_, SqL.of hA⟩, ?_⟩
  refine for_enum (xs := ns.map V.int) (fun i σ H' => Same H H' ∧ ∃ (v4 v5 v6 : Option V), σ = [some (.ref a), some (.ref r), some (.ref b), some (.int (PS ns ws fs i)), v4, v5, v6] ∧ (∀ k, k ≤ i → 0 ≤ PS ns ws fs k) ∧ (∀ j, j + 1 < i → fs.getD j fz ≠ fs.getD (j + 1) fz → PS ns ws fs (j + 1) = 0))
    ⟨Same.refl _, _, _, _, rfl, fun k hk => by rw [Nat.le_zero.mp hk]; exact Int.le_refl _, fun j hj => absurd hj (Nat.not_lt_zero _)⟩ (fun i σ H' _ h => SqL.of (h.1.at hA)) ?_ ?_
  · rintro i x σ H' pp hx ⟨sm, v4, v5, v6, rfl, hnn, hch⟩ hpp
    obtain ⟨n, hn, rfl⟩ := ints_at hx
    have hi : i < ns.length := (List.getElem?_eq_some_iff.mp hn).1
    have en : ns.getD i 0 = n := gd_of hn
    have s1 : Same H (upd H' pp (.tup [.int i, .int n])) := sm.new hpp _
    obtain ⟨u, hu, hU⟩ := fr_get (hF.same s1) (i := i) (by omega)
    obtain ⟨a1, a2, _⟩ := hok.at (i := i) (by omega)
    refine ⟨pp, _, rfl, SqT.of upd_same, rfl, _, _, rfl, _, _, rfl, rfl, ?_⟩
    refine ⟨_, rfl, _, rfl, r, _, _, _, rfl, rfl, SqL.of (s1.at hR), atI_nat (at_refs hu), ?_⟩
    dsimp only [gName]
    have hwb := hw (ws.getD i 0) (List.mem_of_getElem? (gd_some (by omega)))
    refine seq_with (fun σ' H1 => H1 = upd H' pp (.tup [.int i, .int n]) ∧ σ' = [some (.ref a), some (.ref r), some (.ref b), some (.int (PS ns ws fs i)), some (.int i), some (.int n), some (.ref u)] ∧ (∀ j, j + 1 < i + 1 → fs.getD j fz ≠ fs.getD (j + 1) fz → PS ns ws fs (j + 1) = 0)) ?_ (fun cont => ?_)
    · rintro σ' H1 ⟨rfl, rfl, hch'⟩
      refine ⟨_, rfl, _, rfl, _, rfl, b, _, _, _, rfl, rfl, SqL.of (s1.at hB), atI_gd rfl (by omega), _, rfl, _, rfl, u, _, _, _, rfl, rfl, SqT.of hU, rfl, _, _, rfl, rfl, .inr ⟨by omega, by omega⟩, _, rfl, u, _, _, _, rfl, rfl, SqT.of hU, rfl, _, _, rfl, rfl, _, _, rfl, rfl, .inl ⟨by omega, by omega⟩, _, _, rfl, rfl, ?_⟩
      have e1 : PS ns ws fs i + ws.getD i 0 * (n * (fs.getD i fz).2 - (fs.getD i fz).1) = PS ns ws fs (i + 1) := by rw [PS_succ]; unfold lk0; rw [en]
      dsimp only
      rw [e1]
      refine ⟨_, rfl, _, _, rfl, rfl, _, rfl, iteD (fun g => q _ _ (ff_iff fun z => ?_) s1) (fun g => ?_)⟩
      · have := z.nn (i + 1) hi
        omega
      · refine ⟨s1, _, _, _, rfl, fun k hk => ?_, hch'⟩
        by_cases hki : k = i + 1
        · subst hki; omega
        · exact hnn k (by omega)
    · refine ⟨_, rfl, _, _, rfl, rfl, _, rfl, iteD (fun g => ?_) (fun g => ?_)⟩
      · obtain ⟨v, hv, hV⟩ := fr_get (hF.same s1) (i := i - 1) (by omega)
        refine ⟨_, rfl, _, rfl, _, rfl, _, _, rfl, rfl, r, _, _, _, rfl, rfl, SqL.of (s1.at hR), (by rw [show ((i : Int) - 1) = ((i - 1 : Nat) : Int) by omega]; exact atI_nat (at_refs hv)), u, v, _, _, _, _, rfl, rfl, SqT.of hU, SqT.of hV, _, rfl, ?_⟩
        by_cases hne : fs.getD i fz = fs.getD (i - 1) fz
        · refine iteNF (Prod.ext_iff.mp hne |> fun z => by rw [z.1, z.2]) (iteF (cont _ _ ⟨rfl, rfl, fun j hj hd => ?_⟩))
          by_cases hji : j + 1 = i
          · subst hji
            rw [Nat.add_sub_cancel] at hne
            exact absurd hne.symm hd
          · exact hch j (by omega) hd
        · refine iteNT (fun z => hne (Prod.ext (congrArg Prod.fst z) (congrArg Prod.snd z))) ?_
          refine ⟨_, rfl, rfl, _, rfl, ?_⟩
          by_cases h0 : PS ns ws fs i = 0
          · refine iteNF (by rw [h0]) (cont _ _ ⟨rfl, rfl, fun j hj hd => ?_⟩)
            by_cases hji : j + 1 = i
            · rw [hji]; exact h0
            · exact hch j (by omega) hd
          · refine iteNT (fun z => h0 (int_iff.mp z)) (q _ _ (ff_iff fun z => h0 ?_) s1)
            have y := z.ch (i - 1) (by omega)
            rw [show i - 1 + 1 = i by omega] at y
            exact y fun w => hne w.symm
      · refine iteF (cont _ _ ⟨rfl, rfl, fun j hj hd => ?_⟩)
        omega
  · rintro σ H' ⟨sm, v4, v5, v6, rfl, hnn, hch⟩
    rw [List.length_map] at hnn hch
    refine ⟨_, rfl, rfl, q _ _ ?_ sm⟩
    rw [decide_eq_true_iff, int_iff, List.length_map]
    exact ⟨fun z => ⟨hnn, z, hch⟩, fun z => z.tot⟩
theorem ok_Squared___init__ (M : Bn mg) (C_Squared : ClsA K mg "Squared" c.Squared) (N_Squared : NaSquared K c.Squared) (F : Fun K "__init__" "Squared.__init__" s_Squared___init__ f fd) : FnOk P w K mg base CX0 1 f fd ["self", "row"] (spSqInit c) := by
  refine F.ok sc_Squared___init__ (fun vs H Q E h => ?_) (fun cdv A outer s H vs Q E hr h => ?_)
  · obtain ⟨x, r, dx, rs, fs, rfl, _⟩ := h; rfl
  obtain ⟨x, r, dx, rs, fs, rfl, hx, hR, hF, q⟩ := h
  refine ⟨_, (pss_one (ps_fld (pv 0) (pe_callTy call_list_of rfl M.list' boot_listT (pa_cons (pv 1) pa_nil)) rfl)), ?_⟩
  refine ⟨_, rfl, r, _, rfl, .inl (SqL.of hR), fun l hl => ?_⟩
  have nxl : x ≠ l := ne_of_none hx hl
  refine ⟨_, rfl, x, _, dx, _, rfl, (by rw [upd_ne nxl]; exact hx), C_Squared.cl, N_Squared.r, (by show 0 < 1000; decide), ?_⟩
  have kp : Kept H (upd (upd H l (.lst (rs.map V.ref))) x (.ins c.Squared dx (putF "row" (.ref l) []))) x := fun b o e hb => by rw [upd_ne hb, upd_ne (ne_of_none e hl)]; exact e
  refine q l _ hl ⟨⟨dx, _, upd_same, ?_, ?_⟩, ?_, hF.1, fun i u f e1 e2 => ?_⟩ kp
  · rw [lookup_putF, if_pos rfl]
  · rw [lookup_putF, if_neg (by decide +kernel)]; rfl
  · rw [upd_ne nxl.symm, upd_same]
  · have z := hF.2 i u f e1 e2
    exact kp _ _ z (ne_of z hx (by intro w; cases w))
theorem ok_Squared_shows (M : Bn mg) (C_Squared : ClsA K mg "Squared" c.Squared) (N_Squared : NaSquared K c.Squared) (F_is_list_of_wholes : FnA P w K mg base "is_list_of_wholes" ["values"] 3 spListW) (F_are_weights : FnA P w K mg base "are_weights" ["numbers", "weights"] 5 spWts) (F_is_fraction_row : FnA P w K mg base "is_fraction_row" ["numbers", "row"] 4 spRowF) (F_fractions_rise : FnA P w K mg base "fractions_rise" ["row"] 3 spFRise) (F_lacks_show : FnA P w K mg base "lacks_show" ["numbers", "row", "weights"] 1 spLacks) (F : Fun K "shows" "Squared.shows" s_Squared_shows f fd) : FnOk P w K mg base CX0 6 f fd ["self", "numbers", "weights"] (spSqShows c) := by
  refine F.ok sc_Squared_shows (fun vs H Q E h => ?_) (fun cdv A outer s H vs Q E hr h => ?_)
  · obtain ⟨x, a, b, r, ns, ws, rs, fs, rfl, _⟩ := h; rfl
  obtain ⟨x, a, b, r, ns, ws, rs, fs, rfl, hX, hA, hB, h1, h2, hl, hok, hw, q⟩ := h
  refine ⟨_, (pss_cons (ps_if (PW.pt (pw_or (pt_not (pt_val (pe_callA F_is_list_of_wholes (hr.mono (by decide)) rfl (pa_cons (pv 1) pa_nil)))) (pw_or1 (pt_not (pt_val (pe_callA F_are_weights (hr.mono (by decide)) rfl (pa_cons (pv 1) (pa_cons (pv 2) pa_nil)))))))) (pss_one (ps_ret pe_bl)) pss_nil)
      (pss_cons (ps_if (PW.pt (pw_or (pt_not (pt_val (pe_callA F_is_fraction_row (hr.mono (by decide)) rfl (pa_cons (pv 1) (pa_cons (pe_fld (pv 0) rfl) pa_nil))))) (pw_or1 (pt_not (pt_val (pe_callA F_fractions_rise (hr.mono (by decide)) rfl (pa_cons (pe_fld (pv 0) rfl) pa_nil))))))) (pss_one (ps_ret pe_bl)) pss_nil)
      (pss_one (ps_ret (pe_callA F_lacks_show (hr.mono (by decide)) rfl (pa_cons (pv 1) (pa_cons (pe_fld (pv 0) rfl) (pa_cons (pv 2) pa_nil)))))))), ?_⟩
  obtain ⟨dx, fl, ob, l1, l2⟩ := hX.ob
  refine ⟨_, rfl, a, ns, rfl, hA, h1, fun H1 s1 => ⟨true, rfl, iteF ?_⟩⟩
  refine ⟨_, rfl, _, rfl, a, b, ns, ws, rfl, s1.at hA, s1.at hB, h1, hl, hw.one, fun H2 s2 => ⟨true, rfl, iteF ?_⟩⟩
  have s12 := s1.trans s2
  refine ⟨_, rfl, _, rfl, x, _, dx, fl, _, rfl, s12.at ob, C_Squared.cl, N_Squared.r, l1, a, r, ns, rs, fs, rfl, s12.at hA, s12.at hX.rl, hX.fr.same s12, h1, h2, (fun f hf => ⟨(hok f hf).1, (hok f hf).2.2⟩), fun b3 H3 hb3 s3 => ⟨b3, rfl, ?_⟩⟩
  have s13 := s12.trans s3
  cases b3 with
  | false => exact iteT (iteT (q _ _ (ff_iff fun z => by have := hb3.mpr z.len; cases this) s13))
  | true =>
    have g1 := hb3.mp rfl
    refine iteF ?_
    refine ⟨_, rfl, x, _, dx, fl, _, rfl, s13.at ob, C_Squared.cl, N_Squared.r, l1, r, rs, fs, rfl, s13.at hX.rl, hX.fr.same s13, h2, hok, fun b4 H4 hb4 s4 => ⟨b4, rfl, ?_⟩⟩
    have s14 := s13.trans s4
    rw [g1] at hb4
    cases b4 with
    | false => exact iteT (q _ _ (ff_iff fun z => by have := hb4.mpr z.ris; cases this) s14)
    | true =>
      have g2 := hb4.mp rfl
      refine iteF ?_
      refine ⟨_, rfl, _, rfl, x, _, dx, fl, _, rfl, s14.at ob, C_Squared.cl, N_Squared.r, l1, _, rfl, a, r, b, ns, ws, rs, fs, rfl, s14.at hA, s14.at hX.rl, s14.at hB, hX.fr.same s14, h1, g1, hl, hok, hw, fun b5 H5 hb5 s5 => q _ _ ?_ (s14.trans s5)⟩
      rw [hb5]
      exact ⟨fun z => ⟨g1, g2, z.nn, z.tot, z.ch⟩, fun z => ⟨z.nn, z.tot, z.ch⟩⟩
theorem ok_joined (M : Bn mg) (F : Fun K "joined" "joined" s_joined f fd) : FnOk P w K mg base CX0 1 f fd ["one", "other"] spJoin := by
  refine F.ok sc_joined (fun vs H Q E h => ?_) (fun cdv A outer s H vs Q E hr h => ?_)
  · obtain ⟨a, b, s', t', rfl, _⟩ := h; rfl
  obtain ⟨a, b, s', t', rfl, hA, hB, q⟩ := h
  refine ⟨_, (pss_one (ps_ret (pe_tup (pa_cons (pe_op op_add (pe_ix ix_tup (pv 0) pe_int (fun _ _ => rfl)) (pe_ix ix_tup (pv 1) pe_int (fun _ _ => rfl))) (pa_cons (pe_op op_add (pe_ix ix_tup (pv 0) pe_int (fun _ _ => rfl)) (pe_ix ix_tup (pv 1) pe_int (fun _ _ => rfl))) (pa_cons (pe_op op_add (pe_ix ix_tup (pv 0) pe_int (fun _ _ => rfl)) (pe_ix ix_tup (pv 1) pe_int (fun _ _ => rfl))) pa_nil)))))), ?_⟩
  exact ⟨_, rfl, a, _, 0, _, rfl, rfl, SqT.of hA, rfl, _, rfl, b, _, 0, _, rfl, rfl, SqT.of hB, rfl, _, _, rfl, rfl, _, rfl, a, _, 1, _, rfl, rfl, SqT.of hA, rfl, _, rfl, b, _, 1, _, rfl, rfl, SqT.of hB, rfl, _, _, rfl, rfl, _, rfl, a, _, 2, _, rfl, rfl, SqT.of hA, rfl, _, rfl, b, _, 2, _, rfl, rfl, SqT.of hB, rfl, _, _, rfl, rfl,
    (by show 3 ≤ sizeLine; decide), fun p hp => q p hp⟩
theorem ok_level_runs (M : Bn mg) (F_is_less : FnA P w K mg base "is_less" ["one", "other"] 1 spLess) (F_joined : FnA P w K mg base "joined" ["one", "other"] 1 spJoin) (F : Fun K "level_runs" "level_runs" s_level_runs f fd) : FnOk P w K mg base CX0 2 f fd ["numbers", "weights"] spRuns := by
  refine F.ok sc_level_runs (fun vs H Q E h => ?_) (fun cdv A outer s H vs Q E hr h => ?_)
  · obtain ⟨a, b, ns, ws, rfl, _⟩ := h; rfl
  obtain ⟨a, b, ns, ws, rfl, hA, hB, h1k, hl, hw, q⟩ := h
  refine ⟨_, (pss_cons (ps_set (i := 2) sc_level_runs.nd rfl (Or.inl rfl) (pe_lst pa_nil))
      (pss_cons (ps_for PassesOwn.never rfl (pi_zip rfl M.zip' (pa_cons (pv 0) (pa_cons (pv 1) pa_nil))) (pg_two (K := K) (i := 3) (j := 4) rfl rfl sc_level_runs.nd rfl rfl rfl rfl) (pss_cons (ps_set (i := 5) sc_level_runs.nd rfl (Or.inl rfl) (pe_tup (pa_cons (pe_op op_mul (pv 3) (pv 4)) (pa_cons (pv 4) (pa_cons pe_int pa_nil)))))
      (pss_cons (ps_while PassesOwn.never (PW.pt (pw_and (pt_cmpR (op_neE hr.units) (pv 2) (pe_lst pa_nil) (nomark _)) (pw_and1 (pt_not (pt_val (pe_callA F_is_less (hr.mono (by decide)) rfl (pa_cons (pe_ix ix_list (pv 2) (pe_un un_neg pe_int) (fun _ _ => rfl)) (pa_cons (pv 5) pa_nil)))))))) (pss_one (ps_set (i := 5) sc_level_runs.nd rfl (Or.inl rfl) (pe_callA F_joined (hr.mono (by decide)) rfl (pa_cons (pe_bm0 PySem.F.plainAttrs_list PySem.F.slot_list_pop PySem.F.type_list_pop mt_pop (pv 2)) (pa_cons (pv 5) pa_nil))))))
      (pss_one (ps_expr (pe_bm PySem.F.plainAttrs_list PySem.F.slot_list_append PySem.F.type_list_append mt_append (pv 2) (pa_cons (pv 5) pa_nil)))))))
      (pss_one (ps_ret (pv 2))))), ?_⟩
  refine ⟨Nat.zero_le _, fun p hp => ?_⟩
  have s0 : Same H (upd H p (.lst [])) := same_new hp _
  have mB := SB_mono hw.one
  refine ⟨_, rfl, _, rfl, a, b, rfl, ⟨_, SqL.of (s0.at hA)⟩, ⟨_, SqL.of (s0.at hB)⟩, ?_⟩
  refine for_zip (xs := ns.map V.int) (zs := ws.map V.int) (by rw [List.length_map, List.length_map, hl]) (fun i σ H' => Same H H' ∧ ∃ (rr : List Addr) (rs : List (Int × Int × Int)) (v3 v4 v5 : Option V), σ = [some (.ref a), some (.ref b), some (.ref p), v3, v4, v5] ∧ H' p = some (.lst (rr.map V.ref)) ∧ TrAt H' rr rs ∧ Runs (SA ns ws) (SB ws) rs i ∧ rs.length ≤ i)
    ⟨s0, [], [], _, _, _, rfl, upd_same, ⟨rfl, fun i r t e => by simp at e⟩, .nil, Nat.le_refl _⟩ (fun i σ H' _ h => ⟨SqL.of (h.1.at hA), SqL.of (h.1.at hB)⟩) ?_ ?_
  · rintro i x z σ H' pp hx hz ⟨sm, rr, rs, v3, v4, v5, rfl, hP, hT, hRuns, hrl⟩ hpp
    obtain ⟨n, hn, rfl⟩ := ints_at hx
    obtain ⟨w', hw', rfl⟩ := ints_at hz
    have hi : i < ns.length := (List.getElem?_eq_some_iff.mp hn).1
    have en : ns.getD i 0 = n := gd_of hn
    have ew : ws.getD i 0 = w' := gd_of hw'
    have hwb := hw w' (List.mem_of_getElem? hw')
    have s1 : Same H' (upd H' pp (.tup [.int n, .int w'])) := same_new hpp _
    refine ⟨pp, _, rfl, SqT.of upd_same, rfl, _, _, rfl, _, _, rfl, rfl, ?_⟩
    refine ⟨_, rfl, _, rfl, _, _, rfl, rfl, .inr ⟨by omega, by omega⟩, _, rfl, (by show 3 ≤ sizeLine; decide), fun ru hru => ?_⟩
    have s2 := same_new hru (.tup [.int (n * w'), .int w', .int 1])
    have s12 := s1.trans s2
    have b0 : Blk (SA ns ws) (SB ws) i (i + 1) (n * w') w' := Blk.one (by show SA ns ws i + ns.getD i 0 * ws.getD i 0 = _; rw [en, ew]) (by show SB ws i + ws.getD i 0 = _; rw [ew]) (by omega)
    refine while_by (fun σ H1 => Same H H1 ∧ ∃ (rr : List Addr) (rs : List (Int × Int × Int)) (lo : Nat) (S W : Int) (ru : Addr), σ = [some (.ref a), some (.ref b), some (.ref p), some (.int n), some (.int w'), some (.ref ru)] ∧ H1 p = some (.lst (rr.map V.ref)) ∧ TrAt H1 rr rs ∧ Runs (SA ns ws) (SB ws) rs lo ∧ Blk (SA ns ws) (SB ws) lo (i + 1) S W ∧
        H1 ru = some (.tup [.int S, .int W, .int ((i : Int) + 1 - lo)]) ∧ rs.length ≤ i)
      (fun _ H1 => match H1 p with | some (.lst xs) => xs.length | _ => 0) ⟨sm.trans s12, rr, rs, i, _, _, ru, rfl, s12.at hP, hT.same s12, hRuns, b0, ?_, hrl⟩ ?_
      (mono_and (mono_test (mono_op mono_rLE (mono_var _) (mono_lst mono_nil))) (mono_not (mono_B (mono_call (fun vs H Q Q' h ⟨a, c, a0, a1, c0, c1, xa, xc, e, h1, h2, h3, h4, h5, h6, h7, h8, h9, h10, q⟩ => ⟨a, c, a0, a1, c0, c1, xa, xc, e, h1, h2, h3, h4, h5, h6, h7, h8, h9, h10, h _ _ q⟩)
        (mono_cons (mono_op mono_rIxL (mono_var _) (mono_un mono_rU (mono_c _))) (mono_cons (mono_var _) mono_nil))))))
    · rw [upd_same, show ((i : Int) + 1 - (i : Int)) = 1 by omega]
    rintro σ H1 ⟨sm1, rr, rs, lo, S, W, ru, rfl, hP, hT, hRuns, hBk, hru, hrl⟩
    refine ⟨_, rfl, Nat.zero_le _, fun e he => ⟨p, e, _, rfl, rfl, SqL.of ((same_new he _).at hP), SqL.of upd_same, _, rfl, ?_⟩⟩
    have se : Same H1 (upd H1 e (.lst [])) := same_new he _
    rcases List.eq_nil_or_concat rs with e0 | ⟨rs', t, e0⟩
    · have hrr : rr = [] := by have := hT.1; rw [e0] at this; exact List.eq_nil_of_length_eq_zero this
      have hz : (rr.map V.ref).isEmpty = true := by rw [hrr]; rfl
      rw [hz]
      exact iteF (iteF ⟨_, rfl, .inl ⟨rfl, _, SqL.of (se.at hP)⟩, _, rfl, p, _, _, rfl, rfl, se.at hP, (by rw [List.length_map, hT.1]; exact small1000 (by omega)), (sm1.trans se).upd hp _, _, _, _, _, _, rfl, (by rw [upd_same]; exact (congrArg (fun l => some (HO.lst l)) (List.map_append (l₁ := _) (l₂ := [ru]) (f := V.ref)).symm)),
          ((hT.same se).snoc (u := ru) (t := (S, W, (((i + 1 : Nat) : Int) - (lo : Int)))) (se.at hru)).upd (se.at hP) _, .snoc hRuns hBk (fun r hr => by rw [e0] at hr; simp at hr), (by rw [List.length_append]; show _ + 1 ≤ _; omega)⟩)
    · rw [List.concat_eq_append] at e0
      subst e0
      rcases List.eq_nil_or_concat rr with e1 | ⟨rr', u, e1⟩
      · have := hT.1
        rw [e1, List.length_append] at this
        simp at this
      rw [List.concat_eq_append] at e1
      subst e1
      have hz : ((rr' ++ [u]).map V.ref).isEmpty = false := by rw [List.map_append]; simp
      rw [hz]
      refine iteT ?_
      obtain ⟨hT', hU⟩ := hT.init
      obtain ⟨lo', hRuns', hBk', hcnt⟩ := hRuns.inv
      have hi1 : i + 1 ≤ 1000 := by omega
      have sm1' := Blk.small hw hBk hi1
      have sm2' := Blk.small hw hBk' (by have := hBk.lt; omega)
      have hP2 : H1 p = some (.lst (rr'.map V.ref ++ [.ref u])) := by rw [hP, List.map_append]; rfl
      refine ⟨_, rfl, _, rfl, p, _, _, _, rfl, rfl, SqL.of (se.at hP2), atI_last _ _, _, rfl, u, ru, _, _, _, _, _, _, rfl, se.at hU, se.at hru, rfl, rfl, rfl, rfl, sm2'.1, sm2'.2, sm1'.1, sm1'.2, _, rfl, ?_⟩
      by_cases hlt : t.1 * W < S * t.2.1
      · exact iteNF hlt ⟨_, rfl, .inl ⟨rfl, _, SqL.of (se.at hP)⟩, _, rfl, p, _, _, rfl, rfl, se.at hP, (by rw [List.length_map, hT.1]; exact small1000 (by omega)), (sm1.trans se).upd hp _, _, _, _, _, _, rfl, (by rw [upd_same]; exact (congrArg (fun l => some (HO.lst l)) (List.map_append (l₁ := _) (l₂ := [ru]) (f := V.ref)).symm)),
          ((hT.same se).snoc (u := ru) (t := (S, W, (((i + 1 : Nat) : Int) - (lo : Int)))) (se.at hru)).upd (se.at hP) _, .snoc hRuns hBk (fun r hr => by rw [List.getLast?_append] at hr; have hr' : r = t := (by simpa using hr.symm); rw [hr']; exact hlt), (by rw [List.length_append]; show _ + 1 ≤ _; omega)⟩
      · refine iteNT hlt ?_
        refine ⟨_, rfl, .inl ⟨rfl, _, SqL.of (se.at hP2)⟩, p, _, .ref u, rfl, rfl, se.at hP2, (by rw [List.length_append]; show (rr'.map V.ref ++ [V.ref u])[(rr'.map V.ref).length + 1 - 1]? = _; rw [Nat.add_sub_cancel, List.getElem?_append_right (Nat.le_refl _), Nat.sub_self]; rfl), ?_⟩
        rw [List.dropLast_concat]
        have npu : u ≠ p := ne_of hU hP (by intro w; cases w)
        have npr : ru ≠ p := ne_of hru hP (by intro w; cases w)
        refine ⟨_, rfl, u, ru, t, (S, W, (i : Int) + 1 - lo), rfl, (by rw [upd_ne npu]; exact se.at hU), (by rw [upd_ne npr]; exact se.at hru), fun nu hnu => ?_⟩
        have sd := same_new hnu (.tup [.int (t.1 + S), .int (t.2.1 + W), .int (t.2.2 + ((i : Int) + 1 - lo))])
        have hPd : (upd (upd (upd H1 e (.lst [])) p (.lst (rr'.map V.ref))) nu (.tup [.int (t.1 + S), .int (t.2.1 + W), .int (t.2.2 + ((i : Int) + 1 - lo))])) p = some (.lst (rr'.map V.ref)) := sd.at upd_same
        refine ⟨⟨((sm1.trans se).upd hp _).trans sd, rr', rs', lo', t.1 + S, t.2.1 + W, nu, rfl, hPd, ((hT'.same se).upd (se.at hP) _).same sd, hRuns', hBk'.join mB hBk (by omega), ?_, ?_⟩, ?_⟩
        · rw [upd_same, hcnt, show ((lo : Int) - (lo' : Int) + ((i : Int) + 1 - (lo : Int))) = (i : Int) + 1 - (lo' : Int) by omega]
        · rw [List.length_append] at hrl
          have : [t].length = 1 := rfl
          omega
        · rw [hPd, hP]
          simp
  · rintro σ H' ⟨sm, rr, rs, v3, v4, v5, rfl, hP, hT, hRuns, _⟩
    rw [List.length_map] at hRuns
    exact ⟨_, rfl, q p rr rs H' sm hp hP hT hRuns⟩
theorem ok_put_in (M : Bn mg) (F : Fun K "put_in" "put_in" s_put_in f fd) : FnOk P w K mg base CX0 1 f fd ["heap", "value", "share"] spPut := by
  refine F.ok sc_put_in (fun vs H Q E h => ?_) (fun cdv A outer s H vs Q E hr h => ?_)
  · obtain ⟨h, hs, n, f, v, s', rfl, _⟩ := h; rfl
  obtain ⟨h, hs, n, f0, v, s', rfl, hP, hH, hn, hok, hpos, hs0, q⟩ := h
  refine ⟨_, (pss_cons (ps_expr (pe_bm PySem.F.plainAttrs_list PySem.F.slot_list_append PySem.F.type_list_append mt_append (pv 0) (pa_cons (pe_tup (pa_cons (pv 1) (pa_cons (pv 2) pa_nil))) pa_nil)))
      (pss_cons (ps_set (i := 3) sc_put_in.nd rfl (Or.inl rfl) (pe_op op_sub (pe_callB call_len_seq rfl M.len' PySem.boot_len (pa_cons (pv 0) pa_nil)) pe_int))
      (pss_cons (ps_while PassesOwn.never (PW.pt (pw_and (pt_cmpR op_gt (pv 3) pe_int (nomark _)) (pw_and1 (pt_cmpR op_lt (pe_ix ix_tup (pe_ix ix_list (pv 0) (pe_op op_fdivB (pe_op op_sub (pv 3) pe_int) pe_int) (fun _ _ => rfl)) pe_int (fun _ _ => rfl)) (pv 1) (nomark _))))) (pss_cons (ps_asg (pe_ix ix_list (pv 0) (pe_op op_fdivB (pe_op op_sub (pv 3) pe_int) pe_int) (fun _ _ => rfl)) (pg_sub (pv 0) (pv 3) set_list))
      (pss_one (ps_set (i := 3) sc_put_in.nd rfl (Or.inl rfl) (pe_op op_fdivB (pe_op op_sub (pv 3) pe_int) pe_int)))))
      (pss_one (ps_asg (pe_tup (pa_cons (pv 1) (pa_cons (pv 2) pa_nil))) (pg_sub (pv 0) (pv 3) set_list)))))), ?_⟩
  refine ⟨_, rfl, .inl ⟨rfl, _, SqL.of hP⟩, _, rfl, _, rfl, (by show 2 ≤ sizeLine; decide), fun t ht => ?_⟩
  have s1 := same_new ht (.tup [.int v, .int s'])
  refine ⟨h, _, _, rfl, rfl, s1.at hP, (by rw [List.length_map, hH.1]; exact small1000 (by omega)), ?_⟩
  have k0 : Kept H (upd (upd H t (.tup [.int v, .int s'])) h (.lst (hs.map V.ref ++ [.ref t]))) h := (Kept.ofSame s1).trans kept_upd
  have hA0 : HpAt (upd (upd H t (.tup [.int v, .int s'])) h (.lst (hs.map V.ref ++ [.ref t]))) (hs ++ [t]) (n + 1) (fset f0 n (v, s')) := ((hH.same s1).snoc (y := (v, s')) upd_same).kept (s1.at hP) kept_upd
  generalize hH2 : upd (upd H t (.tup [.int v, .int s'])) h (.lst (hs.map V.ref ++ [.ref t])) = H2 at k0 hA0 ⊢
  have hP2 : H2 h = some (.lst ((hs ++ [t]).map V.ref)) := by rw [← hH2, upd_same, List.map_append]; rfl
  refine ⟨_, rfl, h, _, rfl, .inl (SqL.of hP2), _, _, rfl, rfl, ?_⟩
  have eL : (((((hs ++ [t]).map V.ref).length : Nat) : Int) - 1) = ((n : Nat) : Int) := by rw [List.length_map, List.length_append, hH.1]; show ((n + 1 : Nat) : Int) - 1 = _; omega
  refine while_by (fun σ H1 => Kept H H1 h ∧ ∃ (hs1 : List Addr) (f : PF) (pl : Nat), σ = [some (.ref h), some (.int v), some (.int s'), some (.int pl)] ∧ H1 h = some (.lst (hs1.map V.ref)) ∧ HpAt H1 hs1 (n + 1) f ∧ PutI f0 f n pl (v, s'))
    (fun σ _ => match σ with | [_, _, _, some (.int p)] => p.toNat | _ => 0) ⟨k0, _, _, n, congrArg (fun z => [some (V.ref h), some (V.int v), some (V.int s'), some (V.int z)]) eL, hP2, hA0, PutI.start hok hpos hs0⟩ ?_
    (mono_and (mono_test (mono_op mono_rI0 (mono_var _) (mono_c _))) (mono_test (mono_op mono_rI0 (mono_op mono_rIxT (mono_op mono_rIxL (mono_var _) (mono_op mono_rI (mono_op mono_rI0 (mono_var _) (mono_c _)) (mono_c _))) (mono_c _)) (mono_var _))))
  rintro σ H1 ⟨kp, hs1, f, pl, rfl, hP1, hH1, hI⟩
  have hlt := hI.lt
  have fin : pl = 0 ∨ ¬ ((f (par pl)).1 < v) → ∀ t', H1 t' = none → Q .non (upd (upd H1 t' (.tup [.int v, .int s'])) h (.lst ((hs1.map V.ref).set pl (.ref t')))) := fun hd t' ht' => by
    have s2 := same_new ht' (.tup [.int v, .int s'])
    refine q (hs1.set pl t') (fset f pl (v, s')) _ (kp.trans ((Kept.ofSame s2).trans kept_upd)) (by rw [upd_same, set_map]) (((hH1.same s2).set hlt (y := (v, s')) upd_same).kept (s2.at hP1) kept_upd) (hI.done hd) hI.pos hI.sum
  refine ⟨_, rfl, _, _, rfl, rfl, _, rfl, iteD (fun g1 => ?_) (fun g1 => ?_)⟩
  · have hp0 : 0 < pl := by omega
    have hpp : par pl < n + 1 := by unfold par; omega
    obtain ⟨r, hr, hR⟩ := hH1.2 (par pl) hpp
    have aR : atI (hs1.map V.ref) (((pl : Int) - 1) / 2) = some (.ref r) := by rw [par_int hp0]; exact atI_nat (at_refs hr)
    refine ⟨_, rfl, _, rfl, _, _, rfl, rfl, _, _, rfl, rfl, ⟨by decide, by decide⟩, h, _, _, _, rfl, rfl, SqL.of hP1, aR, r, _, _, _, rfl, rfl, SqT.of hR, rfl, _, rfl, _, _, rfl, rfl, _, rfl, iteD (fun g2 => ?_) (fun g2 => ?_)⟩
    · refine ⟨_, rfl, _, rfl, _, _, rfl, rfl, _, _, rfl, rfl, ⟨by decide, by decide⟩, h, _, _, _, rfl, rfl, SqL.of hP1, aR, _, rfl, _, rfl, h, _, _, pl, rfl, rfl, hP1, ixN_nat (by rw [List.length_map, hH1.1]; exact hlt), ?_⟩
      refine ⟨_, rfl, _, _, rfl, rfl, _, _, rfl, rfl, ⟨by decide, by decide⟩, ?_⟩
      refine ⟨⟨kp.trans kept_upd, hs1.set pl r, fset f pl (f (par pl)), par pl, congrArg (fun z => [some (V.ref h), some (V.int v), some (V.int s'), some (V.int z)]) (par_int hp0), by rw [upd_same, set_map], (hH1.set hlt hR).kept hP1 kept_upd, hI.step hp0 g2⟩, ?_⟩
      show (((pl : Int) - 1) / 2).toNat < ((pl : Nat) : Int).toNat
      omega
    · exact ⟨_, rfl, _, rfl, (by show 2 ≤ sizeLine; decide), fun t' ht' => ⟨_, rfl, _, rfl, h, _, _, pl, rfl, rfl, (same_new ht' _).at hP1, ixN_nat (by rw [List.length_map, hH1.1]; exact hlt), fin (.inr g2) t' ht'⟩⟩
  · exact iteF ⟨_, rfl, _, rfl, (by show 2 ≤ sizeLine; decide), fun t' ht' => ⟨_, rfl, _, rfl, h, _, _, pl, rfl, rfl, (same_new ht' _).at hP1, ixN_nat (by rw [List.length_map, hH1.1]; exact hlt), fin (.inl (by omega)) t' ht'⟩⟩
theorem ok_greater_below (M : Bn mg) (F : Fun K "greater_below" "greater_below" s_greater_below f fd) : FnOk P w K mg base CX0 1 f fd ["heap", "place"] spGrB := by
  refine F.ok sc_greater_below (fun vs H Q E h => ?_) (fun cdv A outer s H vs Q E hr h => ?_)
  · obtain ⟨h, hs, n, f, p, rfl, _⟩ := h; rfl
  obtain ⟨h, hs, n, f, p, rfl, hP, hH, q⟩ := h
  refine ⟨_, (pss_cons (ps_set (i := 2) sc_greater_below.nd rfl (Or.inl rfl) (pe_op op_add (pe_op op_mul pe_int (pv 1)) pe_int))
      (pss_cons (ps_if (PW.pt (pw_and (pt_cmpR op_lt (pe_op op_add (pv 2) pe_int) (pe_callB call_len_seq rfl M.len' PySem.boot_len (pa_cons (pv 0) pa_nil)) (nomark _)) (pw_and1 (pt_cmpR op_gt (pe_ix ix_tup (pe_ix ix_list (pv 0) (pe_op op_add (pv 2) pe_int) (fun _ _ => rfl)) pe_int (fun _ _ => rfl)) (pe_ix ix_tup (pe_ix ix_list (pv 0) (pv 2) (fun _ _ => rfl)) pe_int (fun _ _ => rfl)) (nomark _))))) (pss_one (ps_ret (pe_op op_add (pv 2) pe_int))) pss_nil)
      (pss_one (ps_ret (pv 2))))), ?_⟩
  refine ⟨_, rfl, _, _, rfl, rfl, .inl ⟨by decide, by decide⟩, _, _, rfl, rfl, ?_⟩
  have e1 : (2 * (p : Int) + 1) = ((2 * p + 1 : Nat) : Int) := by omega
  have e2 : (2 * (p : Int) + 1 + 1) = ((2 * p + 2 : Nat) : Int) := by omega
  have leaf : ¬ (2 * p + 2 < n ∧ (f (2 * p + 1)).1 < (f (2 * p + 2)).1) → GrB f n p (2 * p + 1) := fun hn => ⟨.inl rfl, fun c c0 cn cp => by
    rcases (par_kids p c c0).mp cp with z | z
    · subst z; exact ⟨cn, Int.le_refl _⟩
    · subst z; refine ⟨by omega, ?_⟩
      refine Classical.byContradiction fun w => hn ⟨cn, by omega⟩⟩
  refine ⟨_, rfl, _, _, rfl, rfl, _, rfl, h, _, rfl, .inl (SqL.of hP), _, _, rfl, rfl, _, rfl, iteD (fun g1 => ?_) (fun g1 => ?_)⟩
  · rw [List.length_map, hH.1] at g1
    have g1' : 2 * p + 2 < n := by omega
    obtain ⟨r1, hr1, hR1⟩ := hH.2 (2 * p + 1) (by omega)
    obtain ⟨r2, hr2, hR2⟩ := hH.2 (2 * p + 2) g1'
    refine ⟨_, rfl, _, rfl, _, _, rfl, rfl, h, _, _, _, rfl, rfl, SqL.of hP, (by rw [e2]; exact atI_nat (at_refs hr2)), r2, _, _, _, rfl, rfl, SqT.of hR2, rfl, _, rfl, _, rfl, h, _, _, _, rfl, rfl, SqL.of hP, (by rw [e1]; exact atI_nat (at_refs hr1)), r1, _, _, _, rfl, rfl, SqT.of hR1, rfl, _, _, rfl, rfl, _, rfl, iteD (fun g2 => ?_) (fun g2 => ?_)⟩
    · refine ⟨_, rfl, _, _, rfl, rfl, ?_⟩
      show Q (.int (2 * (p : Int) + 1 + 1)) H
      rw [e2]
      refine q (2 * p + 2) ⟨.inr rfl, fun c c0 cn cp => ⟨g1', ?_⟩⟩
      rcases (par_kids p c c0).mp cp with z | z
      · subst z; omega
      · subst z; exact Int.le_refl _
    · refine ⟨_, rfl, ?_⟩
      show Q (.int (2 * (p : Int) + 1)) H
      rw [e1]
      exact q _ (leaf fun z => g2 z.2)
  · refine iteF ⟨_, rfl, ?_⟩
    show Q (.int (2 * (p : Int) + 1)) H
    rw [e1]
    refine q _ (leaf fun z => g1 ?_)
    rw [List.length_map, hH.1]
    omega
theorem ok_take_top (M : Bn mg) (F_greater_below : FnA P w K mg base "greater_below" ["heap", "place"] 1 spGrB) (F : Fun K "take_top" "take_top" s_take_top f fd) : FnOk P w K mg base CX0 2 f fd ["heap"] spTake := by
  refine F.ok sc_take_top (fun vs H Q E h => ?_) (fun cdv A outer s H vs Q E hr h => ?_)
  · obtain ⟨h, hs, n, f, rfl, _⟩ := h; rfl
  obtain ⟨h, hs, n, f0, rfl, hP, hH, hok, hpos, q⟩ := h
  refine ⟨_, (pss_cons (ps_set (i := 1) sc_take_top.nd rfl (Or.inl rfl) (pe_bm0 PySem.F.plainAttrs_list PySem.F.slot_list_pop PySem.F.type_list_pop mt_pop (pv 0)))
      (pss_cons (ps_if (pt_cmpR (op_eqE hr.units) (pv 0) (pe_lst pa_nil) (nomark _)) (pss_one ps_retN) pss_nil)
      (pss_cons (ps_set (i := 2) sc_take_top.nd rfl (Or.inl rfl) pe_int)
      (pss_cons (ps_set (i := 3) sc_take_top.nd rfl (Or.inl rfl) (pe_callA F_greater_below (hr.mono (by decide)) rfl (pa_cons (pv 0) (pa_cons (pv 2) pa_nil))))
      (pss_cons (ps_while PassesOwn.never (PW.pt (pw_and (pt_cmpR op_lt (pv 3) (pe_callB call_len_seq rfl M.len' PySem.boot_len (pa_cons (pv 0) pa_nil)) (nomark _)) (pw_and1 (pt_cmpR op_gt (pe_ix ix_tup (pe_ix ix_list (pv 0) (pv 3) (fun _ _ => rfl)) pe_int (fun _ _ => rfl)) (pe_ix ix_tup (pv 1) pe_int (fun _ _ => rfl)) (nomark _))))) (pss_cons (ps_asg (pe_ix ix_list (pv 0) (pv 3) (fun _ _ => rfl)) (pg_sub (pv 0) (pv 2) set_list))
      (pss_cons (ps_set (i := 2) sc_take_top.nd rfl (Or.inl rfl) (pv 3))
      (pss_one (ps_set (i := 3) sc_take_top.nd rfl (Or.inl rfl) (pe_callA F_greater_below (hr.mono (by decide)) rfl (pa_cons (pv 0) (pa_cons (pv 2) pa_nil))))))))
      (pss_one (ps_asg (pv 1) (pg_sub (pv 0) (pv 2) set_list)))))))), ?_⟩
  obtain ⟨hs', u, rfl, hH', hU⟩ := hH.init
  have hP' : H h = some (.lst (hs'.map V.ref ++ [.ref u])) := by rw [hP, List.map_append]; rfl
  refine ⟨_, rfl, .inl ⟨rfl, _, SqL.of hP'⟩, h, _, .ref u, rfl, rfl, hP', (by rw [List.length_append]; show (hs'.map V.ref ++ [V.ref u])[(hs'.map V.ref).length + 1 - 1]? = _; rw [Nat.add_sub_cancel, List.getElem?_append_right (Nat.le_refl _), Nat.sub_self]; rfl), ?_⟩
  rw [List.dropLast_concat]
  have k0 : Kept H (upd H h (.lst (hs'.map V.ref))) h := kept_upd
  have hA0 := hH'.kept hP k0
  have nuh : u ≠ h := ne_of hU hP (by intro w; cases w)
  have hU0 : upd H h (.lst (hs'.map V.ref)) u = some (.tup [.int (f0 n).1, .int (f0 n).2]) := by rw [upd_ne nuh]; exact hU
  generalize hH2 : upd H h (.lst (hs'.map V.ref)) = H2 at k0 hA0 hU0 ⊢
  have hP2 : H2 h = some (.lst (hs'.map V.ref)) := by rw [← hH2]; exact upd_same
  refine ⟨_, rfl, Nat.zero_le _, fun e he => ⟨h, e, _, rfl, rfl, SqL.of ((same_new he _).at hP2), SqL.of upd_same, _, rfl, ?_⟩⟩
  have se := same_new (H := H2) he (.lst [])
  by_cases hn : n = 0
  · subst hn
    have e0 : hs' = [] := List.eq_nil_of_length_eq_zero hH'.1
    have hz : (hs'.map V.ref).isEmpty = true := by rw [e0]; rfl
    rw [hz]
    refine iteT ?_
    refine q hs' f0 _ (k0.trans (Kept.ofSame se)) (se.at hP2) (hA0.same se) (fun q' a b => absurd b (Nat.not_lt_zero _)) (fun i hi => absurd hi (Nat.not_lt_zero _)) fun g => ?_
    show (0 : Int) = 0 + g (f0 0) - g (f0 0)
    omega
  · have hz : (hs'.map V.ref).isEmpty = false := by
      cases hs' with
      | nil => exact absurd hH'.1.symm hn
      | cons a l => rfl
    rw [hz]
    refine iteF ?_
    refine ⟨_, rfl, _, rfl, h, hs', n, f0, 0, rfl, se.at hP2, hA0.same se, fun b hb => ?_⟩
    refine while_by (fun σ H1 => Kept H H1 h ∧ ∃ (hs1 : List Addr) (f : PF) (pl b : Nat), σ = [some (.ref h), some (.ref u), some (.int pl), some (.int b)] ∧ H1 h = some (.lst (hs1.map V.ref)) ∧ HpAt H1 hs1 n f ∧ TakI f0 f n pl (f0 n) ∧ GrB f n pl b ∧ H1 u = some (.tup [.int (f0 n).1, .int (f0 n).2]))
      (fun σ _ => match σ with | [_, _, some (.int p), _] => n - p.toNat | _ => 0) ⟨k0.trans (Kept.ofSame se), _, _, 0, b, rfl, se.at hP2, hA0.same se, TakI.start (by omega) hok hpos, hb, se.at hU0⟩ ?_
      (mono_and (mono_test (mono_op mono_rI0 (mono_var _) (fun σ H Q Q' h ⟨w, e1, z⟩ => ⟨w, e1, by obtain ⟨p, ys, e2, e3, z⟩ := z; exact ⟨p, ys, e2, e3, h _ _ z⟩⟩))) (mono_test (mono_op mono_rI0 (mono_op mono_rIxT (mono_op mono_rIxL (mono_var _) (mono_var _)) (mono_c _)) (mono_op mono_rIxT (mono_var _) (mono_c _)))))
    rintro σ H1 ⟨kp, hs1, f, pl, b, rfl, hP1, hH1, hI, hG, hU1⟩
    have hlt := hI.lt
    have fin : n ≤ b ∨ ¬ ((f0 n).1 < (f b).1) → Q .non (upd H1 h (.lst ((hs1.map V.ref).set pl (.ref u)))) := fun hd => by
      refine q (hs1.set pl u) (fset f pl (f0 n)) _ (kp.trans kept_upd) (by rw [upd_same, set_map]) ((hH1.set hlt hU1).kept hP1 kept_upd) (hI.done hG hd) hI.pos hI.sum
    refine ⟨_, rfl, _, rfl, h, _, rfl, .inl (SqL.of hP1), _, _, rfl, rfl, _, rfl, iteD (fun g1 => ?_) (fun g1 => ?_)⟩
    · rw [List.length_map, hH1.1] at g1
      have hbn : b < n := by omega
      obtain ⟨r, hr, hR⟩ := hH1.2 b hbn
      refine ⟨_, rfl, _, rfl, h, _, _, _, rfl, rfl, SqL.of hP1, atI_nat (at_refs hr), r, _, _, _, rfl, rfl, SqT.of hR, rfl, _, rfl, u, _, _, _, rfl, rfl, SqT.of hU1, rfl, _, _, rfl, rfl, _, rfl, iteD (fun g2 => ?_) (fun g2 => ?_)⟩
      · refine ⟨_, rfl, _, rfl, h, _, _, _, rfl, rfl, SqL.of hP1, atI_nat (at_refs hr), _, rfl, _, rfl, h, _, _, pl, rfl, rfl, hP1, ixN_nat (by rw [List.length_map, hH1.1]; exact hlt), ?_⟩
        refine ⟨_, rfl, ?_⟩
        have kp2 := kept_upd (H := H1) (p := h) (o := .lst ((hs1.map V.ref).set pl (.ref r)))
        have hH3 := (hH1.set hlt hR).kept hP1 kp2
        have hP3 : upd H1 h (.lst ((hs1.map V.ref).set pl (.ref r))) h = some (.lst ((hs1.set pl r).map V.ref)) := by rw [upd_same, set_map]
        refine ⟨_, rfl, _, rfl, h, _, n, _, b, rfl, hP3, hH3, fun b' hb' => ⟨⟨kp.trans kp2, hs1.set pl r, fset f pl (f b), b, b', rfl, hP3, hH3, hI.step hG hbn g2, hb', (by rw [upd_ne nuh]; exact hU1)⟩, ?_⟩⟩
        show n - ((b : Nat) : Int).toNat < n - ((pl : Nat) : Int).toNat
        rcases hG.kid with z | z <;> omega
      · exact ⟨_, rfl, _, rfl, _, rfl, h, _, _, pl, rfl, rfl, hP1, ixN_nat (by rw [List.length_map, hH1.1]; exact hlt), fin (.inr g2)⟩
    · rw [List.length_map, hH1.1] at g1
      exact iteF ⟨_, rfl, _, rfl, _, rfl, h, _, _, pl, rfl, rfl, hP1, ixN_nat (by rw [List.length_map, hH1.1]; exact hlt), fin (.inl (by omega))⟩
theorem ok_take_shares (M : Bn mg) (F_take_top : FnA P w K mg base "take_top" ["heap"] 2 spTake) (F : Fun K "take_shares" "take_shares" s_take_shares f fd) : FnOk P w K mg base CX0 3 f fd ["heap", "amount"] spShares := by
  refine F.ok sc_take_shares (fun vs H Q E h => ?_) (fun cdv A outer s H vs Q E hr h => ?_)
  · obtain ⟨h, hs, n, f, a, rfl, _⟩ := h; rfl
  obtain ⟨h, hs, n, f0, a, rfl, hP, hH, hn, hok, hpos, ha, htot, q⟩ := h
  refine ⟨_, (pss_cons (ps_set (i := 2) sc_take_shares.nd rfl (Or.inl rfl) (pv 1))
      (pss_cons (ps_while PassesOwn.never (pt_cmpR op_le (pe_ix ix_tup (pe_ix ix_list (pv 0) pe_int (fun _ _ => rfl)) pe_int (fun _ _ => rfl)) (pv 2) (nomark _)) (pss_cons (ps_aug (i := 2) sc_take_shares.nd rfl (Or.inl rfl) (pe_ix ix_tup (pe_ix ix_list (pv 0) pe_int (fun _ _ => rfl)) pe_int (fun _ _ => rfl)) ip_sub)
      (pss_one (ps_expr (pe_callA F_take_top (hr.mono (by decide)) rfl (pa_cons (pv 0) pa_nil))))))
      (pss_one (ps_asg (pe_tup (pa_cons (pe_ix ix_tup (pe_ix ix_list (pv 0) pe_int (fun _ _ => rfl)) pe_int (fun _ _ => rfl)) (pa_cons (pe_op op_sub (pe_ix ix_tup (pe_ix ix_list (pv 0) pe_int (fun _ _ => rfl)) pe_int (fun _ _ => rfl)) (pv 2)) pa_nil))) (pg_sub (pv 0) pe_int set_list))))), ?_⟩
  refine ⟨_, rfl, ?_⟩
  refine while_by (fun σ H1 => Kept H H1 h ∧ ∃ (hs1 : List Addr) (m : Nat) (f : PF) (l : Int), σ = [some (.ref h), some (.int a), some (.int l)] ∧ H1 h = some (.lst (hs1.map V.ref)) ∧ HpAt H1 hs1 m f ∧ 0 < m ∧ m ≤ n ∧ Hok f m ∧ Pos' f m ∧ 0 ≤ l ∧ l < totl f m ∧ (∀ x, mx0 (mass f m x - l) = mx0 (mass f0 n x - a)) ∧ totl f m - l = totl f0 n - a)
    (fun _ H1 => match H1 h with | some (.lst xs) => xs.length | _ => 0) ⟨fun b o e _ => e, hs, n, f0, a, rfl, hP, hH, hn, Nat.le_refl _, hok, hpos, ha, htot, fun x => rfl, rfl⟩ ?_
    (mono_test (mono_op mono_rI0 (mono_op mono_rIxT (mono_op mono_rIxL (mono_var _) (mono_c _)) (mono_c _)) (mono_var _)))
  rintro σ H1 ⟨kp, hs1, m, f, l, rfl, hP1, hH1, hm, hmn, hok1, hpos1, hl0, hlt, hmass, htot1⟩
  obtain ⟨r, hr, hR⟩ := hH1.2 0 hm
  have aR : atI (hs1.map V.ref) 0 = some (.ref r) := atI_0 (at_refs hr)
  refine ⟨_, rfl, h, _, _, _, rfl, rfl, SqL.of hP1, aR, r, _, _, _, rfl, rfl, SqT.of hR, rfl, _, rfl, _, _, rfl, rfl, _, rfl, iteD (fun g1 => ?_) (fun g1 => ?_)⟩
  · obtain ⟨k, rfl⟩ : ∃ k, m = k + 1 := ⟨m - 1, by omega⟩
    refine ⟨_, rfl, _, rfl, h, _, _, _, rfl, rfl, SqL.of hP1, aR, r, _, _, _, rfl, rfl, SqT.of hR, rfl, _, _, rfl, rfl, ?_⟩
    refine ⟨_, rfl, h, hs1, k, f, rfl, hP1, hH1, hok1, hpos1, fun hs2 f2 H2 kp2 hP2 hH2 hok2 hpos2 hsum => ?_⟩
    have tt : totl f2 k = totl f (k + 1) - (f 0).2 := hsum fun y => y.2
    have mm : ∀ x, mass f2 k x = mass f (k + 1) x - ms x (f 0) := fun x => hsum (ms x)
    have hk : 0 < k := by
      rcases Nat.eq_zero_or_pos k with z | z
      · subst z
        have : totl f2 0 = 0 := rfl
        omega
      · exact z
    refine ⟨⟨kp.trans kp2, hs2, k, f2, l - (f 0).2, rfl, hP2, hH2, hk, by omega, hok2, hpos2, by omega, by omega, fun x => ?_, by omega⟩, ?_⟩
    · rw [← hmass x, mm x]
      obtain ⟨t1, t2⟩ := mass_top hok1 hpos1 hm x
      by_cases hx : x ≤ (f 0).1
      · have e : ms x (f 0) = (f 0).2 := by unfold ms; rw [if_pos hx]
        rw [e]
        congr 1
        omega
      · have e : ms x (f 0) = 0 := by unfold ms; rw [if_neg hx]
        rw [e, t2 hx]
        unfold mx0
        split <;> split <;> omega
    · rw [hP2, hP1]
      show (hs2.map V.ref).length < (hs1.map V.ref).length
      rw [List.length_map, List.length_map, hH2.1, hH1.1]
      omega
  · refine ⟨_, rfl, h, _, _, _, rfl, rfl, SqL.of hP1, aR, r, _, _, _, rfl, rfl, SqT.of hR, rfl, _, rfl, h, _, _, _, rfl, rfl, SqL.of hP1, aR, r, _, _, _, rfl, rfl, SqT.of hR, rfl, _, rfl, _, _, rfl, rfl, (by show 2 ≤ sizeLine; decide), fun t' ht' => ?_⟩
    have s2 := same_new ht' (.tup [.int (f 0).1, .int ((f 0).2 - l)])
    refine ⟨_, rfl, h, _, _, 0, rfl, rfl, s2.at hP1, ixN_nat (by rw [List.length_map, hH1.1]; exact hm), ?_⟩
    refine q (hs1.set 0 t') m (fset f 0 ((f 0).1, (f 0).2 - l)) _ (kp.trans ((Kept.ofSame s2).trans kept_upd)) (by rw [upd_same, set_map]) (((hH1.same s2).set hm (y := ((f 0).1, (f 0).2 - l)) upd_same).kept (s2.at hP1) kept_upd) hm hmn ?_ ?_ (fun x => ?_) ?_
    · intro q' h1 h2
      have z := hok1 q' h1 h2
      have np : q' ≠ 0 := by omega
      rw [fset_ne np]
      by_cases e : par q' = 0
      · rw [e, fset_same]; rw [e] at z; exact z
      · rw [fset_ne e]; exact z
    · intro i hi
      by_cases e : i = 0
      · subst e; rw [fset_same]; show 0 < (f 0).2 - l; omega
      · rw [fset_ne e]; exact hpos1 i hi
    · rw [← hmass x]
      have z := sm_fset (f := f) (g := ms x) (i := 0) (y := ((f 0).1, (f 0).2 - l)) hm
      have z' : mass (fset f 0 ((f 0).1, (f 0).2 - l)) m x = mass f m x - ms x (f 0) + ms x ((f 0).1, (f 0).2 - l) := z
      rw [z']
      obtain ⟨t1, t2⟩ := mass_top hok1 hpos1 hm x
      unfold ms mx0
      by_cases hx : x ≤ (f 0).1
      · have := t1 hx
        rw [if_pos hx, if_pos hx, if_neg (by omega)]
        omega
      · have := t2 hx
        rw [if_neg hx, if_neg hx]
        split <;> omega
    · have z := sm_fset (f := f) (g := fun y => y.2) (i := 0) (y := ((f 0).1, (f 0).2 - l)) hm
      have z' : totl (fset f 0 ((f 0).1, (f 0).2 - l)) m = totl f m - (f 0).2 + ((f 0).2 - l) := z
      omega
theorem ok_cheapest_ends (M : Bn mg) (F_put_in : FnA P w K mg base "put_in" ["heap", "value", "share"] 1 spPut) (F_take_shares : FnA P w K mg base "take_shares" ["heap", "amount"] 3 spShares) (F : Fun K "cheapest_ends" "cheapest_ends" s_cheapest_ends f fd) : FnOk P w K mg base CX0 4 f fd ["numbers", "weights"] spEnds := by
  refine F.ok sc_cheapest_ends (fun vs H Q E h => ?_) (fun cdv A outer s H vs Q E hr h => ?_)
  · obtain ⟨a, b, ns, ws, rfl, _⟩ := h; rfl
  obtain ⟨a, b, ns, ws, rfl, hA, hB, h8, hl, hw, q⟩ := h
  refine ⟨_, (pss_cons (ps_set (i := 2) sc_cheapest_ends.nd rfl (Or.inl rfl) (pe_lst pa_nil))
      (pss_cons (ps_set (i := 3) sc_cheapest_ends.nd rfl (Or.inl rfl) (pe_lst pa_nil))
      (pss_cons (ps_for PassesOwn.never rfl (pi_zip rfl M.zip' (pa_cons (pv 0) (pa_cons (pv 1) pa_nil))) (pg_two (K := K) (i := 4) (j := 5) rfl rfl sc_cheapest_ends.nd rfl rfl rfl rfl) (pss_cons (ps_expr (pe_callA F_put_in (hr.mono (by decide)) rfl (pa_cons (pv 2) (pa_cons (pv 4) (pa_cons (pe_op op_mul pe_int (pv 5)) pa_nil)))))
      (pss_cons (ps_expr (pe_callA F_take_shares (hr.mono (by decide)) rfl (pa_cons (pv 2) (pa_cons (pv 5) pa_nil))))
      (pss_one (ps_expr (pe_bm PySem.F.plainAttrs_list PySem.F.slot_list_append PySem.F.type_list_append mt_append (pv 3) (pa_cons (pe_ix ix_tup (pe_ix ix_list (pv 2) pe_int (fun _ _ => rfl)) pe_int (fun _ _ => rfl)) pa_nil)))))))
      (pss_one (ps_ret (pv 3)))))), ?_⟩
  refine ⟨Nat.zero_le _, fun ph hph => ⟨Nat.zero_le _, fun pe hpe => ?_⟩⟩
  have s1 := same_new hph (.lst [])
  have s2 := same_new hpe (.lst [])
  have s12 := s1.trans s2
  have hpe0 : H pe = none := s1.free hpe
  have nhe : ph ≠ pe := ne_of_none upd_same hpe
  refine ⟨_, rfl, _, rfl, a, b, rfl, ⟨_, SqL.of (s12.at hA)⟩, ⟨_, SqL.of (s12.at hB)⟩, ?_⟩
  refine for_zip (xs := ns.map V.int) (zs := ws.map V.int) (by rw [List.length_map, List.length_map, hl]) (fun i σ H' => Same H H' ∧ ∃ (hs : List Addr) (n : Nat) (f : PF) (es : List Int) (v4 v5 : Option V), σ = [some (.ref a), some (.ref b), some (.ref ph), some (.ref pe), v4, v5] ∧ H' ph = some (.lst (hs.map V.ref)) ∧ HpAt H' hs n f ∧ n ≤ i ∧ Hok f n ∧ Pos' f n ∧ 0 ≤ totl f n ∧ (∀ x, mass f n x = LL ns ws i x) ∧
      H' pe = some (.lst (es.map V.int)) ∧ es.length = i ∧ ∀ j, j < i → ∀ x, x ≤ es.getD j 0 ↔ 0 < LL ns ws (j + 1) x)
    ⟨s12, [], 0, fun _ => (0, 0), [], _, _, rfl, by rw [upd_ne nhe, upd_same]; rfl, ⟨rfl, fun i hi => absurd hi (Nat.not_lt_zero _)⟩, Nat.le_refl _, fun q' _ h => absurd h (Nat.not_lt_zero _), fun i hi => absurd hi (Nat.not_lt_zero _), Int.le_refl _, fun x => rfl, by rw [upd_same]; rfl, rfl, fun j hj => absurd hj (Nat.not_lt_zero _)⟩
    (fun i σ H' _ h => ⟨SqL.of (h.1.at hA), SqL.of (h.1.at hB)⟩) ?_ ?_
  · rintro i x z σ H' pp hx hz ⟨sm, hs, n, f, es, v4, v5, rfl, hPh, hHp, hni, hok, hpos, htot, hmass, hPe, hel, hes⟩ hpp
    obtain ⟨nn, hnn, rfl⟩ := ints_at hx
    obtain ⟨w', hw', rfl⟩ := ints_at hz
    have hi : i < ns.length := (List.getElem?_eq_some_iff.mp hnn).1
    have en : ns.getD i 0 = nn := gd_of hnn
    have ew : ws.getD i 0 = w' := gd_of hw'
    have hwb := hw w' (List.mem_of_getElem? hw')
    have s3 := same_new hpp (.tup [.int nn, .int w'])
    refine ⟨pp, _, rfl, SqT.of upd_same, rfl, _, _, rfl, _, _, rfl, rfl, ?_⟩
    refine ⟨_, rfl, _, rfl, _, rfl, _, _, rfl, rfl, .inl ⟨by decide, by decide⟩, ph, hs, n, f, _, _, rfl, s3.at hPh, hHp.same s3, by omega, hok, hpos, by omega, fun hs1 f1 H1 kp1 hP1 hH1 hok1 hpos1 hsum1 => ?_⟩
    have m1 : ∀ x, mass f1 (n + 1) x = mass f n x + ms x (nn, 2 * w') := fun x => hsum1 (ms x)
    have t1 : totl f1 (n + 1) = totl f n + 2 * w' := hsum1 fun y => y.2
    refine ⟨_, rfl, _, rfl, ph, hs1, n + 1, f1, w', rfl, hP1, hH1, by omega, hok1, hpos1, by omega, by omega, fun hs2 n2 f2 H2 kp2 hP2 hH2 hn2 hn2' hok2 hpos2 hmass2 htot2 => ?_⟩
    have kp := kp1.trans kp2
    have sH : Same H H2 := kp.same (sm.trans s3) hph
    have hPe2 : H2 pe = some (.lst (es.map V.int)) := kp _ _ (s3.at hPe) (Ne.symm nhe)
    obtain ⟨r, hr, hR⟩ := hH2.2 0 hn2
    have lstep : ∀ x, mass f2 n2 x = LL ns ws (i + 1) x := fun x => by
      rw [hmass2 x, m1 x, hmass x]
      show mx0 _ = mx0 _
      congr 1
      rw [en, ew]
      unfold ms ee
      split <;> omega
    refine ⟨_, rfl, .inl ⟨rfl, _, SqL.of hPe2⟩, _, rfl, ph, _, _, _, rfl, rfl, SqL.of hP2, atI_0 (at_refs hr), r, _, _, _, rfl, rfl, SqT.of hR, rfl, pe, _, _, rfl, rfl, hPe2, (by rw [List.length_map, hel]; exact small1000 (by omega)), ?_⟩
    refine ⟨sH.upd hpe0 _, hs2, n2, f2, es ++ [(f2 0).1], _, _, rfl, (by rw [upd_ne nhe]; exact hP2), hH2.kept hPe2 kept_upd, by omega, hok2, hpos2, by omega, lstep, (by rw [upd_same, List.map_append]; rfl), (by rw [List.length_append, hel]; rfl), fun j hj x => ?_⟩
    by_cases e : j = i
    · subst e
      rw [gd_last hel.symm, ← lstep x]
      obtain ⟨u1, u2⟩ := mass_top hok2 hpos2 hn2 x
      have p0 := hpos2 0 hn2
      constructor
      · intro hx'
        have := u1 hx'
        omega
      · intro hx'
        refine Classical.byContradiction fun w => ?_
        have := u2 w
        omega
    · rw [gd_left (by omega)]
      exact hes j (by omega) x
  · rintro σ H' ⟨sm, hs, n, f, es, v4, v5, rfl, hPh, hHp, hni, hok, hpos, htot, hmass, hPe, hel, hes⟩
    rw [List.length_map] at hel hes
    exact ⟨_, rfl, q pe es H' sm hpe0 hPe ⟨hel, hes⟩⟩
theorem ok_greatest_pull (M : Bn mg) (F : Fun K "greatest_pull" "greatest_pull" s_greatest_pull f fd) : FnOk P w K mg base CX0 1 f fd ["number", "stand", "weight"] spGP := by
  refine F.ok sc_greatest_pull (fun vs H Q E h => ?_) (fun cdv A outer s H vs Q E hr h => ?_)
  · obtain ⟨n, x, w, rfl, _⟩ := h; rfl
  obtain ⟨n, x, w, rfl, q⟩ := h
  refine ⟨_, (pss_one (ps_ret (pe_ifExp (pt_cmpR op_ge (pv 0) (pv 1) (nomark _)) (pv 2) (pe_un un_neg (pv 2))))), ?_⟩
  refine ⟨_, rfl, _, rfl, _, _, rfl, rfl, _, rfl, iteD (fun g => ⟨_, rfl, ?_⟩) (fun g => ⟨_, rfl, _, rfl, ?_⟩)⟩
  · have e : ee x n w = w := by unfold ee; rw [if_pos g]
    rw [e] at q
    exact q
  · have e : ee x n w = -w := by unfold ee; rw [if_neg g]
    rw [e] at q
    exact q
theorem ok_least_pull (M : Bn mg) (F : Fun K "least_pull" "least_pull" s_least_pull f fd) : FnOk P w K mg base CX0 1 f fd ["number", "stand", "weight"] spLP := by
  refine F.ok sc_least_pull (fun vs H Q E h => ?_) (fun cdv A outer s H vs Q E hr h => ?_)
  · obtain ⟨n, x, w, rfl, _⟩ := h; rfl
  obtain ⟨n, x, w, rfl, q⟩ := h
  refine ⟨_, (pss_one (ps_ret (pe_ifExp (pt_cmpR op_gt (pv 0) (pv 1) (nomark _)) (pv 2) (pe_un un_neg (pv 2))))), ?_⟩
  refine ⟨_, rfl, _, rfl, _, _, rfl, rfl, _, rfl, iteD (fun g => ⟨_, rfl, ?_⟩) (fun g => ⟨_, rfl, _, rfl, ?_⟩)⟩
  · rw [if_pos g] at q
    exact q
  · rw [if_neg g] at q
    exact q
theorem ok_sums_from_ahead (M : Bn mg) (F_greatest_pull : FnA P w K mg base "greatest_pull" ["number", "stand", "weight"] 1 spGP) (F : Fun K "sums_from_ahead" "sums_from_ahead" s_sums_from_ahead f fd) : FnOk P w K mg base CX0 2 f fd ["numbers", "row", "weights"] (spSums AA) := by
  refine F.ok sc_sums_from_ahead (fun vs H Q E h => ?_) (fun cdv A outer s H vs Q E hr h => ?_)
  · obtain ⟨a, r, b, ns, row, ws, rfl, _⟩ := h; rfl
  obtain ⟨a, r, b, ns, row, ws, rfl, hA, hR, hB, h1k, hl, hl2, q⟩ := h
  refine ⟨_, (pss_cons (ps_set (i := 3) sc_sums_from_ahead.nd rfl (Or.inl rfl) (pe_lst pa_nil))
      (pss_cons (ps_set (i := 4) sc_sums_from_ahead.nd rfl (Or.inl rfl) pe_int)
      (pss_cons (ps_for PassesOwn.never rfl (pi_enum rfl M.enumerate' (pa_cons (pv 1) pa_nil)) (pg_two (K := K) (i := 5) (j := 6) rfl rfl sc_sums_from_ahead.nd rfl rfl rfl rfl) (pss_cons (ps_if (PW.pt (pw_and (pt_cmpR op_gt (pv 5) pe_int (nomark _)) (pw_and1 (pt_cmpR op_gt (pv 6) (pe_ix ix_list (pv 1) (pe_op op_sub (pv 5) pe_int) (fun _ _ => rfl)) (nomark _))))) (pss_one (ps_set (i := 4) sc_sums_from_ahead.nd rfl (Or.inl rfl) pe_int)) pss_nil)
      (pss_cons (ps_aug (i := 4) sc_sums_from_ahead.nd rfl (Or.inl rfl) (pe_callA F_greatest_pull (hr.mono (by decide)) rfl (pa_cons (pe_ix ix_list (pv 0) (pv 5) (fun _ _ => rfl)) (pa_cons (pv 6) (pa_cons (pe_ix ix_list (pv 2) (pv 5) (fun _ _ => rfl)) pa_nil)))) ip_add)
      (pss_one (ps_expr (pe_bm PySem.F.plainAttrs_list PySem.F.slot_list_append PySem.F.type_list_append mt_append (pv 3) (pa_cons (pv 4) pa_nil)))))))
      (pss_one (ps_ret (pv 3)))))), ?_⟩
  refine ⟨Nat.zero_le _, fun p hp => ?_⟩
  have s0 := same_new hp (.lst [])
  refine ⟨_, rfl, r, rfl, ⟨_, SqL.of (s0.at hR)⟩, ?_⟩
  refine for_enum (xs := row.map V.int) (fun i σ H' => Same H H' ∧ ∃ (tt : Int) (v5 v6 : Option V), σ = [some (.ref a), some (.ref r), some (.ref b), some (.ref p), some (.int tt), v5, v6] ∧ H' p = some (.lst (((List.range i).map (AA ns ws row)).map V.int)) ∧ tt = if i = 0 then 0 else AA ns ws row (i - 1))
    ⟨s0, 0, _, _, rfl, upd_same, rfl⟩ (fun i σ H' _ h => SqL.of (h.1.at hR)) ?_ ?_
  · rintro i x σ H' pp hx ⟨sm, tt, v5, v6, rfl, hP, ht⟩ hpp
    obtain ⟨st, hst, rfl⟩ := ints_at hx
    have hi : i < row.length := (List.getElem?_eq_some_iff.mp hst).1
    have es : row.getD i 0 = st := gd_of hst
    have s1 := same_new hpp (.tup [.int i, .int st])
    have sm1 := sm.trans s1
    refine ⟨pp, _, rfl, SqT.of upd_same, rfl, _, _, rfl, _, _, rfl, rfl, ?_⟩
    dsimp only [gName]
    refine seq_with (fun σ' H1 => H1 = upd H' pp (.tup [.int i, .int st]) ∧ ∃ t2, σ' = [some (.ref a), some (.ref r), some (.ref b), some (.ref p), some (.int t2), some (.int i), some (.int st)] ∧ t2 + gp ns ws row i = AA ns ws row i) ?_ (fun cont => ?_)
    · rintro σ' H1 ⟨rfl, t2, rfl, ht2⟩
      refine ⟨_, rfl, _, rfl, _, rfl, a, _, _, _, rfl, rfl, SqL.of (sm1.at hA), atI_gd rfl (by omega), _, rfl, _, rfl, _, rfl, b, _, _, _, rfl, rfl, SqL.of (sm1.at hB), atI_gd rfl (by omega), _, _, _, rfl, _, _, rfl, rfl, ?_⟩
      have e : t2 + ee st (ns.getD i 0) (ws.getD i 0) = AA ns ws row i := by rw [← ht2]; unfold gp; rw [es]
      dsimp only
      rw [e]
      refine ⟨_, rfl, .inl ⟨rfl, _, SqL.of (s1.at hP)⟩, _, rfl, p, _, _, rfl, rfl, s1.at hP, (by rw [List.length_map, List.length_map, List.length_range]; exact small1000 (by omega)), sm1.upd hp _, _, _, _, rfl, ?_, ?_⟩
      · rw [upd_same, range_snoc, List.map_append]
        rfl
      · rw [if_neg (by omega), Nat.add_sub_cancel]
    · refine ⟨_, rfl, _, _, rfl, rfl, _, rfl, iteD (fun g => ?_) (fun g => ?_)⟩
      · obtain ⟨k, rfl⟩ : ∃ k, i = k + 1 := ⟨i - 1, by omega⟩
        rw [if_neg (by omega), Nat.add_sub_cancel] at ht
        refine ⟨_, rfl, _, rfl, _, rfl, _, _, rfl, rfl, r, _, _, _, rfl, rfl, SqL.of (sm1.at hR), atI_gd (i := k) (by omega) (by omega), _, _, rfl, rfl, _, rfl, iteD (fun g2 => cont _ _ ⟨rfl, 0, rfl, ?_⟩) (fun g2 => cont _ _ ⟨rfl, tt, rfl, ?_⟩)⟩
        · show _ = (if row.getD k 0 < row.getD (k + 1) 0 then 0 else AA ns ws row k) + gp ns ws row (k + 1)
          rw [es, if_pos g2]
        · show _ = (if row.getD k 0 < row.getD (k + 1) 0 then 0 else AA ns ws row k) + gp ns ws row (k + 1)
          rw [es, if_neg g2, ht]
      · have : i = 0 := by omega
        subst this
        rw [if_pos rfl] at ht
        refine iteF (cont _ _ ⟨rfl, tt, rfl, ?_⟩)
        rw [ht]
        show 0 + _ = gp ns ws row 0
        omega
  · rintro σ H' ⟨sm, tt, v5, v6, rfl, hP, ht⟩
    refine ⟨_, rfl, q p H' sm hp ?_⟩
    rw [hP, List.length_map, hl]
theorem ok_sums_from_behind (M : Bn mg) (F_least_pull : FnA P w K mg base "least_pull" ["number", "stand", "weight"] 1 spLP) (F : Fun K "sums_from_behind" "sums_from_behind" s_sums_from_behind f fd) : FnOk P w K mg base CX0 2 f fd ["numbers", "row", "weights"] (spSums bhd) := by
  refine F.ok sc_sums_from_behind (fun vs H Q E h => ?_) (fun cdv A outer s H vs Q E hr h => ?_)
  · obtain ⟨a, r, b, ns, row, ws, rfl, _⟩ := h; rfl
  obtain ⟨a, r, b, ns, row, ws, rfl, hA, hR, hB, h1k, hl, hl2, q⟩ := h
  refine ⟨_, (pss_cons (ps_set (i := 3) sc_sums_from_behind.nd rfl (Or.inl rfl) (pe_lst pa_nil))
      (pss_cons (ps_set (i := 4) sc_sums_from_behind.nd rfl (Or.inl rfl) pe_int)
      (pss_cons (ps_for PassesOwn.never rfl (pi_range3 rfl M.range' (pa_cons (pe_op op_sub (pe_callB call_len_seq rfl M.len' PySem.boot_len (pa_cons (pv 1) pa_nil)) pe_int) (pa_cons (pe_un un_neg pe_int) (pa_cons (pe_un un_neg pe_int) pa_nil)))) (pg_name (i := 5) sc_sums_from_behind.nd rfl (Or.inl rfl) (Or.inl rfl)) (pss_cons (ps_if (PW.pt (pw_and (pt_cmpR op_lt (pe_op op_add (pv 5) pe_int) (pe_callB call_len_seq rfl M.len' PySem.boot_len (pa_cons (pv 1) pa_nil)) (nomark _)) (pw_and1 (pt_cmpR op_lt (pe_ix ix_list (pv 1) (pv 5) (fun _ _ => rfl)) (pe_ix ix_list (pv 1) (pe_op op_add (pv 5) pe_int) (fun _ _ => rfl)) (nomark _))))) (pss_one (ps_set (i := 4) sc_sums_from_behind.nd rfl (Or.inl rfl) pe_int)) pss_nil)
      (pss_cons (ps_expr (pe_bm PySem.F.plainAttrs_list PySem.F.slot_list_append PySem.F.type_list_append mt_append (pv 3) (pa_cons (pv 4) pa_nil)))
      (pss_one (ps_aug (i := 4) sc_sums_from_behind.nd rfl (Or.inl rfl) (pe_callA F_least_pull (hr.mono (by decide)) rfl (pa_cons (pe_ix ix_list (pv 0) (pv 5) (fun _ _ => rfl)) (pa_cons (pe_ix ix_list (pv 1) (pv 5) (fun _ _ => rfl)) (pa_cons (pe_ix ix_list (pv 2) (pv 5) (fun _ _ => rfl)) pa_nil)))) ip_sub)))))
      (pss_cons (ps_expr (pe_bm0 PySem.F.plainAttrs_list PySem.F.slot_list_reverse PySem.F.type_list_reverse mt_reverse (pv 3)))
      (pss_one (ps_ret (pv 3))))))), ?_⟩
  refine ⟨Nat.zero_le _, fun p hp => ?_⟩
  have s0 := same_new hp (.lst [])
  refine ⟨_, rfl, r, _, rfl, .inl (SqL.of (s0.at hR)), _, _, rfl, rfl, _, rfl, _, rfl, _, rfl, by rw [List.length_map]; omega, by rw [List.length_map]; omega, ?_⟩
  have eN : ((((row.map V.int).length : Nat) : Int) - 1 + 1).toNat = row.length := by rw [List.length_map]; omega
  have eM : (((row.map V.int).length : Nat) : Int) - 1 = (row.length : Int) - 1 := by rw [List.length_map]
  rw [eN, eM]
  refine for_down (n := row.length) (fun i σ H' => Same H H' ∧ ∃ (tt : Int) (v5 : Option V), σ = [some (.ref a), some (.ref r), some (.ref b), some (.ref p), some (.int tt), v5] ∧ H' p = some (.lst (((List.range i).map fun j => bhd ns ws row (row.length - 1 - j)).map V.int)) ∧ (i = 0 → tt = 0) ∧ (0 < i → tt = bhd ns ws row (row.length - i) - lp ns ws row (row.length - i)))
    ⟨s0, 0, _, rfl, upd_same, fun _ => rfl, fun h => absurd h (Nat.lt_irrefl _)⟩ ?_ ?_
  · rintro i σ H' hi ⟨sm, tt, v5, rfl, hP, ht0, ht⟩
    have ePl : (row.length : Int) - 1 - (i : Int) = ((row.length - 1 - i : Nat) : Int) := by omega
    generalize hk : row.length - 1 - i = k at ePl
    dsimp only [gName]
    rw [ePl]
    refine seq_with (fun σ' H1 => H1 = H' ∧ σ' = [some (.ref a), some (.ref r), some (.ref b), some (.ref p), some (.int (bhd ns ws row k)), some (.int k)]) ?_ (fun cont => ?_)
    · rintro σ' H1 ⟨rfl, rfl⟩
      refine ⟨_, rfl, .inl ⟨rfl, _, SqL.of hP⟩, _, rfl, p, _, _, rfl, rfl, hP, (by rw [List.length_map, List.length_map, List.length_range]; exact small1000 (by omega)), ?_⟩
      have sP := sm.upd hp (.lst (((List.range i).map fun j => bhd ns ws row (row.length - 1 - j)).map V.int ++ [.int (bhd ns ws row k)]))
      refine ⟨_, rfl, _, rfl, _, rfl, a, _, _, _, rfl, rfl, SqL.of (sP.at hA), atI_gd rfl (by omega), _, rfl, _, rfl, r, _, _, _, rfl, rfl, SqL.of (sP.at hR), atI_gd rfl (by omega), _, rfl, _, rfl, b, _, _, _, rfl, rfl, SqL.of (sP.at hB), atI_gd rfl (by omega), _, _, _, rfl, _, _, rfl, rfl, sP, _, _, rfl, ?_, fun z => by omega, fun _ => ?_⟩
      · rw [upd_same, range_snoc, List.map_append, hk]
        rfl
      · rw [show row.length - (i + 1) = k by omega]
        rfl
    · refine ⟨_, rfl, _, _, rfl, rfl, _, rfl, r, _, rfl, .inl (SqL.of (sm.at hR)), _, _, rfl, rfl, _, rfl, iteD (fun g => ?_) (fun g => ?_)⟩
      · rw [List.length_map] at g
        have st := bhd_step (ns := ns) (ws := ws) (row := row) (i := k) (by omega)
        have htt := ht (by omega)
        rw [show row.length - i = k + 1 by omega] at htt
        refine ⟨_, rfl, _, rfl, r, _, _, _, rfl, rfl, SqL.of (sm.at hR), atI_gd rfl (by omega), _, rfl, _, rfl, _, _, rfl, rfl, r, _, _, _, rfl, rfl, SqL.of (sm.at hR), atI_gd (i := k + 1) (by omega) (by omega), _, _, rfl, rfl, _, rfl, iteD (fun g2 => cont _ _ ⟨rfl, ?_⟩) (fun g2 => cont _ _ ⟨rfl, ?_⟩)⟩
        · rw [if_pos g2] at st
          rw [st]
          rfl
        · rw [if_neg g2] at st
          rw [st, ← htt]
          rfl
      · rw [List.length_map] at g
        have h0 : i = 0 := by omega
        refine iteF (cont _ _ ⟨rfl, ?_⟩)
        rw [bhd_last (by omega), ht0 h0]
        rfl
  · rintro σ H' ⟨sm, tt, v5, rfl, hP, _, _⟩
    refine ⟨_, rfl, .inl ⟨rfl, _, SqL.of hP⟩, p, _, rfl, rfl, hP, ?_⟩
    refine ⟨_, rfl, q p _ (sm.upd hp _) hp ?_⟩
    rw [upd_same, ← List.map_reverse, hl]
    congr 3
    refine List.ext_getElem (by rw [List.length_reverse, List.length_map, List.length_map]) fun j h1 h2 => ?_
    rw [List.length_map, List.length_range] at h2
    rw [List.getElem_reverse]
    simp only [List.getElem_map, List.getElem_range, List.length_map, List.length_range]
    congr 1
    omega
theorem ok_pulls_of (M : Bn mg) (F_sums_from_ahead : FnA P w K mg base "sums_from_ahead" ["numbers", "row", "weights"] 2 (spSums AA)) (F_sums_from_behind : FnA P w K mg base "sums_from_behind" ["numbers", "row", "weights"] 2 (spSums bhd)) (F : Fun K "pulls_of" "pulls_of" s_pulls_of f fd) : FnOk P w K mg base CX0 3 f fd ["numbers", "row", "weights"] (spSums pl) := by
  refine F.ok sc_pulls_of (fun vs H Q E h => ?_) (fun cdv A outer s H vs Q E hr h => ?_)
  · obtain ⟨a, r, b, ns, row, ws, rfl, _⟩ := h; rfl
  obtain ⟨a, r, b, ns, row, ws, rfl, hA, hR, hB, h1k, hl, hl2, q⟩ := h
  refine ⟨_, (pss_cons (ps_set (i := 3) sc_pulls_of.nd rfl (Or.inl rfl) (pe_lst pa_nil))
      (pss_cons (ps_set (i := 4) sc_pulls_of.nd rfl (Or.inl rfl) pe_int)
      (pss_cons (ps_set (i := 5) sc_pulls_of.nd rfl (Or.inl rfl) (pe_callA F_sums_from_ahead (hr.mono (by decide)) rfl (pa_cons (pv 0) (pa_cons (pv 1) (pa_cons (pv 2) pa_nil)))))
      (pss_cons (ps_set (i := 6) sc_pulls_of.nd rfl (Or.inl rfl) (pe_callA F_sums_from_behind (hr.mono (by decide)) rfl (pa_cons (pv 0) (pa_cons (pv 1) (pa_cons (pv 2) pa_nil)))))
      (pss_cons (ps_for PassesOwn.never rfl (pi_zip rfl M.zip' (pa_cons (pv 5) (pa_cons (pv 6) pa_nil))) (pg_two (K := K) (i := 7) (j := 8) rfl rfl sc_pulls_of.nd rfl rfl rfl rfl) (pss_cons (ps_expr (pe_bm PySem.F.plainAttrs_list PySem.F.slot_list_append PySem.F.type_list_append mt_append (pv 3) (pa_cons (pe_op op_sub (pe_callB (call_min2 rfl) rfl M.min' PyProof.Rows.boot_min (pa_cons (pv 7) (pa_cons (pv 8) pa_nil))) (pv 4)) pa_nil)))
      (pss_one (ps_set (i := 4) sc_pulls_of.nd rfl (Or.inl rfl) (pe_callB (call_min2 rfl) rfl M.min' PyProof.Rows.boot_min (pa_cons (pv 7) (pa_cons (pv 8) pa_nil)))))))
      (pss_one (ps_ret (pv 3)))))))), ?_⟩
  refine ⟨Nat.zero_le _, fun p hp => ?_⟩
  have s0 := same_new hp (.lst [])
  refine ⟨_, rfl, _, rfl, _, rfl, a, r, b, ns, row, ws, rfl, s0.at hA, s0.at hR, s0.at hB, h1k, hl, hl2, fun pa H1 s1 hpa hPa => ?_⟩
  have s01 := s0.trans s1
  refine ⟨_, rfl, _, rfl, _, rfl, a, r, b, ns, row, ws, rfl, s01.at hA, s01.at hR, s01.at hB, h1k, hl, hl2, fun pb H2 s2 hpb hPb => ?_⟩
  have s02 := s01.trans s2
  have hp2 : H2 p = some (.lst []) := s2.at (s1.at upd_same)
  have npa : p ≠ pa := ne_of_none upd_same hpa
  have npb : p ≠ pb := ne_of_none (s1.at upd_same) hpb
  refine ⟨_, rfl, _, rfl, pa, pb, rfl, ⟨_, SqL.of (s2.at hPa)⟩, ⟨_, SqL.of hPb⟩, ?_⟩
  refine for_zip (xs := ((List.range ns.length).map (AA ns ws row)).map V.int) (zs := ((List.range ns.length).map (bhd ns ws row)).map V.int) (by rw [List.length_map, List.length_map, List.length_map, List.length_map]) (fun i σ H' => Same H H' ∧ H' pa = some (.lst (((List.range ns.length).map (AA ns ws row)).map V.int)) ∧ H' pb = some (.lst (((List.range ns.length).map (bhd ns ws row)).map V.int)) ∧ ∃ (tt : Int) (v7 v8 : Option V), σ = [some (.ref a), some (.ref r), some (.ref b), some (.ref p), some (.int tt), some (.ref pa), some (.ref pb), v7, v8] ∧ H' p = some (.lst (((List.range i).map (pl ns ws row)).map V.int)) ∧ tt = if i = 0 then 0 else SS ns ws row (i - 1))
    ⟨s02, s2.at hPa, hPb, 0, _, _, rfl, hp2, rfl⟩ (fun i σ H' _ h => ⟨SqL.of h.2.1, SqL.of h.2.2.1⟩) ?_ ?_
  · rintro i x z σ H' pp hx hz ⟨sm, ha', hb', tt, v7, v8, rfl, hP, ht⟩ hpp
    obtain ⟨x', hx', rfl⟩ := ints_at hx
    obtain ⟨z', hz', rfl⟩ := ints_at hz
    have hi : i < ns.length := by have := (List.getElem?_eq_some_iff.mp hx').1; rw [List.length_map, List.length_range] at this; exact this
    rw [List.getElem?_map, List.getElem?_range hi] at hx' hz'
    cases hx'
    cases hz'
    have s3 := same_new hpp (.tup [.int (AA ns ws row i), .int (bhd ns ws row i)])
    refine ⟨pp, _, rfl, SqT.of upd_same, rfl, _, _, rfl, _, _, rfl, rfl, ?_⟩
    have eS : (if bhd ns ws row i < AA ns ws row i then bhd ns ws row i else AA ns ws row i) = SS ns ws row i := rfl
    refine ⟨_, rfl, .inl ⟨rfl, _, SqL.of (s3.at hP)⟩, _, rfl, _, rfl, _, _, rfl, _, rfl, _, _, rfl, rfl, p, _, _, rfl, rfl, s3.at hP, (by rw [List.length_map, List.length_map, List.length_range]; exact small1000 (by omega)), ?_⟩
    refine ⟨_, rfl, _, rfl, _, _, rfl, (sm.trans s3).upd hp _, (by rw [upd_ne npa.symm]; exact s3.at ha'), (by rw [upd_ne npb.symm]; exact s3.at hb'), _, _, _, rfl, ?_, ?_⟩
    · rw [upd_same, range_snoc, List.map_append]
      show some (HO.lst (_ ++ [V.int (_ - tt)])) = some (HO.lst (_ ++ [V.int (SS ns ws row i - _)]))
      rw [ht]
      rfl
    · rw [if_neg (show ¬ (i + 1 = 0) by omega), Nat.add_sub_cancel]
      rfl
  · rintro σ H' ⟨sm, ha', hb', tt, v7, v8, rfl, hP, ht⟩
    refine ⟨_, rfl, q p H' sm hp ?_⟩
    rw [hP, List.length_map, List.length_map, List.length_range]
theorem ok_Summed___init__ (M : Bn mg) (C_Summed : ClsA K mg "Summed" c.Summed) (N_Summed : NaSummed K c.Summed) (F : Fun K "__init__" "Summed.__init__" s_Summed___init__ f fd) : FnOk P w K mg base CX0 1 f fd ["self", "row", "pulls"] (spSuInit c) := by
  refine F.ok sc_Summed___init__ (fun vs H Q E h => ?_) (fun cdv A outer s H vs Q E hr h => ?_)
  · obtain ⟨x, l, h, dx, lows, highs, rfl, _⟩ := h; rfl
  obtain ⟨x, l, h, dx, lows, highs, rfl, hx, hL, hH, q⟩ := h
  refine ⟨_, (pss_cons (ps_fld (pv 0) (pe_callTy call_list_of rfl M.list' boot_listT (pa_cons (pv 1) pa_nil)) rfl)
      (pss_one (ps_fld (pv 0) (pe_callTy call_list_of rfl M.list' boot_listT (pa_cons (pv 2) pa_nil)) rfl))), ?_⟩
  refine ⟨_, rfl, l, _, rfl, .inl (SqL.of hL), fun l' hl' => ?_⟩
  have nxl : x ≠ l' := ne_of_none hx hl'
  have nhl : h ≠ l' := ne_of_none hH hl'
  have nhx : h ≠ x := ne_of hH hx (by intro z; cases z)
  refine ⟨_, rfl, x, _, dx, _, rfl, (by rw [upd_ne nxl]; exact hx), C_Summed.cl, N_Summed.r, (by show 0 < 1000; decide), ?_⟩
  refine ⟨_, rfl, h, _, rfl, .inl (SqL.of (by rw [upd_ne nhx, upd_ne nhl]; exact hH)), fun h' hh' => ?_⟩
  have nxh : x ≠ h' := ne_of_none upd_same hh'
  have nlh : l' ≠ h' := ne_of_none (by rw [upd_ne nxl.symm]; exact upd_same) hh'
  have hh0 : H h' = none := by rw [upd_ne nxh.symm, upd_ne nlh.symm] at hh'; exact hh'
  refine ⟨_, rfl, x, _, dx, _, rfl, (by rw [upd_ne nxh]; exact upd_same), C_Summed.cl, N_Summed.p, (Nat.lt_of_le_of_lt (length_putF _ _ _) (by show 0 + 1 < 1000; decide)), ?_⟩
  refine q l' h' _ hl' hh0 nlh ⟨⟨dx, _, upd_same, ?_, ?_, ?_⟩, ?_, ?_⟩ fun b o e hb => ?_
  · rw [lookup_putF, if_neg (by decide +kernel), lookup_putF, if_pos rfl]
  · rw [lookup_putF, if_pos rfl]
  · rw [lookup_putF, if_neg (by decide +kernel), lookup_putF, if_neg (by decide +kernel)]; rfl
  · rw [upd_ne nxl.symm, upd_ne nlh, upd_ne nxl.symm, upd_same]
  · rw [upd_ne nxh.symm, upd_same]
  · rw [upd_ne hb, upd_ne (ne_of_none e hh0), upd_ne hb, upd_ne (ne_of_none e hl')]; exact e
theorem ok_sums_show (M : Bn mg) (F : Fun K "sums_show" "sums_show" s_sums_show f fd) : FnOk P w K mg base CX0 1 f fd ["pulls"] spSumsShow := by
  refine F.ok sc_sums_show (fun vs H Q E h => ?_) (fun cdv A outer s H vs Q E hr h => ?_)
  · obtain ⟨p, pulls, rfl, _⟩ := h; rfl
  obtain ⟨p, pulls, rfl, hP, q⟩ := h
  refine ⟨_, (pss_cons (ps_set (i := 1) sc_sums_show.nd rfl (Or.inl rfl) pe_int)
      (pss_cons (ps_for PassesOwn.never rfl (pi_list (pv 0)) (pg_name (i := 2) sc_sums_show.nd rfl (Or.inl rfl) (Or.inl rfl)) (pss_cons (ps_aug (i := 1) sc_sums_show.nd rfl (Or.inl rfl) (pv 2) ip_add)
      (pss_one (ps_if (pt_cmpR op_lt (pv 1) pe_int (nomark _)) (pss_one (ps_ret pe_bl)) pss_nil))))
      (pss_one (ps_ret (pe_cmpR op_eq (pv 1) pe_int (nomark _)))))), ?_⟩
  refine ⟨_, rfl, p, rfl, ⟨_, SqL.of hP⟩, ?_⟩
  refine for_list (xs := pulls.map V.int) (fun i σ H' => H' = H ∧ ∃ v2, σ = [some (.ref p), some (.int (sm i fun j => pulls.getD j 0)), v2] ∧ ∀ k, k ≤ i → 0 ≤ sm k fun j => pulls.getD j 0) ⟨rfl, _, rfl, fun k hk => by rw [Nat.le_zero.mp hk]; exact Int.le_refl _⟩ (fun i σ H' _ h => by rw [h.1]; exact SqL.of hP) ?_ ?_
  · rintro i x σ H' hx ⟨rfl, v2, rfl, hnn⟩
    obtain ⟨z, hz, rfl⟩ := ints_at hx
    have hi : i < pulls.length := (List.getElem?_eq_some_iff.mp hz).1
    refine ⟨_, rfl, _, rfl, _, _, rfl, rfl, ?_⟩
    have e : (sm i fun j => pulls.getD j 0) + z = sm (i + 1) fun j => pulls.getD j 0 := by show _ = _ + pulls.getD i 0; rw [gd_of hz]
    dsimp only
    rw [e]
    refine ⟨_, rfl, _, _, rfl, rfl, _, rfl, iteD (fun g => q _ (ff_iff fun y => ?_)) (fun g => ⟨rfl, _, rfl, fun k hk => ?_⟩)⟩
    · have := y.1 (i + 1) hi
      omega
    · by_cases hki : k = i + 1
      · subst hki; omega
      · exact hnn k (by omega)
  · rintro σ H' ⟨rfl, v2, rfl, hnn⟩
    rw [List.length_map] at hnn ⊢
    refine ⟨_, rfl, rfl, q _ ?_⟩
    rw [decide_eq_true_iff, int_iff]
    exact ⟨fun z => ⟨hnn, z⟩, fun z => z.2⟩
theorem ok_within_weights (M : Bn mg) (F : Fun K "within_weights" "within_weights" s_within_weights f fd) : FnOk P w K mg base CX0 1 f fd ["pulls", "weights"] spWithin := by
  refine F.ok sc_within_weights (fun vs H Q E h => ?_) (fun cdv A outer s H vs Q E hr h => ?_)
  · obtain ⟨p, b, pulls, ws, rfl, _⟩ := h; rfl
  obtain ⟨p, b, pulls, ws, rfl, hP, hB, h1k, hl, q⟩ := h
  refine ⟨_, (pss_one (ps_ret (pe_callB (call_allL rfl) rfl M.all' boot_allB (pa_cons (pe_comp rfl (CompScope.none ["pull", "weight"]) (pi_zip rfl M.zip' (pa_cons (pv 0) (pa_cons (pv 1) pa_nil))) (fun _ _ _ _ _ => (pg_two (K := K) (i := 0) (j := 1) rfl rfl (show (["pull", "weight"] : List Str).Nodup by decide +kernel) rfl rfl rfl rfl)) (fun _ _ _ _ _ => (pe_cmpR op_le (pe_callB call_abs rfl M.abs' boot_absB (pa_cons (pv 0) pa_nil)) (pv 1) (nomark _)))) pa_nil)))), ?_⟩
  refine ⟨_, rfl, _, rfl, p, b, rfl, ⟨_, SqL.of hP⟩, ⟨_, SqL.of hB⟩, ?_⟩
  refine comp_zip (xs := pulls.map V.int) (zs := ws.map V.int) (len_map_le (by omega)) (by rw [List.length_map, List.length_map, hl]) (fun i ys H' => Same H H' ∧ ys = ((List.range i).map fun j => decide ((if pulls.getD j 0 < 0 then -(pulls.getD j 0) else pulls.getD j 0) ≤ ws.getD j 0)).map V.bl) ⟨Same.refl _, rfl⟩
    (fun i ys H' _ h => ⟨SqL.of (h.1.at hP), SqL.of (h.1.at hB)⟩) ?_ ?_
  · rintro k x z ys H' pp hx hz ⟨sm, rfl⟩ hpp
    obtain ⟨n, hn, rfl⟩ := ints_at hx
    obtain ⟨o, ho, rfl⟩ := ints_at hz
    refine ⟨pp, _, rfl, SqT.of upd_same, rfl, _, _, rfl, _, _, rfl, rfl, ⟨rfl, rfl⟩, _, rfl, _, rfl, _, rfl, _, _, rfl, rfl, sm.new hpp _, ?_⟩
    rw [range_snoc, List.map_append, gd_of hn, gd_of ho]
    rfl
  · rintro ys H' ⟨sm, rfl⟩ D hD
    refine ⟨D, _, rfl, SqL.of upd_same, q _ _ ?_ (sm.new hD _)⟩
    rw [all_range, List.length_map, hl]
    constructor
    · intro h i hi
      have := of_decide_eq_true (h i hi)
      split at this <;> omega
    · intro h i hi
      have := h i hi
      refine decide_eq_true ?_
      split <;> omega
theorem ok_Summed_shows (M : Bn mg) (C_Summed : ClsA K mg "Summed" c.Summed) (N_Summed : NaSummed K c.Summed) (F_is_list_of_wholes : FnA P w K mg base "is_list_of_wholes" ["values"] 3 spListW) (F_are_weights : FnA P w K mg base "are_weights" ["numbers", "weights"] 5 spWts) (F_is_rising_whole_row : FnA P w K mg base "is_rising_whole_row" ["numbers", "row"] 5 spRiW) (F_is_whole_row : FnA P w K mg base "is_whole_row" ["numbers", "row"] 4 spRowW) (F_within_weights : FnA P w K mg base "within_weights" ["pulls", "weights"] 1 spWithin) (F_sums_show : FnA P w K mg base "sums_show" ["pulls"] 1 spSumsShow) (F_summed_up : FnA P w K mg base "summed_up" ["numbers", "row", "weights"] 7 spSummed) (F : Fun K "shows" "Summed.shows" s_Summed_shows f fd) : FnOk P w K mg base CX0 8 f fd ["self", "numbers", "weights"] (spSuShows c) := by
  refine F.ok sc_Summed_shows (fun vs H Q E h => ?_) (fun cdv A outer s H vs Q E hr h => ?_)
  · obtain ⟨x, a, b, r, p, ns, ws, row, pulls, rfl, _⟩ := h; rfl
  obtain ⟨x, a, b, r, p, ns, ws, row, pulls, rfl, hX, hA, hB, h1, h2, h3, hl, hw, q⟩ := h
  refine ⟨_, (pss_cons (ps_if (PW.pt (pw_or (pt_not (pt_val (pe_callA F_is_list_of_wholes (hr.mono (by decide)) rfl (pa_cons (pv 1) pa_nil)))) (pw_or1 (pt_not (pt_val (pe_callA F_are_weights (hr.mono (by decide)) rfl (pa_cons (pv 1) (pa_cons (pv 2) pa_nil)))))))) (pss_one (ps_ret pe_bl)) pss_nil)
      (pss_cons (ps_if (PW.pt (pw_or (pt_not (pt_val (pe_callA F_is_rising_whole_row (hr.mono (by decide)) rfl (pa_cons (pv 1) (pa_cons (pe_fld (pv 0) rfl) pa_nil))))) (pw_or1 (pt_not (pt_val (pe_callA F_is_whole_row (hr.mono (by decide)) rfl (pa_cons (pv 1) (pa_cons (pe_fld (pv 0) rfl) pa_nil)))))))) (pss_one (ps_ret pe_bl)) pss_nil)
      (pss_cons (ps_if (PW.pt (pw_or (pt_not (pt_val (pe_callA F_within_weights (hr.mono (by decide)) rfl (pa_cons (pe_fld (pv 0) rfl) (pa_cons (pv 2) pa_nil))))) (pw_or1 (pt_not (pt_val (pe_callA F_sums_show (hr.mono (by decide)) rfl (pa_cons (pe_fld (pv 0) rfl) pa_nil))))))) (pss_one (ps_ret pe_bl)) pss_nil)
      (pss_cons (ps_set (i := 3) sc_Summed_shows.nd rfl (Or.inl rfl) (pe_callB (call_sumL rfl) rfl M.sum' PyProof.Rows.boot_sum (pa_cons (pe_comp rfl (CompScope.none ["pull", "number"]) (pi_zip rfl M.zip' (pa_cons (pe_fld (pv 0) rfl) (pa_cons (pv 1) pa_nil))) (fun _ _ _ _ _ => (pg_two (K := K) (i := 0) (j := 1) rfl rfl (show (["pull", "number"] : List Str).Nodup by decide +kernel) rfl rfl rfl rfl)) (fun _ _ _ _ _ => (pe_op op_mul (pv 0) (pv 1)))) pa_nil)))
      (pss_one (ps_ret (pe_cmpR op_eq (pv 3) (pe_callA F_summed_up (hr.mono (by decide)) rfl (pa_cons (pv 1) (pa_cons (pe_fld (pv 0) rfl) (pa_cons (pv 2) pa_nil)))) (nomark _)))))))), ?_⟩
  obtain ⟨dx, fl, ob, l1, l2, l3⟩ := hX.ob
  refine ⟨_, rfl, a, ns, rfl, hA, h1, fun H1 s1 => ⟨true, rfl, iteF ?_⟩⟩
  refine ⟨_, rfl, _, rfl, a, b, ns, ws, rfl, s1.at hA, s1.at hB, h1, hl, hw.one, fun H2 s2 => ⟨true, rfl, iteF ?_⟩⟩
  have s12 := s1.trans s2
  refine ⟨_, rfl, _, rfl, x, _, dx, fl, _, rfl, s12.at ob, C_Summed.cl, N_Summed.r, l1, a, r, ns, row, rfl, s12.at hA, s12.at hX.rl, h1, h2, fun b3 H3 hb3 s3 => ⟨b3, rfl, ?_⟩⟩
  have s13 := s12.trans s3
  cases b3 with
  | false => exact iteT (iteT (q _ _ (ff_iff fun z => by have := hb3.mpr ⟨z.1, z.2.2.ris_row z.1⟩; cases this) s13))
  | true =>
    obtain ⟨g1, g2⟩ := hb3.mp rfl
    refine iteF ?_
    refine ⟨_, rfl, _, rfl, x, _, dx, fl, _, rfl, s13.at ob, C_Summed.cl, N_Summed.p, l2, a, p, ns, pulls, rfl, s13.at hA, s13.at hX.pl, h1, h3, fun b4 H4 hb4 s4 => ⟨b4, rfl, ?_⟩⟩
    have s14 := s13.trans s4
    cases b4 with
    | false => exact iteT (q _ _ (ff_iff fun z => by have := hb4.mpr z.2.1; cases this) s14)
    | true =>
      have g3 := hb4.mp rfl
      refine iteF ?_
      refine ⟨_, rfl, x, _, dx, fl, _, rfl, s14.at ob, C_Summed.cl, N_Summed.p, l2, _, rfl, p, b, pulls, ws, rfl, s14.at hX.pl, s14.at hB, by omega, by omega, fun b5 H5 hb5 s5 => ⟨b5, rfl, ?_⟩⟩
      have s15 := s14.trans s5
      cases b5 with
      | false => exact iteT (iteT (q _ _ (ff_iff fun z => by have := hb5.mpr (fun i hi => z.2.2.bd i (by omega)); cases this) s15))
      | true =>
        have g4 := hb5.mp rfl
        refine iteF ?_
        refine ⟨_, rfl, x, _, dx, fl, _, rfl, s15.at ob, C_Summed.cl, N_Summed.p, l2, p, pulls, rfl, s15.at hX.pl, fun b6 hb6 => ⟨b6, rfl, ?_⟩⟩
        rw [g3] at hb6
        cases b6 with
        | false => exact iteT (q _ _ (ff_iff fun z => by have := hb6.mpr ⟨z.2.2.nn, z.2.2.all⟩; cases this) s15)
        | true =>
          obtain ⟨g5, g6⟩ := hb6.mp rfl
          refine iteF ?_
          refine ⟨_, rfl, x, _, dx, fl, _, rfl, s15.at ob, C_Summed.cl, N_Summed.p, l2, _, rfl, p, a, rfl, ⟨_, SqL.of (s15.at hX.pl)⟩, ⟨_, SqL.of (s15.at hA)⟩, ?_⟩
          refine comp_zip (xs := pulls.map V.int) (zs := ns.map V.int) (len_map_le h3) (by rw [List.length_map, List.length_map, g3]) (fun i ys H' => Same H5 H' ∧ ys = ((List.range i).map fun j => pulls.getD j 0 * ns.getD j 0).map V.int) ⟨Same.refl _, rfl⟩
            (fun i ys H' _ h => ⟨SqL.of (h.1.at (s15.at hX.pl)), SqL.of (h.1.at (s15.at hA))⟩) ?_ ?_
          · rintro k y z ys H' pp hy hz ⟨sm', rfl⟩ hpp
            obtain ⟨n, hn, rfl⟩ := ints_at hy
            obtain ⟨o, ho, rfl⟩ := ints_at hz
            have hk : k < ws.length := by have := (List.getElem?_eq_some_iff.mp hn).1; omega
            have b1 := g4 k hk
            have b2 := hw.at hk
            rw [gd_of hn] at b1
            refine ⟨pp, _, rfl, SqT.of upd_same, rfl, _, _, rfl, _, _, rfl, rfl, ⟨rfl, rfl⟩, _, rfl, _, rfl, _, _, rfl, rfl, .inl ⟨by omega, by omega⟩, sm'.new hpp _, ?_⟩
            rw [range_snoc, List.map_append, gd_of hn, gd_of ho]
            rfl
          · rintro ys H' ⟨sm', rfl⟩ D hD
            refine ⟨D, _, rfl, SqL.of upd_same, ?_⟩
            have s16 := s15.trans (sm'.new hD (.lst (((List.range (pulls.map V.int).length).map fun j => pulls.getD j 0 * ns.getD j 0).map V.int)))
            refine ⟨_, rfl, _, rfl, _, rfl, x, _, dx, fl, _, rfl, s16.at ob, C_Summed.cl, N_Summed.r, l1, _, rfl, a, r, b, ns, row, ws, rfl, s16.at hA, s16.at hX.rl, s16.at hB, h1, g1, hl, (fun w hw' => ⟨(hw w hw').1, by have := (hw w hw').2; omega⟩), fun H7 s7 => ?_⟩
            refine ⟨rfl, q _ _ ?_ (s16.trans s7)⟩
            rw [decide_eq_true_iff, int_iff, cost_sm g1 hl, sum_range, List.length_map, g3]
            exact ⟨fun z => ⟨g1, g3, ⟨fun i hi => g2 i (by omega), fun i hi => g4 i (by omega), g5, g6, z⟩⟩, fun z => z.2.2.cost⟩
theorem ok_summed (M : Bn mg) (F_check_numbers : FnA P w K mg base "check_numbers" ["numbers"] 4 spChk1) (F_check_weights : FnA P w K mg base "check_weights" ["numbers", "weights"] 6 spChkW) (F_cheapest_ends : FnA P w K mg base "cheapest_ends" ["numbers", "weights"] 4 spEnds) (F_lower_row : FnA P w K mg base "lower_row" ["numbers"] 2 spLo) (F_pulls_of : FnA P w K mg base "pulls_of" ["numbers", "row", "weights"] 3 (spSums pl)) (F_Summed___init__ : MakeA P w K mg base "Summed" c.Summed ["self", "row", "pulls"] 1 (spSuInit c)) (F : Fun K "summed" "summed" s_summed f fd) : FnOk P w K mg base CX0 9 f fd ["numbers", "weights"] (spSumP c) := by
  refine F.ok sc_summed (fun vs H Q E h => ?_) (fun cdv A outer s H vs Q E hr h => ?_)
  · obtain ⟨a, b, ns, ws, rfl, _⟩ := h; rfl
  obtain ⟨a, b, ns, ws, rfl, hA, hB, h8, hl, hw, q⟩ := h
  refine ⟨_, (pss_cons (ps_expr (pe_callA F_check_numbers (hr.mono (by decide)) rfl (pa_cons (pv 0) pa_nil)))
      (pss_cons (ps_expr (pe_callA F_check_weights (hr.mono (by decide)) rfl (pa_cons (pv 0) (pa_cons (pv 1) pa_nil))))
      (pss_cons (ps_set (i := 2) sc_summed.nd rfl (Or.inl rfl) (pe_callA F_lower_row (hr.mono (by decide)) rfl (pa_cons (pe_callA F_cheapest_ends (hr.mono (by decide)) rfl (pa_cons (pv 0) (pa_cons (pv 1) pa_nil))) pa_nil)))
      (pss_one (ps_ret (pe_makeA F_Summed___init__ (hr.mono (by decide)) rfl (pa_cons (pv 2) (pa_cons (pe_callA F_pulls_of (hr.mono (by decide)) rfl (pa_cons (pv 0) (pa_cons (pv 2) (pa_cons (pv 1) pa_nil)))) pa_nil)))))))), ?_⟩
  refine ⟨_, rfl, a, ns, rfl, hA, by omega, fun H1 s1 => ?_⟩
  refine ⟨_, rfl, _, rfl, a, b, ns, ws, rfl, s1.at hA, s1.at hB, by omega, hl, hw.one, fun H2 s2 => ?_⟩
  have s12 := s1.trans s2
  refine ⟨_, rfl, _, rfl, a, b, ns, ws, rfl, s12.at hA, s12.at hB, h8, hl, hw, fun pe es H3 s3 hpe hPe hE => ⟨pe, es, rfl, hPe, by have := hE.1; omega, fun pr H4 s4 hpr hPr => ?_⟩⟩
  have s14 := s12.trans (s3.trans s4)
  have hrl : (loL es).length = ns.length := by rw [loL_length]; exact hE.1
  refine ⟨_, rfl, _, rfl, _, rfl, _, rfl, a, pr, b, ns, loL es, ws, rfl, s14.at hA, hPr, s14.at hB, by omega, hrl, hl, fun pp H5 s5 hpp hPp x dx hx hdx hne => ?_⟩
  have s15 := s14.trans s5
  have s6 : Same H5 (upd (upd H5 dx (.own x)) x (.ins c.Summed dx [])) := same_own hx hdx
  refine ⟨x, pr, pp, dx, _, _, rfl, upd_same, s6.at (s5.at hPr), s6.at hPp, fun r' p' H7 hr' hp' nrp hX kp => ⟨rfl, ?_⟩⟩
  refine q x r' p' _ _ H7 hX (s15.trans (kp.same s6 hx)) (s15.free hx) (s15.free (s6.free hr')) (s15.free (s6.free hp')) nrp ⟨hrl, by rw [List.length_map, List.length_range], ?_⟩
  have z := summed_ok hE (fun i hi => (hw.at (i := i) (by omega)).1)
  exact SmC.pulls z
theorem ok_lowest (M : Bn mg) (F_common_divisor : FnA P w K mg base "common_divisor" ["one", "other"] 1 spGcd) (F : Fun K "lowest" "lowest" s_lowest f fd) : FnOk P w K mg base CX0 2 f fd ["top", "bottom"] spLowW := by
  refine F.ok sc_lowest (fun vs H Q E h => ?_) (fun cdv A outer s H vs Q E hr h => ?_)
  · obtain ⟨t, b, rfl, _⟩ := h; rfl
  obtain ⟨t, b, rfl, hb, hb2, q⟩ := h
  have hb3 := BotOk.bits hb hb2
  refine ⟨_, (pss_cons (ps_set (i := 2) sc_lowest.nd rfl (Or.inl rfl) (pe_callA F_common_divisor (hr.mono (by decide)) rfl (pa_cons (pv 0) (pa_cons (pv 1) pa_nil))))
      (pss_one (ps_ret (pe_tup (pa_cons (pe_op op_fdivL (pv 0) (pv 2)) (pa_cons (pe_op op_fdivL (pv 1) (pv 2)) pa_nil)))))), ?_⟩
  refine ⟨_, rfl, _, rfl, t, b, rfl, ?_⟩
  exact ⟨_, rfl, _, rfl, _, _, rfl, rfl, gcdL hb hb3, _, rfl, _, rfl, _, _, rfl, rfl, gcdL hb hb3, (by show 2 ≤ sizeLine; decide), fun p hp => q p hp⟩
theorem ok_squared (M : Bn mg) (F_check_numbers : FnA P w K mg base "check_numbers" ["numbers"] 4 spChk1) (F_check_weights : FnA P w K mg base "check_weights" ["numbers", "weights"] 6 spChkW) (F_level_runs : FnA P w K mg base "level_runs" ["numbers", "weights"] 2 spRuns) (F_lowest : FnA P w K mg base "lowest" ["top", "bottom"] 2 spLowW) (F_Squared___init__ : MakeA P w K mg base "Squared" c.Squared ["self", "row"] 1 (spSqInit c)) (F : Fun K "squared" "squared" s_squared f fd) : FnOk P w K mg base CX0 7 f fd ["numbers", "weights"] (spSquaredW c) := by
  refine F.ok sc_squared (fun vs H Q E h => ?_) (fun cdv A outer s H vs Q E hr h => ?_)
  · obtain ⟨a, b, ns, ws, rfl, _⟩ := h; rfl
  obtain ⟨a, b, ns, ws, rfl, hA, hB, h1k, hl, hw, q⟩ := h
  refine ⟨_, (pss_cons (ps_expr (pe_callA F_check_numbers (hr.mono (by decide)) rfl (pa_cons (pv 0) pa_nil)))
      (pss_cons (ps_expr (pe_callA F_check_weights (hr.mono (by decide)) rfl (pa_cons (pv 0) (pa_cons (pv 1) pa_nil))))
      (pss_cons (ps_set (i := 2) sc_squared.nd rfl (Or.inl rfl) (pe_lst pa_nil))
      (pss_cons (ps_for PassesOwn.never rfl (pi_list (pe_callA F_level_runs (hr.mono (by decide)) rfl (pa_cons (pv 0) (pa_cons (pv 1) pa_nil)))) (pg_name (i := 3) sc_squared.nd rfl (Or.inl rfl) (Or.inl rfl)) (pss_one (ps_expr (pe_bm PySem.F.plainAttrs_list PySem.F.slot_list_extend PySem.F.type_list_extend mt_extend (pv 2) (pa_cons (pe_op op_rep (pe_lst (pa_cons (pe_callA F_lowest (hr.mono (by decide)) rfl (pa_cons (pe_ix ix_tup (pv 3) pe_int (fun _ _ => rfl)) (pa_cons (pe_ix ix_tup (pv 3) pe_int (fun _ _ => rfl)) pa_nil))) pa_nil)) (pe_ix ix_tup (pv 3) pe_int (fun _ _ => rfl))) pa_nil)))))
      (pss_one (ps_ret (pe_makeA F_Squared___init__ (hr.mono (by decide)) rfl (pa_cons (pv 2) pa_nil)))))))), ?_⟩
  refine ⟨_, rfl, a, ns, rfl, hA, h1k, fun H1 s1 => ?_⟩
  refine ⟨_, rfl, _, rfl, a, b, ns, ws, rfl, s1.at hA, s1.at hB, h1k, hl, hw.one, fun H2 s2 => ?_⟩
  have s12 := s1.trans s2
  refine ⟨Nat.zero_le _, fun p hp => ?_⟩
  have s3 : Same H2 (upd H2 p (.lst [])) := same_new hp _
  have s13 := s12.trans s3
  refine ⟨_, rfl, _, rfl, a, b, ns, ws, rfl, s13.at hA, s13.at hB, h1k, hl, hw, fun lr rr rs H4 s4 hlr hLR hT hRuns => ⟨lr, rfl, ⟨_, SqL.of hLR⟩, ?_⟩⟩
  have s14 := s13.trans s4
  have hp4 : H4 p = some (.lst []) := s4.at upd_same
  have npl : p ≠ lr := ne_of_none upd_same hlr
  have bnd := runs_bound hRuns
  refine for_list (xs := rr.map V.ref) (fun i σ H' => Same H H' ∧ H' lr = some (.lst (rr.map V.ref)) ∧ TrAt H' rr rs ∧ ∃ (ts : List Addr) (v3 : Option V), σ = [some (.ref a), some (.ref b), some (.ref p), v3] ∧ H' p = some (.lst (ts.map V.ref)) ∧ FrAt H' ts (rowOf (rs.take i)) ∧ FOk (rowOf (rs.take i)))
    ⟨s14, hLR, hT, [], _, rfl, hp4, ⟨rfl, fun i r t e => by simp at e⟩, fun f hf => by simp [rowOf] at hf⟩ (fun i σ H' _ h => SqL.of h.2.1) ?_ ?_
  · rintro i x σ H' hx ⟨sm, hLR', hT', ts, v3, rfl, hP, hF, hok⟩
    obtain ⟨u, hu, rfl⟩ := refs_at hx
    have hi : i < rs.length := by rw [← hT.1]; exact (List.getElem?_eq_some_iff.mp hu).1
    obtain ⟨t, ht⟩ := get_of hi
    have hU := hT'.2 i u t hu ht
    obtain ⟨w1, w2, c1, c2⟩ := bnd.2 hw h1k t (List.mem_of_getElem? ht)
    have npu : u ≠ p := ne_of hU hP (by intro w; cases w)
    refine ⟨_, rfl, .inl ⟨rfl, _, SqL.of hP⟩, ?_⟩
    refine ⟨_, rfl, u, _, 0, _, rfl, rfl, SqT.of hU, rfl, _, rfl, u, _, 1, _, rfl, rfl, SqT.of hU, rfl, _, _, rfl, w1, by omega, fun f hf => ?_⟩
    have sf := same_new hf (.tup [.int (lowP t.1 t.2.1).1, .int (lowP t.1 t.2.1).2])
    refine ⟨(by show 1 ≤ sizeLine; decide), fun l1 hl1 => ?_⟩
    have sl := same_new hl1 (.lst [.ref f])
    refine ⟨_, rfl, u, _, 2, _, rfl, rfl, SqT.of ((sf.trans sl).at hU), rfl, l1, _, _, rfl, rfl, upd_same, by omega, by omega, (by show 1 * _ ≤ sizeLine; have := le1000 (n := 1000) (Nat.le_refl _); omega), fun l2 hl2 => ?_⟩
    have sr := same_new hl2 (.lst (List.replicate t.2.2.toNat [V.ref f]).flatten)
    have sAll := sf.trans (sl.trans sr)
    have eL := bnd.1 i t ht
    refine ⟨p, l2, _, _, rfl, rfl, sAll.at hP, upd_same, ?_, ?_⟩
    · rw [List.length_map, len_rep, hF.1]
      have := le1000 (n := 1000) (Nat.le_refl _)
      show _ + _ * 1 ≤ _
      omega
    · have hpn : H p = none := s12.free hp
      have nlp : lr ≠ p := npl.symm
      refine ⟨(sm.trans sAll).upd hpn _, (by rw [upd_ne nlp]; exact sAll.at hLR'), (hT'.same sAll).upd (sAll.at hP) _, ts ++ List.replicate t.2.2.toNat f, _, rfl, ?_, ?_, ?_⟩
      · rw [upd_same, List.map_append, rep_ref]
      · rw [take_snoc ht, rowOf_snoc]
        exact FrAt.reps (hF.same sAll) (sAll.at hP) (sl.trans sr |>.at upd_same)
      · rw [take_snoc ht, rowOf_snoc]
        intro g hg
        rcases List.mem_append.mp hg with hg | hg
        · exact hok g hg
        · rw [List.eq_of_mem_replicate hg]
          exact ⟨by have := lowP_pos (t := t.1) w1; omega, by have := lowP_le (t := t.1) w1; omega, lowP_gcd w1⟩
  · rintro σ H' ⟨sm, hLR', hT', ts, v3, rfl, hP, hF, hok⟩
    rw [List.length_map, hT.1, take_all] at hF hok
    refine ⟨_, rfl, fun x dx hx hdx hne => ?_⟩
    have s5 : Same H' (upd (upd H' dx (.own x)) x (.ins c.Squared dx [])) := same_own hx hdx
    refine ⟨x, p, dx, ts, _, rfl, upd_same, s5.at hP, hF.same s5, fun l' H6 hl' hX kp => ⟨rfl, ?_⟩⟩
    exact q x l' ts rs H6 hX (sm.trans (kp.same s5 hx)) (sm.free hx) (sm.free (s5.free hl')) hRuns hok
end
end K1
set_option Elab.async false
set_option linter.all false
set_option maxRecDepth 100000
set_option maxHeartbeats 8000000
namespace K1
open PySem L2 Fr1 Up
section
seal L2.PE L2.PA L2.PT L2.PW L2.PS L2.PSs L2.PI L2.PG
variable {P : Program} {w : World} {K : PySem.W.Frag} {mg : Str → Option Value} {base : Heap} {f : Addr} {fd : FuncData} {c : CA}
theorem ok__law_numbers (M : Bn mg) (F : Fun K "_law_numbers" "_law_numbers" s__law_numbers f fd) : FnOk P w K mg base CX0 1 f fd ["_law_script"] (spNumbers K) := by
  refine F.ok sc__law_numbers (fun vs H Q E h => ?_) (fun cdv A outer s H vs Q E hr h => ?_)
  · obtain ⟨a, ns, rfl, _⟩ := h; rfl
  obtain ⟨a, ns, rfl, hA, h63, hb, q⟩ := h
  refine ⟨_, (pss_cons (ps_set (i := 1) sc__law_numbers.nd rfl (Or.inr rfl) (pe_ix ix_tup (pe_tup (pa_cons pe_int (pa_cons pe_int (pa_cons pe_int pa_nil)))) (pe_op op_mod (pe_callB (call_sumL rfl) rfl M.sum' PyProof.Rows.boot_sum (pa_cons (pv 0) pa_nil)) pe_int) (fun _ _ => rfl)))
      (pss_cons (ps_comp (i := 2) rfl sc__law_numbers.nd rfl rfl (CompScope.one ["_law_cell"] "_law_most" 1) (pi_list (pv 0)) (fun _ _ _ _ _ => (pg_name (i := 0) (show (["_law_cell", "_law_most"] : List Str).Nodup by decide +kernel) rfl (Or.inl rfl) (Or.inr rfl))) (fun _ _ _ _ _ => (pe_ifExp (pt_cmpR op_gt (pv 1) pe_int (nomark _)) (pe_op op_sub (pe_op op_mod (pv 0) (pv 1)) (pe_op op_fdivB (pv 1) pe_int)) (pv 0))))
      (pss_cons (ps_if (PW.pt (pw_and (pt_cmpR op_eq (pv 1) pe_int (nomark _)) (pw_and1 (pt_cmpR op_gt (pe_op op_mod (pe_op op_fdivB (pe_callB (call_sumL rfl) rfl M.sum' PyProof.Rows.boot_sum (pa_cons (pv 0) pa_nil)) pe_int) pe_int) pe_int (nomark _))))) (pss_one (ps_comp (i := 2) rfl sc__law_numbers.nd rfl rfl (CompScope.none ["_law_cell"]) (pi_list (pv 0)) (fun _ _ _ _ _ => (pg_name (i := 0) (show (["_law_cell"] : List Str).Nodup by decide +kernel) rfl (Or.inl rfl) (Or.inr rfl))) (fun _ _ _ _ _ => (pe_op op_mul (pe_op op_mod (pv 0) (pe_op op_pow pe_int pe_int)) (pe_op op_sub pe_int (pe_op op_mul (pe_op op_mod (pe_op op_fdivB (pv 0) (pe_op op_pow pe_int pe_int)) pe_int) pe_int)))))) pss_nil)
      (pss_cons (ps_if (pt_cmpR op_eq (pe_op op_mod (pe_op op_fdivB (pe_callB (call_sumL rfl) rfl M.sum' PyProof.Rows.boot_sum (pa_cons (pv 0) pa_nil)) pe_int) pe_int) pe_int (nomark _)) (pss_one (ps_ret (pe_callB call_sortedL rfl M.sorted' PyProof.Rows.boot_sorted (pa_cons (pv 2) pa_nil)))) pss_nil)
      (pss_one (ps_ret (pe_ifExp (pt_cmpR op_eq (pe_op op_mod (pe_op op_fdivB (pe_callB (call_sumL rfl) rfl M.sum' PyProof.Rows.boot_sum (pa_cons (pv 0) pa_nil)) pe_int) pe_int) pe_int (nomark _)) (pe_rev (pe_callB call_sortedL rfl M.sorted' PyProof.Rows.boot_sorted (pa_cons (pv 2) pa_nil))) (pv 2)))))))), ?_⟩
  obtain ⟨m, hm, hm3⟩ := most_at ns.sum
  refine ⟨(by show 3 ≤ sizeLine; decide), fun t0 ht0 => ?_⟩
  have z0 : Same H (upd H t0 (.tup [.int 7, .int 100, .int 0])) := same_new ht0 _
  refine ⟨_, rfl, a, ns, rfl, z0.seq hA, _, _, rfl, rfl, (by show (0 : Int) < 3; decide), t0, _, _, _, rfl, rfl, SqT.of upd_same, hm, ?_⟩
  refine ⟨_, rfl, a, rfl, ⟨_, z0.seq hA⟩, ?_⟩
  refine comp_list (xs := ns.map V.int) (by rw [List.length_map]; exact le63 (by omega)) (fun i ys H' => H' = upd H t0 (.tup [.int 7, .int 100, .int 0]) ∧ ys = ((ns.take i).map fun c => if 0 < m then c % m - m / 2 else c).map V.int) ⟨rfl, rfl⟩ (fun i ys H' _ h => by rw [h.1]; exact z0.seq hA) ?_ ?_
  · rintro i x ys H' hx ⟨rfl, rfl⟩
    obtain ⟨c, hc, rfl⟩ := ints_at hx
    refine ⟨⟨rfl, rfl⟩, _, rfl, _, _, rfl, rfl, _, rfl, ?_⟩
    have e2 := map_snoc (fun c : Int => if 0 < m then c % m - m / 2 else c) hc
    by_cases hp : 0 < m
    · rw [decide_eq_true hp]
      refine iteT ?_
      refine ⟨_, rfl, _, rfl, _, _, rfl, rfl, hp, _, rfl, _, _, rfl, rfl, ⟨by decide, by decide⟩, _, _, rfl, rfl, rfl, ?_⟩
      rw [e2, if_pos hp, List.map_append]
      rfl
    · rw [decide_eq_false hp]
      refine iteF ?_
      refine ⟨_, rfl, rfl, ?_⟩
      rw [e2, if_neg hp, List.map_append]
      rfl
  · rintro ys H' ⟨rfl, rfl⟩ p hp
    have hpn : H p = none := z0.free hp
    have l1 : ((ns.take (ns.map V.int).length).map fun c => if 0 < m then c % m - m / 2 else c) = ns.map fun c => if 0 < m then c % m - m / 2 else c := by rw [List.length_map, take_all]
    rw [l1]
    have z1 : Same H (upd (upd H t0 (.tup [.int 7, .int 100, .int 0])) p (.lst ((ns.map fun c => if 0 < m then c % m - m / 2 else c).map V.int))) := z0.new hp _
    dsimp only [gName]
    refine seq_with (fun σ' H' => ∃ (p : Addr) (ms : List Int), σ' = [some (.ref a), some (.int m), some (.ref p)] ∧ Same H H' ∧ H p = none ∧ H' p = some (.lst (ms.map V.int)) ∧ ms.length = ns.length ∧ ∀ x ∈ ms, Bt x) ?_ (fun cont => ?_)
    · rintro σ' H1 ⟨p, ms, rfl, sm, hpn, hp1, hl, hbm⟩
      refine ⟨_, rfl, a, ns, rfl, sm.seq hA, _, _, rfl, rfl, ⟨by decide, by decide⟩, _, _, rfl, rfl, (by show (0 : Int) < 7; decide), rfl, _, rfl, ?_⟩
      refine ite2 (fun _ => ?_) (fun _ => ?_)
      · exact ⟨_, rfl, p, ms, rfl, SqL.of hp1, by omega, fun ms' l hperm _ hl' => q l _ ms' (sm.new hl' _) (sm.free hl') upd_same (hperm.length_eq.trans hl) fun x hx => hbm x (hperm.mem_iff.mp hx)⟩
      · refine ⟨_, rfl, a, ns, rfl, sm.seq hA, _, _, rfl, rfl, ⟨by decide, by decide⟩, _, _, rfl, rfl, (by show (0 : Int) < 7; decide), rfl, _, rfl, ?_⟩
        refine ite2 (fun _ => ?_) (fun _ => ?_)
        · refine ⟨_, rfl, p, ms, rfl, SqL.of hp1, by omega, fun ms' l hperm _ hl' => ⟨l, _, rfl, SqL.of upd_same, fun r hr' => ?_⟩⟩
          refine q r _ ms'.reverse ((sm.new hl' _).new hr' _) ((sm.new hl' _).free hr') ?_ ?_ fun x hx => hbm x (hperm.mem_iff.mp (List.mem_reverse.mp hx))
          · rw [upd_same, List.map_reverse]
          · rw [List.length_reverse]; exact hperm.length_eq.trans hl
        · exact ⟨_, rfl, q p H1 ms sm hpn hp1 hl hbm⟩
    · have stay := cont _ _ ⟨p, ns.map fun c => if 0 < m then c % m - m / 2 else c, rfl, z1, hpn, upd_same, by rw [List.length_map], fun x hx => by
        obtain ⟨c, hc, rfl⟩ := List.mem_map.mp hx
        exact bt_first hm3 (hb c hc)⟩
      refine ⟨_, rfl, rfl, _, rfl, ?_⟩
      refine ite2 (fun _ => ?_) (fun _ => iteF stay)
      refine ⟨_, rfl, a, ns, rfl, z1.seq hA, _, _, rfl, rfl, ⟨by decide, by decide⟩, _, _, rfl, rfl, (by show (0 : Int) < 3; decide), _, _, rfl, rfl, _, rfl, ?_⟩
      refine ite2 (fun _ => ?_) (fun _ => stay)
      refine ⟨_, rfl, a, rfl, ⟨_, z1.seq hA⟩, ?_⟩
      refine comp_list (xs := ns.map V.int) (by rw [List.length_map]; exact le63 (by omega)) (fun i ys H' => Same H H' ∧ ∃ ms : List Int, ys = ms.map V.int ∧ ms.length = i ∧ ∀ x ∈ ms, Bt x) ⟨z1, [], rfl, rfl, fun x hx => nomatch hx⟩ (fun i ys H' _ h => h.1.seq hA) ?_ ?_
      · rintro i x ys H' hx ⟨sm, ms, rfl, hml, hmb⟩
        obtain ⟨c, hc, rfl⟩ := ints_at hx
        refine ⟨⟨rfl, rfl⟩, _, rfl, _, _, rfl, rfl, ⟨by decide, by decide, by decide⟩, _, _, rfl, rfl, (by show (0 : Int) < 10 ^ (30 : Int).toNat; decide), _, rfl, _, _, rfl, rfl, ⟨by decide, by decide, by decide⟩, _, _, rfl, rfl, ⟨by decide, by decide⟩, _, _, rfl, rfl, (by show (0 : Int) < 2; decide),
          _, _, rfl, rfl, .inr ⟨by decide, by decide⟩, _, _, rfl, rfl, _, _, rfl, rfl, .inr (one_two _), sm, ms ++ [c % 10 ^ (30 : Int).toNat * (1 - c / 10 ^ (30 : Int).toNat % 2 * 2)], ?_, ?_, fun x hx => ?_⟩
        · rw [List.map_append]; rfl
        · rw [List.length_append, hml]; rfl
        · rcases List.mem_append.mp hx with hx | hx
          · exact hmb x hx
          · rw [List.mem_singleton.mp hx, pow30]
            exact bt_second c
      · rintro ys H' ⟨sm, ms, rfl, hml, hmb⟩ D hD
        exact cont _ _ ⟨D, ms, rfl, sm.new hD _, sm.free hD, upd_same, by rw [hml, List.length_map], hmb⟩
theorem ok__law_weights (M : Bn mg) (F : Fun K "_law_weights" "_law_weights" s__law_weights f fd) : FnOk P w K mg base CX0 1 f fd ["_law_script"] (spWeights K) := by
  refine F.ok sc__law_weights (fun vs H Q E h => ?_) (fun cdv A outer s H vs Q E hr h => ?_)
  · obtain ⟨a, ns, rfl, _⟩ := h; rfl
  obtain ⟨a, ns, rfl, hA, h63, q⟩ := h
  refine ⟨_, (pss_cons (ps_set (i := 1) sc__law_weights.nd rfl (Or.inr rfl) (pe_op op_mod (pe_op op_fdivB (pe_callB (call_sumL rfl) rfl M.sum' PyProof.Rows.boot_sum (pa_cons (pv 0) pa_nil)) pe_int) pe_int))
      (pss_cons (ps_comp (i := 2) rfl sc__law_weights.nd rfl rfl (CompScope.none ["_law_cell"]) (pi_list (pv 0)) (fun _ _ _ _ _ => (pg_name (i := 0) (show (["_law_cell"] : List Str).Nodup by decide +kernel) rfl (Or.inl rfl) (Or.inr rfl))) (fun _ _ _ _ _ => (pe_op op_add (pe_op op_fdivB (pv 0) pe_int) (pe_op op_fdivB (pv 0) (pe_op op_mul pe_int (pe_op op_pow pe_int pe_int))))))
      (pss_one (ps_ret (pe_comp rfl (CompScope.one ["_law_rest"] "_law_kind" 1) (pi_list (pv 2)) (fun _ _ _ _ _ => (pg_name (i := 0) (show (["_law_rest", "_law_kind"] : List Str).Nodup by decide +kernel) rfl (Or.inl rfl) (Or.inr rfl))) (fun _ _ _ _ _ => (pe_ix (ix_tupK (K := K) rfl) (pe_tup (pa_cons pe_int (pa_cons (pe_op op_add pe_int (pe_op op_mod (pv 0) pe_int)) (pa_cons (pe_op op_add pe_int (pe_op op_mod (pv 0) (pe_op op_pow pe_int pe_int))) pa_nil)))) (pv 1) (fun _ _ => rfl)))))))), ?_⟩
  refine ⟨_, rfl, a, ns, rfl, hA, _, _, rfl, rfl, ⟨by decide, by decide⟩, _, _, rfl, rfl, (by show (0 : Int) < 3; decide), ?_⟩
  refine ⟨_, rfl, a, rfl, ⟨_, hA⟩, ?_⟩
  refine comp_list (xs := ns.map V.int) (by rw [List.length_map]; exact le63 (by omega)) (fun i ys H' => H' = H ∧ ∃ ms : List Int, ys = ms.map V.int ∧ ms.length = i) ⟨rfl, [], rfl, rfl⟩ (fun i ys H' _ h => by rw [h.1]; exact hA) ?_ ?_
  · rintro i x ys H' hx ⟨rfl, ms, rfl, hml⟩
    obtain ⟨c, hc, rfl⟩ := ints_at hx
    refine ⟨⟨rfl, rfl⟩, _, rfl, _, _, rfl, rfl, ⟨by decide, by decide⟩, _, rfl, _, _, rfl, rfl, ⟨by decide, by decide, by decide⟩, _, _, rfl, rfl, .inl ⟨by decide, by decide⟩, _, _, rfl, rfl, ⟨by decide, by decide⟩, _, _, rfl, rfl, rfl, ms ++ [c / 7 + c / (2 * 10 ^ (30 : Int).toNat)], ?_, ?_⟩
    · rw [List.map_append]; rfl
    · rw [List.length_append, hml]; rfl
  · rintro ys H' ⟨rfl, ms, rfl, hml⟩ p hp
    rw [List.length_map] at hml
    have z1 : Same H' (upd H' p (.lst (ms.map V.int))) := same_new hp _
    refine ⟨_, rfl, p, rfl, ⟨_, SqL.of upd_same⟩, ?_⟩
    refine comp_list (xs := ms.map V.int) (by rw [List.length_map]; exact le63 (by omega)) (fun i ys H1 => Same (upd H' p (.lst (ms.map V.int))) H1 ∧ ∃ ws : List Int, ys = ws.map V.int ∧ ws.length = i ∧ ∀ x ∈ ws, 1 ≤ x ∧ x ≤ 1000000000) ⟨Same.refl _, [], rfl, rfl, fun x hx => nomatch hx⟩
      (fun i ys H1 _ h => SqL.of (h.1.at upd_same)) ?_ ?_
    · rintro i x ys H1 hx ⟨sm, ws, rfl, hwl, hwb⟩
      obtain ⟨c, hc, rfl⟩ := ints_at hx
      obtain ⟨v, hv, hv1, hv2⟩ := weight_at (t := ns.sum / 21) (a := c % 5) (b := c % 10 ^ (9 : Int).toNat) ⟨Int.emod_nonneg _ (by decide), Int.emod_lt_of_pos _ (by decide)⟩ ⟨Int.emod_nonneg _ (by decide), by rw [pow9]; exact Int.emod_lt_of_pos _ (by decide)⟩
      refine ⟨⟨rfl, rfl⟩, _, rfl, _, _, rfl, rfl, (by show (0 : Int) < 5; decide), _, _, rfl, rfl, _, rfl, _, _, rfl, rfl, ⟨by decide, by decide, by decide⟩, _, _, rfl, rfl, (by show (0 : Int) < 10 ^ (9 : Int).toNat; decide), _, _, rfl, rfl, (by show 3 ≤ sizeLine; decide), fun t ht => ?_⟩
      refine ⟨_, rfl, t, _, _, _, rfl, rfl, SqT.of upd_same, hv, sm.new ht _, ws ++ [v], ?_, ?_, fun x hx => ?_⟩
      · rw [List.map_append]; rfl
      · rw [List.length_append, hwl]; rfl
      · rcases List.mem_append.mp hx with hx | hx
        · exact hwb x hx
        · rw [List.mem_singleton.mp hx]; exact ⟨hv1, hv2⟩
    · rintro ys H1 ⟨sm, ws, rfl, hwl, hwb⟩ D hD
      have z2 : Same H' H1 := z1.trans sm
      exact q D _ ws (z2.new hD _) (z2.free hD) upd_same (by rw [hwl, List.length_map, hml]) hwb
theorem ok__law_rises (M : Bn mg) (F : Fun K "_law_rises" "_law_rises" s__law_rises f fd) : FnOk P w K mg base CX0 2 f fd ["_law_row"] spRise := by
  refine F.ok sc__law_rises (fun vs H Q E h => ?_) (fun cdv A outer s H vs Q E hr h => ?_)
  · obtain ⟨a, ns, rfl, _⟩ := h; rfl
  obtain ⟨a, ns, rfl, hA, h1k, q⟩ := h
  refine ⟨_, (pss_one (ps_ret (pe_callB (call_allL rfl) rfl M.all' boot_allB (pa_cons (pe_comp rfl (CompScope.one ["_law_at"] "_law_row" 0) (pi_range1 rfl M.range' (pa_cons (pe_op op_sub (pe_callB call_len_seq rfl M.len' PySem.boot_len (pa_cons (pv 0) pa_nil)) pe_int) pa_nil)) (fun _ _ _ _ _ => (pg_name (i := 0) (show (["_law_at", "_law_row"] : List Str).Nodup by decide +kernel) rfl (Or.inl rfl) (Or.inr rfl))) (fun _ _ _ _ _ => (pe_cmpR op_le (pe_ix (ix_listK (K := K) rfl) (pv 1) (pv 0) (fun _ _ => rfl)) (pe_ix (ix_listK (K := K) rfl) (pv 1) (pe_op op_add (pv 0) pe_int) (fun _ _ => rfl)) (nomark _)))) pa_nil)))), ?_⟩
  refine ⟨_, rfl, a, _, rfl, .inl (SqL.of hA), _, _, rfl, rfl, _, rfl, by rw [List.length_map]; omega, by rw [List.length_map]; omega, ?_⟩
  have hn : ((((ns.map V.int).length : Nat) : Int) - 1).toNat = ns.length - 1 := by rw [List.length_map]; omega
  rw [hn]
  refine comp_range (n := ns.length - 1) (le1000 (by omega)) (fun i ys H' => H' = H ∧ ys = ((List.range i).map fun j => decide (ns.getD j 0 ≤ ns.getD (j + 1) 0)).map V.bl) ⟨rfl, rfl⟩ ?_ ?_
  · rintro i ys H' hi ⟨rfl, rfl⟩
    refine ⟨⟨rfl, rfl⟩, _, rfl, _, rfl, a, _, _, _, rfl, rfl, SqL.of hA, atI_gd (i := i) (by omega) (by omega), _, rfl, _, rfl, _, _, rfl, rfl, a, _, _, _, rfl, rfl, SqL.of hA, atI_gd (i := i + 1) (by omega) (by omega), _, _, rfl, rfl, rfl, ?_⟩
    rw [range_snoc, List.map_append]
    rfl
  · rintro ys H' ⟨rfl, rfl⟩ D hD
    refine ⟨D, _, rfl, SqL.of upd_same, q _ _ ?_ (same_new hD _)⟩
    rw [all_range]
    exact ⟨fun h i hi => of_decide_eq_true (h i (by omega)), fun h i hi => decide_eq_true (h i (by omega))⟩
theorem ok__law_even (M : Bn mg) (F__law_rises : FnA P w K mg base "_law_rises" ["_law_row"] 2 spRise) (F : Fun K "_law_even" "_law_even" s__law_even f fd) : FnOk P w K mg base CX0 3 f fd ["_law_numbers_here", "_law_row", "_law_first", "_law_second"] spEven := by
  refine F.ok sc__law_even (fun vs H Q E h => ?_) (fun cdv A outer s H vs Q E hr h => ?_)
  · obtain ⟨a, r, ns, row, i, j, rfl, _⟩ := h; rfl
  obtain ⟨a, r, ns, row, i, j, rfl, hA, hR, h1, h2, q⟩ := h
  refine ⟨_, (pss_cons (ps_if (PW.pt (pw_or (pt_cmpR op_ne (pe_callB call_len_seq rfl M.len' PySem.boot_len (pa_cons (pv 1) pa_nil)) (pe_callB call_len_seq rfl M.len' PySem.boot_len (pa_cons (pv 0) pa_nil)) (nomark _)) (pw_or1 (pt_not (pt_val (pe_callA F__law_rises (hr.mono (by decide)) rfl (pa_cons (pv 1) pa_nil))))))) (pss_one (ps_ret pe_bl)) pss_nil)
      (pss_cons (ps_if (pt_cmpR (op_eqLI hr.units) (pv 0) (pe_lst pa_nil) (nomark _)) (pss_one (ps_ret (pe_and (pe_cmpR op_eq (pv 2) pe_int (nomark _)) (pe_one (pe_cmpR op_eq (pv 3) pe_int (nomark _)))))) pss_nil)
      (pss_cons (ps_if (pt_not (pt_chain3 op_le op_le op_lt pe_int (pv 2) (pv 3) (pe_callB call_len_seq rfl M.len' PySem.boot_len (pa_cons (pv 0) pa_nil)))) (pss_one (ps_ret pe_bl)) pss_nil)
      (pss_cons (ps_set (i := 4) sc__law_even.nd rfl (Or.inl rfl) (pe_callB (call_maxL rfl) rfl M.max' boot_maxB (pa_cons (pe_comp rfl (CompScope.none ["_law_number", "_law_one"]) (pi_zip rfl M.zip' (pa_cons (pv 0) (pa_cons (pv 1) pa_nil))) (fun _ _ _ _ _ => (pg_two (K := K) (i := 0) (j := 1) rfl rfl (show (["_law_number", "_law_one"] : List Str).Nodup by decide +kernel) rfl rfl rfl rfl)) (fun _ _ _ _ _ => (pe_callB call_abs rfl M.abs' boot_absB (pa_cons (pe_op op_sub (pv 0) (pv 1)) pa_nil)))) pa_nil)))
      (pss_one (ps_ret (pe_or (pe_cmpR op_in_seq (pe_op op_sub (pe_ix ix_list (pv 0) (pv 2) (fun _ _ => rfl)) (pe_ix ix_list (pv 0) (pv 3) (fun _ _ => rfl))) (pe_lst (pa_cons (pe_op op_mul pe_int (pv 4)) (pa_cons (pe_op op_sub (pe_op op_mul pe_int (pv 4)) pe_int) pa_nil))) (by rfl)) (pe_one (pe_cmpR op_gt (pe_op op_sub (pe_ix ix_list (pv 0) (pv 2) (fun _ _ => rfl)) (pe_ix ix_list (pv 0) (pv 3) (fun _ _ => rfl))) (pe_op op_mul pe_int (pv 4)) (nomark _)))))))))), ?_⟩
  refine ⟨_, rfl, r, _, rfl, .inl (SqL.of hR), _, rfl, a, _, rfl, .inl (SqL.of hA), rfl, _, rfl, ?_⟩
  rcases (Decidable.em (row.length = ns.length)).symm with hl | hl
  · exact iteNT (fun z => hl (len_iff.mp z)) (iteT (q _ _ (ff_iff fun z => hl z.len) (Same.refl _)))
  refine iteNF (len_iff.mpr hl) ?_
  refine ⟨_, rfl, r, row, rfl, hR, h2, fun b1 H1 hb1 s1 => ⟨b1, rfl, ?_⟩⟩
  cases b1 with
  | false => exact iteT (q _ _ (ff_iff fun z => by have := hb1.mpr z.ris; cases this) s1)
  | true =>
    have hris := hb1.mp rfl
    refine iteF ?_
    refine ⟨_, rfl, Nat.zero_le _, fun e he => ?_⟩
    have s2 : Same H1 (upd H1 e (.lst [])) := same_new he _
    have s12 := s1.trans s2
    refine ⟨a, e, ns, [], rfl, rfl, SqL.of (s12.at hA), SqL.of upd_same, _, rfl, iteD (fun hn => ?_) (fun hn => ?_)⟩
    · subst hn
      refine ⟨_, rfl, rfl, _, rfl, iteD (fun z1 => ⟨_, rfl, rfl, q _ _ ?_ s12⟩) (fun z1 => q _ _ ?_ s12)⟩
      · rw [decide_eq_true_iff, int_iff, ev_nil hl]
        exact ⟨fun z => ⟨int_iff.mp z1, z⟩, fun z => z.2⟩
      · refine ff_iff fun z => z1 ?_
        rw [((ev_nil hl).mp z).1]
    · have hpos : 0 < ns.length := List.length_pos_iff.mpr hn
      refine ⟨_, rfl, _, _, rfl, rfl, _, rfl, iteD (fun g1 => ?_) (fun g1 => ⟨_, rfl, iteT (q _ _ (ff_iff fun z => g1 z.f0) s12)⟩)⟩
      refine ⟨_, rfl, _, _, rfl, rfl, _, rfl, iteD (fun g2 => ?_) (fun g2 => ⟨_, rfl, iteT (q _ _ (ff_iff fun z => g2 z.fs) s12)⟩)⟩
      refine ⟨_, rfl, a, _, rfl, .inl (SqL.of (s12.at hA)), _, _, rfl, rfl, _, rfl, ?_⟩
      rcases (Decidable.em (j < (((ns.map V.int).length : Nat) : Int))).symm with g3 | g3
      · refine iteNT g3 (q _ _ (ff_iff fun z => g3 ?_) s12)
        rw [List.length_map]
        rcases z.sl with z5 | z5 <;> omega
      refine iteNF g3 ?_
      rw [List.length_map] at g3
      refine ⟨_, rfl, _, rfl, a, r, rfl, ⟨_, SqL.of (s12.at hA)⟩, ⟨_, SqL.of (s12.at hR)⟩, ?_⟩
      have hdl := dl_length (ns := ns) (rs := row) (by omega)
      refine comp_zip (xs := ns.map V.int) (zs := row.map V.int) (len_map_le h1) (by rw [List.length_map, List.length_map, hl]) (fun i ys H' => Same (upd H1 e (.lst [])) H' ∧ ys = ((dl ns row).take i).map V.int) ⟨Same.refl _, rfl⟩
        (fun i ys H' _ h => ⟨SqL.of (h.1.at (s12.at hA)), SqL.of (h.1.at (s12.at hR))⟩) ?_ ?_
      · rintro k x z ys H' p hx hz ⟨sm, rfl⟩ hp
        obtain ⟨n, hn, rfl⟩ := ints_at hx
        obtain ⟨m, hm, rfl⟩ := ints_at hz
        refine ⟨p, _, rfl, SqT.of upd_same, rfl, _, _, rfl, _, _, rfl, rfl, ⟨rfl, rfl⟩, _, rfl, _, rfl, _, _, rfl, rfl, _, rfl, sm.new hp _, ?_⟩
        rw [take_snoc (dl_at hn hm), List.map_append]
        rfl
      · rintro ys H' ⟨sm, rfl⟩ D hD
        refine ⟨D, dl ns row, rfl, SqL.of ?_, ?_, fun M hM hle => ?_⟩
        · rw [upd_same, List.length_map, ← hdl, take_all]
        · intro z
          rw [z] at hdl
          simp at hdl
          omega
        · have eM := max_eq hM hle
          have s3 : Same H (upd H' D (.lst (((dl ns row).take (ns.map V.int).length).map V.int))) := s12.trans (sm.new hD _)
          refine ⟨_, rfl, _, rfl, a, _, _, _, rfl, rfl, SqL.of (s3.at hA), atI_gd (i := i.toNat) (by omega) (by omega), _, rfl, _, rfl, a, _, _, _, rfl, rfl, SqL.of (s3.at hA), atI_gd (i := j.toNat) (by omega) (by omega), _, _, rfl, rfl, ?_⟩
          refine ⟨_, rfl, _, _, rfl, rfl, .inl ⟨by decide, by decide⟩, _, rfl, _, _, rfl, rfl, .inl ⟨by decide, by decide⟩, _, _, rfl, rfl, (by show 2 ≤ sizeLine; decide), fun l hl' => ?_⟩
          have s4 := s3.new hl' (.lst [.int (2 * M), .int (2 * M - 1)])
          refine ⟨l, _, rfl, .inl (SqL.of upd_same), rfl, rfl, _, rfl, ?_⟩
          refine ite2 (fun hin => q _ _ (tt_iff ?_) s4) (fun hin => ?_)
          · have := in2.mp hin
            refine ⟨hl, hris, g1, g2, .inl g3, ?_⟩
            rw [← eM]
            omega
          · have hin' : ¬ (ns.getD i.toNat 0 - ns.getD j.toNat 0 = 2 * M ∨ ns.getD i.toNat 0 - ns.getD j.toNat 0 = 2 * M - 1) := fun z => hin (in2.mpr z)
            refine ⟨_, rfl, _, rfl, a, _, _, _, rfl, rfl, SqL.of (s4.at hA), atI_gd (i := i.toNat) (by omega) (by omega), _, rfl, _, rfl, a, _, _, _, rfl, rfl, SqL.of (s4.at hA), atI_gd (i := j.toNat) (by omega) (by omega), _, _, rfl, rfl, ?_⟩
            refine ⟨_, rfl, _, _, rfl, rfl, .inl ⟨by decide, by decide⟩, _, _, rfl, rfl, q _ _ ?_ s4⟩
            rw [decide_eq_true_iff]
            refine ⟨fun z => ⟨hl, hris, g1, g2, .inl g3, ?_⟩, fun z => ?_⟩
            · rw [← eM]
              omega
            · have := z.sh
              rw [← eM] at this
              omega
theorem ok__law_summed (M : Bn mg) (F__law_rises : FnA P w K mg base "_law_rises" ["_law_row"] 2 spRise) (F : Fun K "_law_summed" "_law_summed" s__law_summed f fd) : FnOk P w K mg base CX0 3 f fd ["_law_numbers_here", "_law_weights_here", "_law_row", "_law_pulls"] spSummedL := by
  refine F.ok sc__law_summed (fun vs H Q E h => ?_) (fun cdv A outer s H vs Q E hr h => ?_)
  · obtain ⟨a, b, r, p, ns, ws, row, pulls, rfl, _⟩ := h; rfl
  obtain ⟨a, b, r, p, ns, ws, row, pulls, rfl, hA, hB, hR, hP, h1, h2, hl, hw, q⟩ := h
  refine ⟨_, (pss_cons (ps_if (PW.pt (pw_or (pt_cmpR op_ne (pe_callB call_len_seq rfl M.len' PySem.boot_len (pa_cons (pv 2) pa_nil)) (pe_callB call_len_seq rfl M.len' PySem.boot_len (pa_cons (pv 0) pa_nil)) (nomark _)) (pw_or (pt_cmpR op_ne (pe_callB call_len_seq rfl M.len' PySem.boot_len (pa_cons (pv 3) pa_nil)) (pe_callB call_len_seq rfl M.len' PySem.boot_len (pa_cons (pv 0) pa_nil)) (nomark _)) (pw_or1 (pt_not (pt_val (pe_callA F__law_rises (hr.mono (by decide)) rfl (pa_cons (pv 2) pa_nil)))))))) (pss_one (ps_ret pe_bl)) pss_nil)
      (pss_cons (ps_asg (pe_tup (pa_cons pe_int (pa_cons pe_int (pa_cons pe_int pa_nil)))) (pg_three (K := K) (i := 4) (j := 5) (l := 6) rfl rfl sc__law_summed.nd rfl rfl rfl rfl rfl rfl))
      (pss_cons (ps_for PassesOwn.never rfl (pi_range1 rfl M.range' (pa_cons (pe_callB call_len_seq rfl M.len' PySem.boot_len (pa_cons (pv 0) pa_nil)) pa_nil)) (pg_name (i := 7) sc__law_summed.nd rfl (Or.inl rfl) (Or.inl rfl)) (pss_cons (ps_if (pt_not (pt_chain op_le op_le (pe_un un_neg (pe_ix ix_list (pv 1) (pv 7) (fun _ _ => rfl))) (pe_ix ix_list (pv 3) (pv 7) (fun _ _ => rfl)) (pe_ix ix_list (pv 1) (pv 7) (fun _ _ => rfl)))) (pss_one (ps_ret pe_bl)) pss_nil)
      (pss_cons (ps_set (i := 4) sc__law_summed.nd rfl (Or.inl rfl) (pe_op op_add (pv 4) (pe_ix ix_list (pv 3) (pv 7) (fun _ _ => rfl))))
      (pss_cons (ps_set (i := 5) sc__law_summed.nd rfl (Or.inl rfl) (pe_op op_add (pv 5) (pe_op op_mul (pe_ix ix_list (pv 3) (pv 7) (fun _ _ => rfl)) (pe_ix ix_list (pv 0) (pv 7) (fun _ _ => rfl)))))
      (pss_cons (ps_set (i := 6) sc__law_summed.nd rfl (Or.inl rfl) (pe_op op_add (pv 6) (pe_op op_mul (pe_ix ix_list (pv 1) (pv 7) (fun _ _ => rfl)) (pe_callB (call_max2 rfl) rfl M.max' PyProof.Rows.boot_max (pa_cons (pe_op op_sub (pe_ix ix_list (pv 0) (pv 7) (fun _ _ => rfl)) (pe_ix ix_list (pv 2) (pv 7) (fun _ _ => rfl))) (pa_cons (pe_op op_sub (pe_ix ix_list (pv 2) (pv 7) (fun _ _ => rfl)) (pe_ix ix_list (pv 0) (pv 7) (fun _ _ => rfl))) pa_nil))))))
      (pss_one (ps_if (pt_cmpR op_lt (pv 4) pe_int (nomark _)) (pss_one (ps_ret pe_bl)) pss_nil)))))))
      (pss_one (ps_ret (pe_and (pe_cmpR op_eq (pv 4) pe_int (nomark _)) (pe_one (pe_cmpR op_eq (pv 5) (pv 6) (nomark _))))))))), ?_⟩
  refine ⟨_, rfl, r, _, rfl, .inl (SqL.of hR), _, rfl, a, _, rfl, .inl (SqL.of hA), rfl, _, rfl, ?_⟩
  rcases (Decidable.em (row.length = ns.length)).symm with g1 | g1
  · exact iteNT (fun z => g1 (len_iff.mp z)) (iteT (q _ _ (ff_iff fun z => g1 z.1) (Same.refl _)))
  refine iteNF (len_iff.mpr g1) ?_
  refine ⟨_, rfl, p, _, rfl, .inl (SqL.of hP), _, rfl, a, _, rfl, .inl (SqL.of hA), rfl, _, rfl, ?_⟩
  rcases (Decidable.em (pulls.length = ns.length)).symm with g2 | g2
  · exact iteNT (fun z => g2 (len_iff.mp z)) (iteT (q _ _ (ff_iff fun z => g2 z.2.1) (Same.refl _)))
  refine iteNF (len_iff.mpr g2) ?_
  refine ⟨_, rfl, r, row, rfl, hR, h2, fun b1 H1 hb1 s1 => ⟨b1, rfl, ?_⟩⟩
  cases b1 with
  | false => exact iteT (q _ _ (ff_iff fun z => by have := hb1.mpr (z.2.2.ris_row z.1); cases this) s1)
  | true =>
    have hris := hb1.mp rfl
    refine iteF ?_
    refine ⟨(by show 3 ≤ sizeLine; decide), fun t0 ht0 => ?_⟩
    have s2 := same_new ht0 (.tup [.int 0, .int 0, .int 0])
    have s12 := s1.trans s2
    refine ⟨t0, _, rfl, SqT.of upd_same, rfl, _, _, rfl, _, _, rfl, _, _, rfl, rfl, ?_⟩
    generalize hH2 : upd H1 t0 (.tup [.int 0, .int 0, .int 0]) = H2 at s2 s12 ⊢
    refine ⟨_, rfl, a, _, rfl, .inl (SqL.of (s12.at hA)), _, rfl, by omega, by rw [List.length_map]; omega, ?_⟩
    rw [List.length_map, Int.toNat_natCast]
    refine for_range (n := ns.length) (fun i σ H' => H' = H2 ∧ ∃ v7, σ = [some (.ref a), some (.ref b), some (.ref r), some (.ref p), some (.int (sm i fun j => pulls.getD j 0)), some (.int (sm i fun j => pulls.getD j 0 * ns.getD j 0)), some (.int (sm i fun j => ws.getD j 0 * ab (ns.getD j 0) (row.getD j 0))), v7] ∧
        (∀ j, j < i → -(ws.getD j 0) ≤ pulls.getD j 0 ∧ pulls.getD j 0 ≤ ws.getD j 0) ∧ (∀ k, k ≤ i → 0 ≤ sm k fun j => pulls.getD j 0))
      ⟨rfl, _, rfl, fun j hj => absurd hj (Nat.not_lt_zero _), fun k hk => by rw [Nat.le_zero.mp hk]; exact Int.le_refl _⟩ ?_ ?_
    · rintro i σ H' hi ⟨rfl, v7, rfl, hbd, hnn⟩
      have wb := hw.at (i := i) (by omega)
      have eI : (0 : Int) + (i : Int) = ((i : Nat) : Int) := by omega
      have aA : atI (ns.map V.int) (0 + (i : Int)) = some (.int (ns.getD i 0)) := atI_gd eI hi
      have aB : atI (ws.map V.int) (0 + (i : Int)) = some (.int (ws.getD i 0)) := atI_gd eI (by omega)
      have aR : atI (row.map V.int) (0 + (i : Int)) = some (.int (row.getD i 0)) := atI_gd eI (by omega)
      have aP : atI (pulls.map V.int) (0 + (i : Int)) = some (.int (pulls.getD i 0)) := atI_gd eI (by omega)
      have kA := SqL.of (K := K) (s12.at hA)
      have kB := SqL.of (K := K) (s12.at hB)
      have kR := SqL.of (K := K) (s12.at hR)
      have kP := SqL.of (K := K) (s12.at hP)
      refine ⟨_, rfl, _, rfl, b, _, _, _, rfl, rfl, kB, aB, _, rfl, _, rfl, _, rfl, p, _, _, _, rfl, rfl, kP, aP, _, _, rfl, rfl, _, rfl, iteD (fun g3 => ?_) (fun g3 => ⟨_, rfl, iteT (q _ _ (ff_iff fun z => g3 (z.2.2.bd i hi).1) s12)⟩)⟩
      refine ⟨_, rfl, _, rfl, b, _, _, _, rfl, rfl, kB, aB, _, _, rfl, rfl, _, rfl, ?_⟩
      rcases (Decidable.em (pulls.getD i 0 ≤ ws.getD i 0)).symm with g4 | g4
      · exact iteNT g4 (q _ _ (ff_iff fun z => g4 (z.2.2.bd i hi).2) s12)
      refine iteNF g4 ?_
      refine ⟨_, rfl, _, rfl, _, rfl, p, _, _, _, rfl, rfl, kP, aP, _, _, rfl, rfl, ?_⟩
      refine ⟨_, rfl, _, rfl, _, rfl, p, _, _, _, rfl, rfl, kP, aP, _, rfl, _, rfl, a, _, _, _, rfl, rfl, kA, aA, _, _, rfl, rfl, .inl ⟨by omega, by omega⟩, _, _, rfl, rfl, ?_⟩
      refine ⟨_, rfl, _, rfl, _, rfl, b, _, _, _, rfl, rfl, kB, aB, _, rfl, _, rfl, a, _, _, _, rfl, rfl, kA, aA, _, rfl, _, rfl, r, _, _, _, rfl, rfl, kR, aR, _, _, rfl, rfl, _, rfl, _, rfl, r, _, _, _, rfl, rfl, kR, aR, _, rfl, _, rfl, a, _, _, _, rfl, rfl, kA, aA, _, _, rfl, rfl, _, _, rfl, _, _, rfl, rfl, .inl ⟨by omega, by omega⟩, _, _, rfl, rfl, ?_⟩
      have eC : (sm i fun j => ws.getD j 0 * ab (ns.getD j 0) (row.getD j 0)) + ws.getD i 0 * (if row.getD i 0 - ns.getD i 0 > ns.getD i 0 - row.getD i 0 then row.getD i 0 - ns.getD i 0 else ns.getD i 0 - row.getD i 0) = sm (i + 1) fun j => ws.getD j 0 * ab (ns.getD j 0) (row.getD j 0) := by
        rw [dif_max]
        rfl
      refine ⟨_, rfl, _, _, rfl, rfl, _, rfl, iteD (fun g5 => q _ _ (ff_iff fun z => ?_) s12) (fun g5 => ⟨rfl, _, congrArg (fun z => [some (V.ref a), some (V.ref b), some (V.ref r), some (V.ref p), some (V.int (sm (i + 1) fun j => pulls.getD j 0)), some (V.int (sm (i + 1) fun j => pulls.getD j 0 * ns.getD j 0)), some (V.int z), some (V.int (0 + (i : Int)))]) eC, fun j hj => ?_, fun k hk => ?_⟩)⟩
      · have := z.2.2.nn (i + 1) hi
        have e : (sm i fun j => pulls.getD j 0) + pulls.getD i 0 = sm (i + 1) fun j => pulls.getD j 0 := rfl
        have g5' : (sm i fun j => pulls.getD j 0) + pulls.getD i 0 < 0 := g5
        omega
      · by_cases hji : j = i
        · subst hji; exact ⟨g3, g4⟩
        · exact hbd j (by omega)
      · by_cases hki : k = i + 1
        · subst hki
          have e : (sm i fun j => pulls.getD j 0) + pulls.getD i 0 = sm (i + 1) fun j => pulls.getD j 0 := rfl
          have g5' : ¬ ((sm i fun j => pulls.getD j 0) + pulls.getD i 0 < 0) := g5
          omega
        · exact hnn k (by omega)
    · rintro σ H' ⟨rfl, v7, rfl, hbd, hnn⟩
      refine ⟨_, rfl, rfl, _, rfl, iteD (fun g6 => ⟨_, rfl, _, rfl, rfl, q _ _ ?_ s12⟩) (fun g6 => q _ _ (ff_iff fun z => g6 (int_iff.mpr z.2.2.all)) s12)⟩
      rw [decide_eq_true_iff, int_iff]
      exact ⟨fun z => ⟨g1, g2, ⟨fun i hi => hris i (by omega), hbd, hnn, int_iff.mp g6, z⟩⟩, fun z => z.2.2.cost⟩
theorem ok__law_squared (M : Bn mg) (F__law_sum : FnA P w K mg base "_law_sum" ["_law_one", "_law_other"] 3 spSum) (F : Fun K "_law_squared" "_law_squared" s__law_squared f fd) : FnOk P w K mg base CX0 4 f fd ["_law_numbers_here", "_law_weights_here", "_law_row"] spSquaredL := by
  refine F.ok sc__law_squared (fun vs H Q E h => ?_) (fun cdv A outer s H vs Q E hr h => ?_)
  · obtain ⟨a, b, r, ns, ws, rs, fs, rfl, _⟩ := h; rfl
  obtain ⟨a, b, r, ns, ws, rs, fs, rfl, hA, hB, hR, hF, h1k, hl, hok, hw, q⟩ := h
  refine ⟨_, (pss_cons (ps_if (pt_cmpR op_ne (pe_callB call_len_seq rfl M.len' PySem.boot_len (pa_cons (pv 2) pa_nil)) (pe_callB call_len_seq rfl M.len' PySem.boot_len (pa_cons (pv 0) pa_nil)) (nomark _)) (pss_one (ps_ret pe_bl)) pss_nil)
      (pss_cons (ps_set (i := 3) sc__law_squared.nd rfl (Or.inl rfl) (pe_tup (pa_cons pe_int (pa_cons pe_int pa_nil))))
      (pss_cons (ps_for PassesOwn.never rfl (pi_range1 rfl M.range' (pa_cons (pe_callB call_len_seq rfl M.len' PySem.boot_len (pa_cons (pv 0) pa_nil)) pa_nil)) (pg_name (i := 4) sc__law_squared.nd rfl (Or.inl rfl) (Or.inl rfl)) (pss_cons (ps_asg (pe_ix ix_list (pv 2) (pv 4) (fun _ _ => rfl)) (pg_two (K := K) (i := 5) (j := 6) rfl rfl sc__law_squared.nd rfl rfl rfl rfl))
      (pss_cons (ps_if (PW.pt (pw_and (pt_cmpR op_gt (pv 4) pe_int (nomark _)) (pw_and1 (pt_cmpR op_lt (pe_op op_mul (pv 5) (pe_ix ix_tup (pe_ix ix_list (pv 2) (pe_op op_sub (pv 4) pe_int) (fun _ _ => rfl)) pe_int (fun _ _ => rfl))) (pe_op op_mul (pe_ix ix_tup (pe_ix ix_list (pv 2) (pe_op op_sub (pv 4) pe_int) (fun _ _ => rfl)) pe_int (fun _ _ => rfl)) (pv 6)) (nomark _))))) (pss_one (ps_ret pe_bl)) pss_nil)
      (pss_cons (ps_if (PW.pt (pw_and (pt_cmpR op_gt (pv 4) pe_int (nomark _)) (pw_and (pt_cmpR op_gt (pe_op op_mul (pv 5) (pe_ix ix_tup (pe_ix ix_list (pv 2) (pe_op op_sub (pv 4) pe_int) (fun _ _ => rfl)) pe_int (fun _ _ => rfl))) (pe_op op_mul (pe_ix ix_tup (pe_ix ix_list (pv 2) (pe_op op_sub (pv 4) pe_int) (fun _ _ => rfl)) pe_int (fun _ _ => rfl)) (pv 6)) (nomark _)) (pw_and1 (pt_cmpR op_ne (pe_ix ix_tup (pv 3) pe_int (fun _ _ => rfl)) pe_int (nomark _)))))) (pss_one (ps_ret pe_bl)) pss_nil)
      (pss_cons (ps_set (i := 3) sc__law_squared.nd rfl (Or.inl rfl) (pe_callA F__law_sum (hr.mono (by decide)) rfl (pa_cons (pv 3) (pa_cons (pe_tup (pa_cons (pe_op op_mul (pe_ix ix_list (pv 1) (pv 4) (fun _ _ => rfl)) (pe_op op_sub (pe_op op_mul (pe_ix ix_list (pv 0) (pv 4) (fun _ _ => rfl)) (pv 6)) (pv 5))) (pa_cons (pv 6) pa_nil))) pa_nil))))
      (pss_one (ps_if (pt_cmpR op_lt (pe_ix ix_tup (pv 3) pe_int (fun _ _ => rfl)) pe_int (nomark _)) (pss_one (ps_ret pe_bl)) pss_nil)))))))
      (pss_one (ps_ret (pe_cmpR op_eq (pe_ix ix_tup (pv 3) pe_int (fun _ _ => rfl)) pe_int (nomark _))))))), ?_⟩
  refine ⟨_, rfl, r, _, rfl, .inl (SqL.of hR), _, rfl, a, _, rfl, .inl (SqL.of hA), rfl, _, rfl, ?_⟩
  rcases (Decidable.em (fs.length = ns.length)).symm with g1 | g1
  · exact iteNT (fun z => g1 (by rw [← hF.1]; exact len_iffF.mp z)) (q _ _ (ff_iff fun z => g1 z.len) (Same.refl _))
  refine iteNF (len_iffF.mpr (by rw [hF.1]; exact g1)) ?_
  refine ⟨(by show 2 ≤ sizeLine; decide), fun p0 hp0 => ?_⟩
  have s0 : Same H (upd H p0 (.tup [.int 0, .int 1])) := same_new hp0 _
  refine ⟨_, rfl, a, _, rfl, .inl (SqL.of (s0.at hA)), _, rfl, by omega, by rw [List.length_map]; omega, ?_⟩
  rw [List.length_map, Int.toNat_natCast]
  refine for_range (n := ns.length) (fun i σ H' => Same H H' ∧ ∃ (pt : Addr) (v4 v5 v6 : Option V), σ = [some (.ref a), some (.ref b), some (.ref r), some (.ref pt), v4, v5, v6] ∧ H' pt = some (.tup [.int (TT ns ws fs i).1, .int (TT ns ws fs i).2]) ∧ SqS ns ws fs i)
    ⟨s0, p0, _, _, _, rfl, upd_same, SqS.zero ns ws fs⟩ ?_ ?_
  · rintro i σ H' hi ⟨sm, pt, v4, v5, v6, rfl, hT, hS⟩
    have hFm := hF.same sm
    obtain ⟨u, hu, hU⟩ := fr_get hFm (i := i) (by omega)
    obtain ⟨a1, a2, ag⟩ := hok.at (i := i) (by omega)
    obtain ⟨t1, t2⟩ := TT_pos (ns := ns) (ws := ws) hok (i := i) (by omega)
    obtain ⟨ts1, ts2⟩ := TT_sign (ns := ns) (ws := ws) hok (i := i) (by omega)
    have hwb := hw (ws.getD i 0) (List.mem_of_getElem? (gd_some (by omega)))
    have eI : (0 : Int) + (i : Int) = ((i : Nat) : Int) := by omega
    have eI1 : (0 : Int) + (i : Int) - 1 = (i : Int) - 1 := by omega
    refine ⟨_, rfl, _, rfl, r, _, _, _, rfl, rfl, SqL.of (sm.at hR), (by rw [eI]; exact atI_nat (at_refs hu)), u, _, rfl, SqT.of hU, rfl, _, _, rfl, _, _, rfl, rfl, ?_⟩
    dsimp only [gName]
    refine seq_with (fun σ' H1 => H1 = H' ∧ σ' = [some (.ref a), some (.ref b), some (.ref r), some (.ref pt), some (.int (0 + (i : Int))), some (.int (fs.getD i fz).1), some (.int (fs.getD i fz).2)] ∧ (0 < i → (fs.getD (i - 1) fz).1 * (fs.getD i fz).2 ≤ (fs.getD i fz).1 * (fs.getD (i - 1) fz).2)) ?_ (fun cont => ?_)
    · rintro σ' H1 ⟨rfl, rfl, hris⟩
      refine seq_with (fun σ' H2 => H2 = H1 ∧ σ' = [some (.ref a), some (.ref b), some (.ref r), some (.ref pt), some (.int (0 + (i : Int))), some (.int (fs.getD i fz).1), some (.int (fs.getD i fz).2)] ∧ (i = 0 ∨ fs.getD (i - 1) fz = fs.getD i fz ∨ PS ns ws fs i = 0)) ?_ (fun cont => ?_)
      · rintro σ' H2 ⟨rfl, rfl, hch⟩
        refine ⟨_, rfl, _, rfl, _, rfl, b, _, _, _, rfl, rfl, SqL.of (sm.at hB), atI_gd (i := i) eI (by omega), _, rfl, _, rfl, a, _, _, _, rfl, rfl, SqL.of (sm.at hA), atI_gd (i := i) eI hi, _, rfl, _, _, rfl, rfl, .inr ⟨by omega, by omega⟩, _, rfl, _, _, rfl, rfl, _, _, rfl, rfl, .inl ⟨by omega, by omega⟩, _, rfl, (by show 2 ≤ sizeLine; decide), fun tp htp => ?_⟩
        refine ⟨pt, tp, _, _, _, _, rfl, (same_new htp _).at hT, upd_same, t1, t2, by omega, a2, fun nt hnt => ?_⟩
        have e := TT_turn (ns := ns) (ws := ws) hok (i := i) (by omega) hch
        rw [e]
        have sN := (sm.new htp _).new hnt (.tup [.int (TT ns ws fs (i + 1)).1, .int (TT ns ws fs (i + 1)).2])
        obtain ⟨us1, us2⟩ := TT_sign (ns := ns) (ws := ws) hok (i := i + 1) (by omega)
        refine ⟨_, rfl, nt, _, _, _, rfl, rfl, SqT.of upd_same, rfl, _, _, rfl, rfl, _, rfl, iteD (fun g => q _ _ (ff_iff fun z => ?_) sN) (fun g => ⟨sN, nt, _, _, _, rfl, upd_same, hS.step hris hch ?_⟩)⟩
        · have := z.nn (i + 1) (by omega)
          have := us1.mp g
          omega
        · have : ¬ PS ns ws fs (i + 1) < 0 := fun z => g (us1.mpr z)
          omega
      · refine ⟨_, rfl, _, _, rfl, rfl, _, rfl, iteD (fun g => ?_) (fun g => ?_)⟩
        · obtain ⟨v, hv, hV⟩ := fr_get hFm (i := i - 1) (by omega)
          obtain ⟨b1, b2, bg⟩ := hok.at (i := i - 1) (by omega)
          have aV : atI (rs.map V.ref) (0 + (i : Int) - 1) = some (.ref v) := by rw [show (0 + (i : Int) - 1) = ((i - 1 : Nat) : Int) by omega]; exact atI_nat (at_refs hv)
          refine ⟨_, rfl, _, rfl, _, rfl, _, _, rfl, rfl, r, _, _, _, rfl, rfl, SqL.of (sm.at hR), aV, v, _, _, _, rfl, rfl, SqT.of hV, rfl, _, _, rfl, rfl, .inr ⟨by omega, by omega⟩, _, rfl, _, rfl, _, _, rfl, rfl, r, _, _, _, rfl, rfl, SqL.of (sm.at hR), aV, v, _, _, _, rfl, rfl, SqT.of hV, rfl, _, rfl, _, _, rfl, rfl, .inr ⟨by omega, by omega⟩, _, _, rfl, rfl, _, rfl, iteD (fun g2 => ?_) (fun g2 => ?_)⟩
          · refine ⟨_, rfl, pt, _, _, _, rfl, rfl, SqT.of hT, rfl, rfl, _, rfl, ?_⟩
            by_cases h0 : (TT ns ws fs i).1 = 0
            · exact iteNF (by rw [h0]) (cont _ _ ⟨rfl, rfl, .inr (.inr (ts2.mp h0))⟩)
            · refine iteNT (fun z => h0 (int_iff.mp z)) (q _ _ (ff_iff fun z => h0 (ts2.mpr ?_)) sm)
              have y := z.ch (i - 1) (by omega)
              rw [show i - 1 + 1 = i by omega] at y
              refine y fun w => ?_
              rw [w] at g2
              exact absurd g2 (Int.lt_irrefl _)
          · refine iteF (cont _ _ ⟨rfl, rfl, .inr (.inl ?_)⟩)
            have hr := hris (by omega)
            refine Classical.byContradiction fun hne => ?_
            have := (frac_ne (p := (fs.getD (i - 1) fz).1) (q := (fs.getD (i - 1) fz).2) (p' := (fs.getD i fz).1) (q' := (fs.getD i fz).2) (by omega) (by omega) bg ag).mp hne
            omega
        · exact iteF (cont _ _ ⟨rfl, rfl, .inl (by omega)⟩)
    · refine ⟨_, rfl, _, _, rfl, rfl, _, rfl, iteD (fun g => ?_) (fun g => ?_)⟩
      · obtain ⟨v, hv, hV⟩ := fr_get hFm (i := i - 1) (by omega)
        obtain ⟨b1, b2, bg⟩ := hok.at (i := i - 1) (by omega)
        have aV : atI (rs.map V.ref) (0 + (i : Int) - 1) = some (.ref v) := by rw [show (0 + (i : Int) - 1) = ((i - 1 : Nat) : Int) by omega]; exact atI_nat (at_refs hv)
        refine ⟨_, rfl, _, rfl, _, rfl, _, _, rfl, rfl, r, _, _, _, rfl, rfl, SqL.of (sm.at hR), aV, v, _, _, _, rfl, rfl, SqT.of hV, rfl, _, _, rfl, rfl, .inr ⟨by omega, by omega⟩, _, rfl, _, rfl, _, _, rfl, rfl, r, _, _, _, rfl, rfl, SqL.of (sm.at hR), aV, v, _, _, _, rfl, rfl, SqT.of hV, rfl, _, rfl, _, _, rfl, rfl, .inr ⟨by omega, by omega⟩, _, _, rfl, rfl, _, rfl, iteD (fun g2 => q _ _ (ff_iff fun z => ?_) sm) (fun g2 => cont _ _ ⟨rfl, rfl, fun _ => by omega⟩)⟩
        have y := z.ris (i - 1) (by omega)
        rw [show i - 1 + 1 = i by omega] at y
        omega
      · exact iteF (cont _ _ ⟨rfl, rfl, fun z => by omega⟩)
  · rintro σ H' ⟨sm, pt, v4, v5, v6, rfl, hT, hS⟩
    obtain ⟨ts1, ts2⟩ := TT_sign (ns := ns) (ws := ws) hok (i := ns.length) (by omega)
    refine ⟨_, rfl, pt, _, _, _, rfl, rfl, SqT.of hT, rfl, rfl, q _ _ ?_ sm⟩
    rw [decide_eq_true_iff, int_iff, ts2]
    exact ⟨fun z => ⟨g1, hS.ris, hS.nn, z, hS.ch⟩, fun z => z.tot⟩
theorem ok__law_says (M : Bn mg) (F : Fun K "_law_says" "_law_says" s__law_says f fd) : FnOk P w K mg base CX0 1 f fd ["_law_said", "_law_due"] spSays := by
  refine F.ok sc__law_says (fun vs H Q E h => ?_) (fun cdv A outer s H vs Q E hr h => ?_)
  · obtain ⟨a, rfl, _⟩ := h; rfl
  obtain ⟨a, rfl, q⟩ := h
  refine ⟨_, (pss_one (ps_ret (pe_and (pe_callB call_isi rfl M.isinstance' boot_isi (pa_cons (pv 0) (pa_cons (pe_bltn (v := .ty "bool") rfl M.bool' boot_boolT rfl) pa_nil))) (pe_one (pe_cmpR op_eq (pv 0) (pv 1) (nomark _)))))), ?_⟩
  refine ⟨_, rfl, _, "bool", _, true, rfl, .bl a, kit_bb, true, rfl, iteT ?_⟩
  refine ⟨_, rfl, _, rfl, rfl, ?_⟩
  rw [decide_eq_true rfl]
  exact q
theorem ok__law_bent (M : Bn mg) (F : Fun K "_law_bent" "_law_bent" s__law_bent f fd) : FnOk P w K mg base CX0 1 f fd ["_law_row", "_law_script"] (spBent K) := by
  refine F.ok sc__law_bent (fun vs H Q E h => ?_) (fun cdv A outer s H vs Q E hr h => ?_)
  · obtain ⟨r, a, row, ns, rfl, _⟩ := h; rfl
  obtain ⟨r, a, row, ns, rfl, hR, hA, hl, h63, q⟩ := h
  refine ⟨_, (pss_cons (ps_set (i := 2) sc__law_bent.nd rfl (Or.inl rfl) (pe_callTy call_list_of rfl M.list' boot_listT (pa_cons (pv 0) pa_nil)))
      (pss_cons (ps_for PassesOwn.never rfl (pi_list (pv 1)) (pg_name (i := 3) sc__law_bent.nd rfl (Or.inl rfl) (Or.inl rfl)) (pss_cons (ps_set (i := 4) sc__law_bent.nd rfl (Or.inl rfl) (pe_op op_mod (pe_op op_fdivB (pv 3) pe_int) (pe_callB (call_max2 rfl) rfl M.max' PyProof.Rows.boot_max (pa_cons pe_int (pa_cons (pe_callB call_len_seq rfl M.len' PySem.boot_len (pa_cons (pv 2) pa_nil)) pa_nil)))))
      (pss_cons (ps_if (PW.pt (pw_and (pt_cmpR op_eq (pe_op op_mod (pv 3) pe_int) pe_int (nomark _)) (pw_and1 (pt_cmpR (op_neE hr.units) (pv 2) (pe_lst pa_nil) (nomark _))))) (pss_one (ps_asg (pe_op op_sub (pe_op op_add (pe_ix ix_list (pv 2) (pv 4) (fun _ _ => rfl)) (pe_op op_mod (pe_op op_fdivB (pv 3) pe_int) pe_int)) pe_int) (pg_sub (pv 2) (pv 4) set_list))) pss_nil)
      (pss_cons (ps_if (PW.pt (pw_and (pt_cmpR op_eq (pe_op op_mod (pv 3) pe_int) pe_int (nomark _)) (pw_and1 (pt_cmpR (op_neE hr.units) (pv 2) (pe_lst pa_nil) (nomark _))))) (pss_one (ps_asg (pe_tup (pa_cons (pe_ix ix_list (pv 2) pe_int (fun _ _ => rfl)) (pa_cons (pe_ix ix_list (pv 2) (pv 4) (fun _ _ => rfl)) pa_nil))) (pg_tup rfl (pgs_cons (pg_sub (pv 2) (pv 4) set_list) (pgs_cons (pg_sub (pv 2) pe_int set_list) pgs_nil))))) pss_nil)
      (pss_cons (ps_if (pt_cmpR op_eq (pe_op op_mod (pv 3) pe_int) pe_int (nomark _)) (pss_one (ps_set (i := 2) sc__law_bent.nd rfl (Or.inl rfl) (pe_op op_cat (pe_slice sl_list (pv 2) po_none (po_some (pv 4))) (pe_slice sl_list (pv 2) (po_some (pe_op op_add (pv 4) pe_int)) po_none)))) pss_nil)
      (pss_one (ps_if (pt_cmpR op_eq (pe_op op_mod (pv 3) pe_int) pe_int (nomark _)) (pss_one (ps_set (i := 2) sc__law_bent.nd rfl (Or.inl rfl) (pe_op op_cat (pe_op op_cat (pe_slice sl_list (pv 2) po_none (po_some (pv 4))) (pe_lst (pa_cons (pe_op op_sub (pe_op op_mod (pe_op op_fdivB (pv 3) pe_int) pe_int) pe_int) pa_nil))) (pe_slice sl_list (pv 2) (po_some (pv 4)) po_none)))) pss_nil)))))))
      (pss_one (ps_ret (pv 2))))), ?_⟩
  refine ⟨_, rfl, r, _, rfl, .inl (SqL.of hR), fun f0 hf0 => ?_⟩
  have s0 : Same H (upd H f0 (.lst (row.map V.int))) := same_new hf0 _
  refine ⟨_, rfl, a, rfl, ⟨_, s0.seq hA⟩, ?_⟩
  refine for_list (xs := ns.map V.int) (fun i σ H' => Same H H' ∧ ∃ (f : Addr) (out : List Int) (v3 v4 : Option V), σ = [some (.ref r), some (.ref a), some (.ref f), v3, v4] ∧ H f = none ∧ H' f = some (.lst (out.map V.int)) ∧ out.length ≤ row.length + i)
    ⟨s0, f0, row, _, _, rfl, hf0, upd_same, Nat.le_refl _⟩ (fun i σ H' _ h => h.1.seq hA) ?_ ?_
  · rintro i x σ H' hx ⟨sm, f, out, v3, v4, rfl, hf, hF, hol⟩
    obtain ⟨c', hc', rfl⟩ := ints_at hx
    have hi : i < ns.length := (List.getElem?_eq_some_iff.mp hc').1
    have hm : 0 < (if (((out.map V.int).length : Nat) : Int) > 1 then (((out.map V.int).length : Nat) : Int) else 1) := by split <;> omega
    refine ⟨_, rfl, _, _, rfl, rfl, ⟨by decide, by decide⟩, _, rfl, f, _, rfl, .inl (SqL.of hF), _, _, rfl, _, _, rfl, rfl, hm, ?_⟩
    obtain ⟨k, hk, hk2⟩ : ∃ k : Nat, c' / 13 % (if (((out.map V.int).length : Nat) : Int) > 1 then (((out.map V.int).length : Nat) : Int) else 1) = (k : Int) ∧ (out ≠ [] → k < out.length) := by
      have h1 := Int.emod_nonneg (c' / 13) (show (if (((out.map V.int).length : Nat) : Int) > 1 then (((out.map V.int).length : Nat) : Int) else 1) ≠ 0 by omega)
      have h2 := Int.emod_lt_of_pos (c' / 13) hm
      refine ⟨_, (Int.toNat_of_nonneg h1).symm, fun hne => ?_⟩
      have : 0 < out.length := List.length_pos_iff.mpr hne
      rw [List.length_map] at h1 h2 ⊢
      split at h2 <;> split <;> omega
    dsimp only [gName]
    rw [hk]
    refine seq_with (fun σ' H1 => Same H H1 ∧ ∃ (out : List Int), σ' = [some (.ref r), some (.ref a), some (.ref f), some (.int c'), some (.int k)] ∧ H1 f = some (.lst (out.map V.int)) ∧ out.length ≤ row.length + i ∧ (out ≠ [] → k < out.length)) ?_ (fun cont => ?_)
    · rintro σ' H1 ⟨sm, out, rfl, hF, hol, hk2⟩
      refine seq_with (fun σ' H1 => Same H H1 ∧ ∃ (out : List Int), σ' = [some (.ref r), some (.ref a), some (.ref f), some (.int c'), some (.int k)] ∧ H1 f = some (.lst (out.map V.int)) ∧ out.length ≤ row.length + i) ?_ (fun cont => ?_)
      · rintro σ' H1 ⟨sm, out, rfl, hF, hol⟩
        refine seq_with (fun σ' H1 => Same H H1 ∧ ∃ (f : Addr) (out : List Int), σ' = [some (.ref r), some (.ref a), some (.ref f), some (.int c'), some (.int k)] ∧ H f = none ∧ H1 f = some (.lst (out.map V.int)) ∧ out.length ≤ row.length + i) ?_ (fun cont => ?_)
        · rintro σ' H1 ⟨sm, f, out, rfl, hf, hF, hol⟩
          refine ⟨_, rfl, _, _, rfl, rfl, (by show (0 : Int) < 13; decide), rfl, _, rfl, iteD (fun g => ?_) (fun g => ⟨sm, f, out, _, _, rfl, hf, hF, by omega⟩)⟩
          refine ⟨_, rfl, _, rfl, _, rfl, f, _, rfl, SqL.of hF, fun p1 hp1 => ?_⟩
          have t1 := same_new hp1 (.lst (cutV (out.map V.int) none (some (k : Int))))
          refine ⟨_, rfl, _, _, rfl, rfl, ⟨by decide, by decide⟩, _, _, rfl, rfl, (by show (0 : Int) < 5; decide), _, _, rfl, rfl, (by show 1 ≤ sizeLine; decide), fun p2 hp2 => ?_⟩
          have t2 := same_new hp2 (.lst [.int (c' / 169 % 5 - 2)])
          have z1 := cut_sum out k
          have z0 := le1000 (n := 1000) (Nat.le_refl _)
          refine ⟨p1, p2, _, _, rfl, rfl, t2.at upd_same, upd_same, (by rw [cutV_map, List.length_map]; show _ + 1 ≤ _; omega), fun p3 hp3 => ?_⟩
          have t3 := same_new hp3 (.lst (cutV (out.map V.int) none (some (k : Int)) ++ [.int (c' / 169 % 5 - 2)]))
          have t123 := t1.trans (t2.trans t3)
          refine ⟨_, rfl, _, rfl, _, rfl, f, _, rfl, SqL.of (t123.at hF), fun p4 hp4 => ?_⟩
          have t4 := same_new hp4 (.lst (cutV (out.map V.int) (some (k : Int)) none))
          refine ⟨p3, p4, _, _, rfl, rfl, t4.at upd_same, upd_same, (by rw [cutV_map, cutV_map, List.length_append, List.length_map, List.length_map]; show _ + 1 + _ ≤ _; omega), fun p5 hp5 => ?_⟩
          have t5 := same_new hp5 (.lst (cutV (out.map V.int) none (some (k : Int)) ++ [.int (c' / 169 % 5 - 2)] ++ cutV (out.map V.int) (some (k : Int)) none))
          refine ⟨sm.trans (t123.trans (t4.trans t5)), p5, cutI out none (some (k : Int)) ++ [c' / 169 % 5 - 2] ++ cutI out (some (k : Int)) none, _, _, rfl, (sm.trans (t123.trans t4)).free hp5, ?_, ?_⟩
          · rw [upd_same, cutV_map, cutV_map, List.map_append, List.map_append]; rfl
          · rw [List.length_append, List.length_append]; show _ + 1 + _ ≤ _; omega
        · refine ⟨_, rfl, _, _, rfl, rfl, (by show (0 : Int) < 13; decide), rfl, _, rfl, iteD (fun g => ?_) (fun g => cont _ _ ⟨sm, f, out, rfl, hf, hF, hol⟩)⟩
          refine ⟨_, rfl, _, rfl, _, rfl, f, _, rfl, SqL.of hF, fun p1 hp1 => ?_⟩
          have t1 := same_new hp1 (.lst (cutV (out.map V.int) none (some (k : Int))))
          refine ⟨_, rfl, _, rfl, _, _, rfl, rfl, _, rfl, f, _, rfl, SqL.of (t1.at hF), fun p2 hp2 => ?_⟩
          have t2 := same_new hp2 (.lst (cutV (out.map V.int) (some ((k : Int) + 1)) none))
          have z1 := cut_lenT out k
          have z2 := cut_lenD out (k + 1)
          rw [show (((k + 1 : Nat)) : Int) = (k : Int) + 1 by omega] at z2
          have z0 := le1000 (n := 1000) (Nat.le_refl _)
          refine ⟨p1, p2, _, _, rfl, rfl, t2.at upd_same, upd_same, (by rw [cutV_map, cutV_map, List.length_map, List.length_map]; omega), fun p3 hp3 => ?_⟩
          have t3 := same_new hp3 (.lst (cutV (out.map V.int) none (some (k : Int)) ++ cutV (out.map V.int) (some ((k : Int) + 1)) none))
          refine cont _ _ ⟨sm.trans (t1.trans (t2.trans t3)), p3, cutI out none (some (k : Int)) ++ cutI out (some ((k : Int) + 1)) none, rfl, (sm.trans (t1.trans t2)).free hp3, ?_, ?_⟩
          · rw [upd_same, cutV_map, cutV_map, List.map_append]
          · rw [List.length_append]; omega
      · refine ⟨_, rfl, _, _, rfl, rfl, (by show (0 : Int) < 13; decide), rfl, _, rfl, iteD (fun g => ?_) (fun g => iteF (cont _ _ ⟨sm, out, rfl, hF, hol⟩))⟩
        refine ⟨_, rfl, Nat.zero_le _, fun e he => ⟨f, e, _, rfl, rfl, SqL.of ((same_new he _).at hF), SqL.of upd_same, _, rfl, ?_⟩⟩
        have se : Same H1 (upd H1 e (.lst [])) := same_new he _
        by_cases hz : out = []
        · have hz' : (out.map V.int).isEmpty = true := by rw [hz]; rfl
          rw [hz']
          exact iteF (cont _ _ ⟨sm.trans se, out, rfl, se.at hF, hol⟩)
        · have hz' : (out.map V.int).isEmpty = false := by rw [List.isEmpty_map]; exact List.isEmpty_eq_false_iff.mpr hz
          rw [hz']
          have hkl := hk2 hz
          have h0 : 0 < out.length := by omega
          refine iteT ?_
          refine ⟨_, rfl, f, _, _, _, rfl, rfl, SqL.of (se.at hF), atI_0 (at_gd h0), _, rfl, _, rfl, f, _, _, _, rfl, rfl, SqL.of (se.at hF), atI_nat (at_gd hkl), (by show 2 ≤ sizeLine; decide), fun tp htp => ?_⟩
          have st := same_new htp (.tup [.int (out.getD 0 0), .int (out.getD k 0)])
          refine ⟨tp, _, rfl, SqT.of upd_same, rfl, _, _, rfl, _, rfl, _, rfl, f, _, _, k, rfl, rfl, (se.trans st).at hF, ixN_nat (by rw [List.length_map]; exact hkl), ?_⟩
          refine ⟨_, _, rfl, _, rfl, f, _, _, 0, rfl, rfl, upd_same, ixN_nat (j := 0) (by rw [List.length_set, List.length_map]; exact h0), rfl, ?_⟩
          refine cont _ _ ⟨((sm.trans (se.trans st)).upd hf _).upd hf _, (out.set k (out.getD 0 0)).set 0 (out.getD k 0), rfl, ?_, ?_⟩
          · rw [upd_same, List.map_set, List.map_set]
          · rw [List.length_set, List.length_set]; exact hol
    · refine ⟨_, rfl, _, _, rfl, rfl, (by show (0 : Int) < 13; decide), rfl, _, rfl, iteD (fun g => ?_) (fun g => iteF (cont _ _ ⟨sm, out, rfl, hF, hol, hk2⟩))⟩
      refine ⟨_, rfl, Nat.zero_le _, fun e he => ⟨f, e, _, rfl, rfl, SqL.of ((same_new he _).at hF), SqL.of upd_same, _, rfl, ?_⟩⟩
      have se : Same H' (upd H' e (.lst [])) := same_new he _
      by_cases hz : out = []
      · have hz' : (out.map V.int).isEmpty = true := by rw [hz]; rfl
        rw [hz']
        exact iteF (cont _ _ ⟨sm.trans se, out, rfl, se.at hF, hol, hk2⟩)
      · have hz' : (out.map V.int).isEmpty = false := by rw [List.isEmpty_map]; exact List.isEmpty_eq_false_iff.mpr hz
        rw [hz']
        have hkl := hk2 hz
        refine iteT ?_
        refine ⟨_, rfl, _, rfl, f, _, _, _, rfl, rfl, SqL.of (se.at hF), atI_nat (at_gd hkl), _, rfl, _, _, rfl, rfl, ⟨by decide, by decide⟩, _, _, rfl, rfl, (by show (0 : Int) < 3; decide), _, _, rfl, rfl, _, _, rfl, rfl, _, rfl, _, rfl, f, _, _, k, rfl, rfl, se.at hF, ixN_nat (by rw [List.length_map]; exact hkl), ?_⟩
        refine cont _ _ ⟨(sm.trans se).upd hf _, out.set k (out.getD k 0 + c' / 169 % 3 - 1), rfl, ?_, ?_, fun _ => ?_⟩
        · rw [upd_same, List.map_set]
        · rw [List.length_set]; exact hol
        · rw [List.length_set]; exact hkl
  · rintro σ H' ⟨sm, f, out, v3, v4, rfl, hf, hF, hol⟩
    refine ⟨_, rfl, q f out H' sm hf hF ?_⟩
    rw [List.length_map] at hol
    exact hol
end
end K1
set_option Elab.async false
set_option linter.all false
set_option maxRecDepth 100000
set_option maxHeartbeats 8000000
namespace K1
open PySem L2 Fr1 Up
section
seal L2.PE L2.PA L2.PT L2.PW L2.PS L2.PSs L2.PI L2.PG
variable {P : Program} {w : World} {K : PySem.W.Frag} {mg : Str → Option Value} {base : Heap} {f : Addr} {fd : FuncData} {c : CA}
theorem ok__law_evens_right (M : Bn mg) (F_evened : FnA P w K mg base "evened" ["numbers"] 8 (spEvened c)) (F__law_bent : FnA P w K mg base "_law_bent" ["_law_row", "_law_script"] 1 (spBent K)) (F_upper : FnA P w K mg base "upper" ["numbers"] 5 spUp) (F_lower : FnA P w K mg base "lower" ["numbers"] 5 spLo) (F_Evened___init__ : MakeA P w K mg base "Evened" c.Evened ["self", "row", "first", "second"] 1 (spEvInit c)) (F__law_even : FnA P w K mg base "_law_even" ["_law_numbers_here", "_law_row", "_law_first", "_law_second"] 3 spEven) (F__law_says : FnA P w K mg base "_law_says" ["_law_said", "_law_due"] 1 spSays) (F_Evened_shows : MethA P w K mg base c.Evened "shows" ["self", "numbers"] 7 (spEvShows c)) (C_Evened : ClsA K mg "Evened" c.Evened) (N_Evened : NaEvened K c.Evened) (F : Fun K "_law_evens_right" "_law_evens_right" s__law_evens_right f fd) : FnOk P w K mg base CX0 12 f fd ["_law_numbers_here", "_law_script"] (spTwoR K) := by
  refine F.ok sc__law_evens_right (fun vs H Q E h => ?_) (fun cdv A outer s H vs Q E hr h => ?_)
  · obtain ⟨a, b, ms, ns, rfl, _⟩ := h; rfl
  obtain ⟨a, b, ms, ns, rfl, hA, hB, h63, hl, q⟩ := h
  refine ⟨_, (pss_cons (ps_set (i := 2) sc__law_evens_right.nd rfl (Or.inl rfl) (pe_callA F_evened (hr.mono (by decide)) rfl (pa_cons (pv 0) pa_nil)))
      (pss_cons (ps_set (i := 3) sc__law_evens_right.nd rfl (Or.inl rfl) (pe_lst (pa_cons (pe_fld (pv 2) rfl) (pa_cons (pe_callA F__law_bent (hr.mono (by decide)) rfl (pa_cons (pe_fld (pv 2) rfl) (pa_cons (pv 1) pa_nil))) (pa_cons (pe_callA F_upper (hr.mono (by decide)) rfl (pa_cons (pv 0) pa_nil)) (pa_cons (pe_callA F_lower (hr.mono (by decide)) rfl (pa_cons (pv 0) pa_nil)) (pa_cons (pe_comp rfl (CompScope.none ["_law_number"]) (pi_list (pe_fld (pv 2) rfl)) (fun _ _ _ _ _ => (pg_name (i := 0) (show (["_law_number"] : List Str).Nodup by decide +kernel) rfl (Or.inl rfl) (Or.inr rfl))) (fun _ _ _ _ _ => (pe_op op_add (pv 0) pe_int))) pa_nil)))))))
      (pss_cons (ps_for PassesOwn.never rfl (pi_list (pv 3)) (pg_name (i := 4) sc__law_evens_right.nd rfl (Or.inl rfl) (Or.inl rfl)) (pss_one (ps_for PassesOwn.never rfl (pi_list (pe_lst (pa_cons (pe_tup (pa_cons (pe_fld (pv 2) rfl) (pa_cons (pe_fld (pv 2) rfl) pa_nil))) (pa_cons (pe_tup (pa_cons pe_int (pa_cons (pe_op op_sub (pe_callB call_len_seq rfl M.len' PySem.boot_len (pa_cons (pv 0) pa_nil)) pe_int) pa_nil))) (pa_cons (pe_tup (pa_cons (pe_fld (pv 2) rfl) (pa_cons (pe_fld (pv 2) rfl) pa_nil))) (pa_cons (pe_tup (pa_cons (pe_un un_neg pe_int) (pa_cons pe_int pa_nil))) pa_nil)))))) (pg_two (K := K) (i := 5) (j := 6) rfl rfl sc__law_evens_right.nd rfl rfl rfl rfl) (pss_cons (ps_set (i := 7) sc__law_evens_right.nd rfl (Or.inl rfl) (pe_callTy call_list_of rfl M.list' boot_listT (pa_cons (pv 4) pa_nil)))
      (pss_cons (ps_set (i := 8) sc__law_evens_right.nd rfl (Or.inl rfl) (pe_makeA F_Evened___init__ (hr.mono (by decide)) rfl (pa_cons (pv 7) (pa_cons (pv 5) (pa_cons (pv 6) pa_nil)))))
      (pss_cons (ps_expr (pe_bm PySem.F.plainAttrs_list PySem.F.slot_list_append PySem.F.type_list_append mt_append (pv 7) (pa_cons pe_int pa_nil)))
      (pss_cons (ps_set (i := 9) sc__law_evens_right.nd rfl (Or.inl rfl) (pe_callA F__law_even (hr.mono (by decide)) rfl (pa_cons (pv 0) (pa_cons (pv 4) (pa_cons (pv 5) (pa_cons (pv 6) pa_nil))))))
      (pss_one (ps_if (PW.pt (pw_or (pt_cmpR (op_neL hr.units) (pe_fld (pv 8) rfl) (pv 4) (nomark _)) (pw_or1 (pt_not (pt_val (pe_callA F__law_says (hr.mono (by decide)) rfl (pa_cons (pe_methA (pv 8) C_Evened F_Evened_shows (hr.mono (by decide)) (pa_cons (pv 0) pa_nil)) (pa_cons (pv 9) pa_nil)))))))) (pss_one (ps_ret pe_bl)) pss_nil)))))))))
      (pss_one (ps_ret pe_bl))))), ?_⟩
  refine ⟨_, rfl, a, ms, rfl, hA, by omega, fun x r row i j H1 hX s1 hx hr hE => ?_⟩
  obtain ⟨dx, fl, ob, l1, l2, l3, l4⟩ := hX.ob
  have hrl : row.length = ms.length := hE.len
  refine ⟨_, rfl, x, _, dx, fl, _, rfl, ob, C_Evened.cl, N_Evened.r, l1, ?_⟩
  refine ⟨_, rfl, x, _, dx, fl, _, rfl, ob, C_Evened.cl, N_Evened.r, l1, _, rfl, r, b, row, ns, rfl, hX.rl, s1.seq hB, by omega, h63, fun pb outb H2 s2 hpb hPb hlb => ?_⟩
  have s12 := s1.trans s2
  refine ⟨_, rfl, a, ms, rfl, s12.at hA, by omega, fun pu H3 s3 hpu hPu => ?_⟩
  have s13 := s12.trans s3
  refine ⟨_, rfl, a, ms, rfl, s13.at hA, by omega, fun pl H4 s4 hpl hPl => ?_⟩
  have s14 := s13.trans s4
  have hX4 := hX.same (s2.trans (s3.trans s4))
  have ob4 := (s2.trans (s3.trans s4)).at ob
  refine ⟨_, rfl, x, _, dx, fl, _, rfl, ob4, C_Evened.cl, N_Evened.r, l1, r, rfl, ⟨_, SqL.of hX4.rl⟩, ?_⟩
  refine comp_list (xs := row.map V.int) (by rw [List.length_map]; exact le1000 (by omega)) (fun i ys H' => H' = H4 ∧ ys = ((row.take i).map fun x => x + 1).map V.int) ⟨rfl, rfl⟩ (fun i ys H' _ h => by rw [h.1]; exact SqL.of hX4.rl) ?_ ?_
  · rintro i x ys H' hx ⟨rfl, rfl⟩
    obtain ⟨z, hz, rfl⟩ := ints_at hx
    refine ⟨⟨rfl, rfl⟩, _, rfl, _, _, rfl, rfl, rfl, ?_⟩
    rw [map_snoc _ hz, List.map_append]; rfl
  rintro ys H4 ⟨rfl, rfl⟩ D hD
  rw [List.length_map, take_all]
  have sD := same_new hD (.lst ((row.map fun x => x + 1).map V.int))
  refine ⟨(by show 5 ≤ sizeLine; decide), fun lr hlr => ?_⟩
  have sL := same_new hlr (.lst [.ref r, .ref pb, .ref pu, .ref pl, .ref D])
  have t5 := sD.trans sL
  have hDL := sL.at (upd_same (H := H4) (a := D) (o := .lst ((row.map fun x => x + 1).map V.int)))
  generalize hH5 : upd (upd H4 D (.lst ((row.map fun x => x + 1).map V.int))) lr (.lst [.ref r, .ref pb, .ref pu, .ref pl, .ref D]) = H5 at sL t5 hDL ⊢
  have hLr : H5 lr = some (.lst ([r, pb, pu, pl, D].map V.ref)) := by rw [← hH5]; exact upd_same
  have s15 := s14.trans t5
  have hX5 := hX4.same t5
  have ob5 := t5.at ob4
  have hLs : LsAt H5 [r, pb, pu, pl, D] [row, outb, upL ms, loL ms, row.map fun x => x + 1] := .cons hX5.rl (.cons ((s3.trans (s4.trans t5)).at hPb) (.cons ((s4.trans t5).at hPu) (.cons (t5.at hPl) (.cons hDL (.nil _)))))
  have hLl : ∀ xs ∈ [row, outb, upL ms, loL ms, row.map fun x => x + 1], xs.length ≤ 200 := fun xs h => by
    simp only [List.mem_cons, List.not_mem_nil, or_false] at h
    rcases h with rfl | rfl | rfl | rfl | rfl
    · omega
    · omega
    · rw [upL_length]; omega
    · rw [loL_length]; omega
    · rw [List.length_map]; omega
  refine ⟨_, rfl, lr, rfl, ⟨_, SqL.of hLr⟩, ?_⟩
  refine for_list (xs := [r, pb, pu, pl, D].map V.ref) (fun k σ H' => Same H5 H' ∧ ∃ v4 v5 v6 v7 v8 v9, σ = [some (.ref a), some (.ref b), some (.ref x), some (.ref lr), v4, v5, v6, v7, v8, v9]) ⟨Same.refl _, _, _, _, _, _, _, rfl⟩ (fun k σ H' _ h => SqL.of (h.1.at hLr)) ?_ ?_
  · rintro k y σ H' hy ⟨sm, v4, v5, v6, v7, v8, v9, rfl⟩
    obtain ⟨o, ho, rfl⟩ := refs_at hy
    obtain ⟨xs, hxm, hxs⟩ := (hLs.same sm).get ho
    have hxl := hLl xs hxm
    have ob6 := sm.at ob5
    refine ⟨_, rfl, x, _, dx, fl, _, rfl, ob6, C_Evened.cl, N_Evened.f, l2, _, rfl, x, _, dx, fl, _, rfl, ob6, C_Evened.cl, N_Evened.s, l3, (by show 2 ≤ sizeLine; decide), fun t1 ht1 => ?_⟩
    have u1 := same_new ht1 (.tup [.int i, .int j])
    refine ⟨_, rfl, a, _, rfl, .inl (SqL.of ((s15.trans (sm.trans u1)).at hA)), _, _, rfl, rfl, (by show 2 ≤ sizeLine; decide), fun t2 ht2 => ?_⟩
    have u2 := same_new ht2 (.tup [.int 0, .int ((((ms.map V.int).length : Nat) : Int) - 1)])
    have ob7 := (u1.trans u2).at ob6
    refine ⟨_, rfl, x, _, dx, fl, _, rfl, ob7, C_Evened.cl, N_Evened.s, l3, _, rfl, x, _, dx, fl, _, rfl, ob7, C_Evened.cl, N_Evened.f, l2, (by show 2 ≤ sizeLine; decide), fun t3 ht3 => ?_⟩
    have u3 := same_new ht3 (.tup [.int j, .int i])
    refine ⟨_, rfl, (by show 2 ≤ sizeLine; decide), fun t4 ht4 => ⟨(by show 4 ≤ sizeLine; decide), fun lt hlt => ?_⟩⟩
    have u4 := same_new ht4 (.tup [.int (-1), .int 0])
    have u5 := same_new hlt (.lst [.ref t1, .ref t2, .ref t3, .ref t4])
    have g1 := (u2.trans (u3.trans (u4.trans u5))).at (upd_same (H := H') (a := t1) (o := .tup [.int i, .int j]))
    have g2 := (u3.trans (u4.trans u5)).at upd_same
    have g3 := (u4.trans u5).at upd_same
    have g4 := u5.at upd_same
    have g5 := u1.trans (u2.trans (u3.trans (u4.trans u5)))
    generalize hH6 : upd (upd (upd (upd (upd H' t1 (.tup [.int i, .int j])) t2 (.tup [.int 0, .int ((((ms.map V.int).length : Nat) : Int) - 1)])) t3 (.tup [.int j, .int i])) t4 (.tup [.int (-1), .int 0])) lt (.lst [.ref t1, .ref t2, .ref t3, .ref t4]) = H6 at u5 g1 g2 g3 g4 g5 ⊢
    have hLt : H6 lt = some (.lst ([t1, t2, t3, t4].map V.ref)) := by rw [← hH6]; exact upd_same
    have hFr : FrAt H6 [t1, t2, t3, t4] [(i, j), (0, (((ms.map V.int).length : Nat) : Int) - 1), (j, i), (-1, 0)] := .cons g1 (.cons g2 (.cons g3 (.cons g4 (FrAt.nil _))))
    refine ⟨lt, rfl, ⟨_, SqL.of hLt⟩, ?_⟩
    have s16 := s15.trans (sm.trans g5)
    refine for_list (xs := [t1, t2, t3, t4].map V.ref) (fun k σ H' => Same H6 H' ∧ ∃ v5 v6 v7 v8 v9, σ = [some (.ref a), some (.ref b), some (.ref x), some (.ref lr), some (.ref o), v5, v6, v7, v8, v9]) ⟨Same.refl _, _, _, _, _, _, rfl⟩ (fun k σ H' _ h => SqL.of (h.1.at hLt)) ?_ ?_
    · rintro k2 y2 σ H7 hy2 ⟨sm2, v5, v6, v7, v8, v9, rfl⟩
      obtain ⟨u, hu, rfl⟩ := refs_at hy2
      obtain ⟨fp, _, hU⟩ := (hFr.same sm2).get hu
      have s17 := s16.trans sm2
      have hxs7 := (g5.trans sm2).at hxs
      refine ⟨u, _, rfl, SqT.of hU, rfl, _, _, rfl, _, _, rfl, rfl, ?_⟩
      refine ⟨_, rfl, o, _, rfl, .inl (SqL.of hxs7), fun hd hhd => ?_⟩
      have w1 := same_new hhd (.lst (xs.map V.int))
      refine ⟨_, rfl, _, rfl, _, rfl, fun x2 dx2 hx2 hdx2 hne2 => ?_⟩
      have w2 := same_own (C := c.Evened) hx2 hdx2
      refine ⟨x2, hd, dx2, xs, fp.1, fp.2, rfl, upd_same, w2.at upd_same, fun l' H8 hl' hX2 kp => ⟨rfl, ?_⟩⟩
      have w3 := kp.same w2 hx2
      have hHd := w3.at (upd_same (H := H7) (a := hd) (o := .lst (xs.map V.int)))
      have nld : l' ≠ hd := (ne_of_none (w2.at upd_same) hl').symm
      refine ⟨_, rfl, .inl ⟨rfl, _, SqL.of hHd⟩, hd, _, _, rfl, rfl, hHd, (by rw [List.length_map]; exact small1000 (by omega)), ?_⟩
      have hX3 := hX2.upd hHd nld (.lst (xs.map V.int ++ [.int 0]))
      have w4 : Same H7 (upd H8 hd (.lst (xs.map V.int ++ [.int 0]))) := (w1.trans w3).upd hhd _
      generalize upd H8 hd (.lst (xs.map V.int ++ [.int 0])) = H9 at hX3 w4 ⊢
      have s19 := s17.trans w4
      refine ⟨_, rfl, _, rfl, _, rfl, _, rfl, a, o, ms, xs, fp.1, fp.2, rfl, s19.at hA, w4.at hxs7, by omega, by omega, fun b1 HA hb1 sA => ?_⟩
      obtain ⟨dx3, fl3, ob3, k1, k2, k3, k4⟩ := (hX3.same sA).ob
      have hX4' := hX3.same sA
      refine ⟨_, rfl, x2, _, dx3, fl3, _, rfl, ob3, C_Evened.cl, N_Evened.r, k1, _, rfl, 1, true, by decide, EqL.same (SqL.of hX4'.rl) (SqL.of ((w4.trans sA).at hxs7)) flat_ints, _, rfl, iteF ?_⟩
      refine ⟨_, rfl, x2, dx3, fl3, rfl, ob3, k4, _, rfl, x2, a, l', ms, xs, fp.1, fp.2, rfl, hX4', (s19.trans sA).at hA, by omega, by omega, fun b2 HB hb2 sB => ?_⟩
      obtain rfl : b2 = b1 := by rw [Bool.eq_iff_iff, hb1, hb2]
      exact ⟨_, rfl, b2, rfl, true, rfl, iteF ⟨sm2.trans (w4.trans (sA.trans sB)), _, _, _, _, _, rfl⟩⟩
    · rintro σ H7 ⟨sm2, v5, v6, v7, v8, v9, rfl⟩
      exact ⟨sm.trans (g5.trans sm2), _, _, _, _, _, _, rfl⟩
  · rintro σ H' ⟨sm, v4, v5, v6, v7, v8, v9, rfl⟩
    exact q H' (s15.trans sm)
end
end K1
set_option Elab.async false
set_option linter.all false
set_option maxRecDepth 100000
set_option maxHeartbeats 8000000
namespace K1
open PySem L2 Fr1 Up
section
seal L2.PE L2.PA L2.PT L2.PW L2.PS L2.PSs L2.PI L2.PG
variable {P : Program} {w : World} {K : PySem.W.Frag} {mg : Str → Option Value} {base : Heap} {f : Addr} {fd : FuncData} {c : CA}
theorem ok__law_sums_right (M : Bn mg) (F_summed : FnA P w K mg base "summed" ["numbers", "weights"] 9 (spSumP c)) (F__law_bent : FnA P w K mg base "_law_bent" ["_law_row", "_law_script"] 1 (spBent K)) (F_lower : FnA P w K mg base "lower" ["numbers"] 5 spLo) (F_Summed___init__ : MakeA P w K mg base "Summed" c.Summed ["self", "row", "pulls"] 1 (spSuInit c)) (F__law_summed : FnA P w K mg base "_law_summed" ["_law_numbers_here", "_law_weights_here", "_law_row", "_law_pulls"] 3 spSummedL) (F__law_says : FnA P w K mg base "_law_says" ["_law_said", "_law_due"] 1 spSays) (F_Summed_shows : MethA P w K mg base c.Summed "shows" ["self", "numbers", "weights"] 8 (spSuShows c)) (C_Summed : ClsA K mg "Summed" c.Summed) (N_Summed : NaSummed K c.Summed) (F : Fun K "_law_sums_right" "_law_sums_right" s__law_sums_right f fd) : FnOk P w K mg base CX0 12 f fd ["_law_numbers_here", "_law_weights_here", "_law_script"] (spThreeR K) := by
  refine F.ok sc__law_sums_right (fun vs H Q E h => ?_) (fun cdv A outer s H vs Q E hr h => ?_)
  · obtain ⟨a, b, d, ms, ws, ns, rfl, _⟩ := h; rfl
  obtain ⟨a, b, d, ms, ws, ns, rfl, hA, hB, hD, h63, hl, hlw, hw, q⟩ := h
  have hwok : WOk ws := fun w h => ⟨(hw w h).1, by have := (hw w h).2; omega⟩
  refine ⟨_, (pss_cons (ps_set (i := 3) sc__law_sums_right.nd rfl (Or.inl rfl) (pe_callA F_summed (hr.mono (by decide)) rfl (pa_cons (pv 0) (pa_cons (pv 1) pa_nil))))
      (pss_cons (ps_set (i := 4) sc__law_sums_right.nd rfl (Or.inl rfl) (pe_lst (pa_cons (pe_fld (pv 3) rfl) (pa_cons (pe_callA F__law_bent (hr.mono (by decide)) rfl (pa_cons (pe_fld (pv 3) rfl) (pa_cons (pv 2) pa_nil))) (pa_cons (pe_comp rfl (CompScope.none ["_law_cell"]) (pi_list (pv 2)) (fun _ _ _ _ _ => (pg_name (i := 0) (show (["_law_cell"] : List Str).Nodup by decide +kernel) rfl (Or.inl rfl) (Or.inr rfl))) (fun _ _ _ _ _ => (pe_op op_sub (pe_op op_mod (pe_op op_fdivB (pv 0) pe_int) pe_int) pe_int))) pa_nil)))))
      (pss_cons (ps_set (i := 4) sc__law_sums_right.nd rfl (Or.inl rfl) (pe_op op_cat (pv 4) (pe_lst (pa_cons (pe_comp rfl (CompScope.none ["_law_pull"]) (pi_list (pe_fld (pv 3) rfl)) (fun _ _ _ _ _ => (pg_name (i := 0) (show (["_law_pull"] : List Str).Nodup by decide +kernel) rfl (Or.inl rfl) (Or.inr rfl))) (fun _ _ _ _ _ => (pe_un un_neg (pv 0)))) (pa_cons (pe_op op_rep (pe_lst (pa_cons pe_int pa_nil)) (pe_callB call_len_seq rfl M.len' PySem.boot_len (pa_cons (pv 0) pa_nil))) pa_nil)))))
      (pss_cons (ps_for PassesOwn.never rfl (pi_list (pe_lst (pa_cons (pe_fld (pv 3) rfl) (pa_cons (pe_callA F__law_bent (hr.mono (by decide)) rfl (pa_cons (pe_fld (pv 3) rfl) (pa_cons (pv 2) pa_nil))) (pa_cons (pe_callA F_lower (hr.mono (by decide)) rfl (pa_cons (pv 0) pa_nil)) (pa_cons (pe_rev (pe_fld (pv 3) rfl)) pa_nil)))))) (pg_name (i := 5) sc__law_sums_right.nd rfl (Or.inl rfl) (Or.inl rfl)) (pss_one (ps_for PassesOwn.never rfl (pi_list (pv 4)) (pg_name (i := 6) sc__law_sums_right.nd rfl (Or.inl rfl) (Or.inl rfl)) (pss_cons (ps_set (i := 7) sc__law_sums_right.nd rfl (Or.inl rfl) (pe_lst (pa_cons (pe_callTy call_list_of rfl M.list' boot_listT (pa_cons (pv 5) pa_nil)) (pa_cons (pe_callTy call_list_of rfl M.list' boot_listT (pa_cons (pv 6) pa_nil)) pa_nil))))
      (pss_cons (ps_set (i := 8) sc__law_sums_right.nd rfl (Or.inl rfl) (pe_makeA F_Summed___init__ (hr.mono (by decide)) rfl (pa_cons (pe_ix ix_list (pv 7) pe_int (fun _ _ => rfl)) (pa_cons (pe_ix ix_list (pv 7) pe_int (fun _ _ => rfl)) pa_nil))))
      (pss_cons (ps_expr (pe_bm PySem.F.plainAttrs_list PySem.F.slot_list_append PySem.F.type_list_append mt_append (pe_ix ix_list (pv 7) pe_int (fun _ _ => rfl)) (pa_cons pe_int pa_nil)))
      (pss_cons (ps_expr (pe_bm PySem.F.plainAttrs_list PySem.F.slot_list_append PySem.F.type_list_append mt_append (pe_ix ix_list (pv 7) pe_int (fun _ _ => rfl)) (pa_cons pe_int pa_nil)))
      (pss_cons (ps_if (PW.pt (pw_or (pt_cmpR (op_neL hr.units) (pe_fld (pv 8) rfl) (pv 5) (nomark _)) (pw_or1 (pt_cmpR (op_neL hr.units) (pe_fld (pv 8) rfl) (pv 6) (nomark _))))) (pss_one (ps_ret pe_bl)) pss_nil)
      (pss_one (ps_if (pt_not (pt_val (pe_callA F__law_says (hr.mono (by decide)) rfl (pa_cons (pe_methA (pv 8) C_Summed F_Summed_shows (hr.mono (by decide)) (pa_cons (pv 0) (pa_cons (pv 1) pa_nil))) (pa_cons (pe_callA F__law_summed (hr.mono (by decide)) rfl (pa_cons (pv 0) (pa_cons (pv 1) (pa_cons (pv 5) (pa_cons (pv 6) pa_nil))))) pa_nil))))) (pss_one (ps_ret pe_bl)) pss_nil))))))))))
      (pss_one (ps_ret pe_bl)))))), ?_⟩
  refine ⟨_, rfl, _, rfl, a, b, ms, ws, rfl, hA, hB, by omega, by omega, hwok, fun x r p row pulls H1 hX s1 hx hr0 hp0 _ hE => ?_⟩
  obtain ⟨dx, fl, ob, l1, l2, l3⟩ := hX.ob
  have hrl : row.length = ms.length := hE.1
  have hpl : pulls.length = ms.length := hE.2.1
  refine ⟨_, rfl, x, _, dx, fl, _, rfl, ob, C_Summed.cl, N_Summed.p, l2, ?_⟩
  refine ⟨_, rfl, x, _, dx, fl, _, rfl, ob, C_Summed.cl, N_Summed.p, l2, _, rfl, p, d, pulls, ns, rfl, hX.pl, s1.seq hD, by omega, h63, fun pb outb H2 s2 hpb hPb hlb => ?_⟩
  have s12 := s1.trans s2
  refine ⟨_, rfl, d, rfl, ⟨_, s12.seq hD⟩, ?_⟩
  refine comp_list (xs := ns.map V.int) (by rw [List.length_map]; exact le1000 (by omega)) (fun i ys H' => H' = H2 ∧ ys = ((ns.take i).map fun x => x / 5 % 7 - 3).map V.int) ⟨rfl, rfl⟩ (fun i ys H' _ h => by rw [h.1]; exact s12.seq hD) ?_ ?_
  · rintro i x ys H' hx ⟨rfl, rfl⟩
    obtain ⟨z, hz, rfl⟩ := ints_at hx
    refine ⟨⟨rfl, rfl⟩, _, rfl, _, _, rfl, rfl, ⟨by decide, by decide⟩, _, _, rfl, rfl, (by show (0 : Int) < 7; decide), _, _, rfl, rfl, rfl, ?_⟩
    rw [map_snoc _ hz, List.map_append]; rfl
  rintro ys H2 ⟨rfl, rfl⟩ D hD'
  rw [List.length_map, take_all]
  have sD := same_new hD' (.lst ((ns.map fun x => x / 5 % 7 - 3).map V.int))
  refine ⟨(by show 3 ≤ sizeLine; decide), fun m1 hm1 => ?_⟩
  have sM := same_new hm1 (.lst [.ref p, .ref pb, .ref D])
  have t3 := sD.trans sM
  have hD3 := sM.at (upd_same (H := H2) (a := D) (o := .lst ((ns.map fun x => x / 5 % 7 - 3).map V.int)))
  generalize hH3 : upd (upd H2 D (.lst ((ns.map fun x => x / 5 % 7 - 3).map V.int))) m1 (.lst [.ref p, .ref pb, .ref D]) = H3 at sM t3 hD3 ⊢
  have hM1 : H3 m1 = some (.lst [.ref p, .ref pb, .ref D]) := by rw [← hH3]; exact upd_same
  have s13 := s12.trans t3
  have hX3 := hX.same (s2.trans t3)
  have ob3 := (s2.trans t3).at ob
  refine ⟨_, rfl, _, rfl, x, _, dx, fl, _, rfl, ob3, C_Summed.cl, N_Summed.p, l2, p, rfl, ⟨_, SqL.of hX3.pl⟩, ?_⟩
  refine comp_list (xs := pulls.map V.int) (by rw [List.length_map]; exact le1000 (by omega)) (fun i ys H' => H' = H3 ∧ ys = ((pulls.take i).map fun x => -x).map V.int) ⟨rfl, rfl⟩ (fun i ys H' _ h => by rw [h.1]; exact SqL.of hX3.pl) ?_ ?_
  · rintro i x ys H' hx ⟨rfl, rfl⟩
    obtain ⟨z, hz, rfl⟩ := ints_at hx
    refine ⟨⟨rfl, rfl⟩, _, rfl, z, rfl, rfl, ?_⟩
    rw [map_snoc _ hz, List.map_append]; rfl
  rintro ys H3 ⟨rfl, rfl⟩ D2 hD2
  rw [List.length_map, take_all]
  have u1 := same_new hD2 (.lst ((pulls.map fun x => -x).map V.int))
  refine ⟨(by show 1 ≤ sizeLine; decide), fun z1 hz1 => ?_⟩
  have u2 := same_new hz1 (.lst [.int 0])
  refine ⟨_, rfl, a, _, rfl, .inl (SqL.of ((s13.trans (u1.trans u2)).at hA)), ?_⟩
  refine ⟨z1, _, _, rfl, rfl, upd_same, by omega, (by rw [List.length_map]; omega), (by rw [List.length_map]; show 1 * _ ≤ sizeLine; have := le1000 (n := 1000) (Nat.le_refl _); omega), fun z2 hz2 => ?_⟩
  rw [List.length_map, Int.toNat_natCast, rep_zero]
  have u3 := same_new hz2 (.lst ((List.replicate ms.length (0 : Int)).map V.int))
  refine ⟨(by show 2 ≤ sizeLine; decide), fun l5 hl5 => ?_⟩
  have u4 := same_new hl5 (.lst [.ref D2, .ref z2])
  have u14 := u1.trans (u2.trans (u3.trans u4))
  refine ⟨m1, l5, _, _, rfl, rfl, u14.at hM1, upd_same, (by show 3 + 2 ≤ sizeLine; decide), fun mm hmm => ?_⟩
  have u5 := same_new hmm (.lst ([.ref p, .ref pb, .ref D] ++ [.ref D2, .ref z2]))
  have e1 := (u2.trans (u3.trans (u4.trans u5))).at (upd_same (H := H3) (a := D2) (o := .lst ((pulls.map fun x => -x).map V.int)))
  have e2 := (u4.trans u5).at (upd_same (a := z2) (o := .lst ((List.replicate ms.length (0 : Int)).map V.int)))
  have u15 := u14.trans u5
  generalize hH4 : upd (upd (upd (upd (upd H3 D2 (.lst ((pulls.map fun x => -x).map V.int))) z1 (.lst [.int 0])) z2 (.lst ((List.replicate ms.length (0 : Int)).map V.int))) l5 (.lst [.ref D2, .ref z2])) mm (.lst ([.ref p, .ref pb, .ref D] ++ [.ref D2, .ref z2])) = H4 at u5 u15 e1 e2 ⊢
  have hMm : H4 mm = some (.lst ([p, pb, D, D2, z2].map V.ref)) := by rw [← hH4]; exact upd_same
  have s14 := s13.trans u15
  have hX4 := hX3.same u15
  have ob4 := u15.at ob3
  have hMs : LsAt H4 [p, pb, D, D2, z2] [pulls, outb, ns.map fun x => x / 5 % 7 - 3, pulls.map fun x => -x, List.replicate ms.length 0] := .cons hX4.pl (.cons ((t3.trans u15).at hPb) (.cons (u15.at hD3) (.cons e1 (.cons e2 (.nil _)))))
  have hMl : ∀ xs ∈ [pulls, outb, ns.map fun x => x / 5 % 7 - 3, pulls.map fun x => -x, List.replicate ms.length 0], xs.length ≤ 200 := fun xs h => by
    simp only [List.mem_cons, List.not_mem_nil, or_false] at h
    rcases h with rfl | rfl | rfl | rfl | rfl
    · omega
    · omega
    · rw [List.length_map]; omega
    · rw [List.length_map]; omega
    · rw [List.length_replicate]; omega
  refine ⟨_, rfl, x, _, dx, fl, _, rfl, ob4, C_Summed.cl, N_Summed.r, l1, ?_⟩
  refine ⟨_, rfl, x, _, dx, fl, _, rfl, ob4, C_Summed.cl, N_Summed.r, l1, _, rfl, r, d, row, ns, rfl, hX4.rl, s14.seq hD, by omega, h63, fun pr outr H5 s5 hpr hPr hlr => ?_⟩
  have s15 := s14.trans s5
  refine ⟨_, rfl, a, ms, rfl, s15.at hA, by omega, fun pl H6 s6 hpl' hPl => ?_⟩
  have s56 := s5.trans s6
  have ob6 := s56.at ob4
  have hX6 := hX4.same s56
  refine ⟨_, rfl, x, _, dx, fl, _, rfl, ob6, C_Summed.cl, N_Summed.r, l1, r, _, rfl, SqL.of hX6.rl, fun rv hrv => ?_⟩
  have s7 := same_new hrv (.lst (row.map V.int).reverse)
  refine ⟨(by show 4 ≤ sizeLine; decide), fun lr hlr' => ?_⟩
  have s8 := same_new hlr' (.lst [.ref r, .ref pr, .ref pl, .ref rv])
  have e3 := s8.at (upd_same (H := H6) (a := rv) (o := .lst (row.map V.int).reverse))
  have s78 := s7.trans s8
  generalize hH8 : upd (upd H6 rv (.lst (row.map V.int).reverse)) lr (.lst [.ref r, .ref pr, .ref pl, .ref rv]) = H8 at s8 s78 e3 ⊢
  have hLr : H8 lr = some (.lst ([r, pr, pl, rv].map V.ref)) := by rw [← hH8]; exact upd_same
  have hLs : LsAt H8 [r, pr, pl, rv] [row, outr, loL ms, row.reverse] := .cons (hX6.same s78).rl (.cons ((s6.trans s78).at hPr) (.cons (s78.at hPl) (.cons (by rw [List.map_reverse]; exact e3) (.nil _))))
  have hLl : ∀ xs ∈ [row, outr, loL ms, row.reverse], xs.length ≤ 200 := fun xs h => by
    simp only [List.mem_cons, List.not_mem_nil, or_false] at h
    rcases h with rfl | rfl | rfl | rfl
    · omega
    · omega
    · rw [loL_length]; omega
    · rw [List.length_reverse]; omega
  have s48 := s56.trans s78
  have s18 := s14.trans s48
  refine ⟨lr, rfl, ⟨_, SqL.of hLr⟩, ?_⟩
  refine for_list (xs := [r, pr, pl, rv].map V.ref) (fun k σ H' => Same H8 H' ∧ ∃ v5 v6 v7 v8, σ = [some (.ref a), some (.ref b), some (.ref d), some (.ref x), some (.ref mm), v5, v6, v7, v8]) ⟨Same.refl _, _, _, _, _, rfl⟩ (fun k σ H' _ h => SqL.of (h.1.at hLr)) ?_ ?_
  · rintro k y σ H9 hy ⟨sm, v5, v6, v7, v8, rfl⟩
    obtain ⟨o, ho, rfl⟩ := refs_at hy
    obtain ⟨xs, hxm, hxs⟩ := (hLs.same sm).get ho
    have hxl := hLl xs hxm
    refine ⟨_, rfl, mm, rfl, ⟨_, SqL.of ((s48.trans sm).at hMm)⟩, ?_⟩
    refine for_list (xs := [p, pb, D, D2, z2].map V.ref) (fun k σ H' => Same H9 H' ∧ ∃ v6 v7 v8, σ = [some (.ref a), some (.ref b), some (.ref d), some (.ref x), some (.ref mm), some (.ref o), v6, v7, v8]) ⟨Same.refl _, _, _, _, rfl⟩ (fun k σ H' _ h => SqL.of ((s48.trans (sm.trans h.1)).at hMm)) ?_ ?_
    · rintro k2 y2 σ H10 hy2 ⟨sm2, v6, v7, v8, rfl⟩
      obtain ⟨o2, ho2, rfl⟩ := refs_at hy2
      obtain ⟨ps, hpm, hps⟩ := (hMs.same (s48.trans (sm.trans sm2))).get ho2
      have hpl2 := hMl ps hpm
      have hxs10 := sm2.at hxs
      have s20 := s18.trans (sm.trans sm2)
      refine ⟨_, rfl, o, _, rfl, .inl (SqL.of hxs10), fun h1 hh1 => ?_⟩
      have w1 := same_new hh1 (.lst (xs.map V.int))
      refine ⟨_, rfl, o2, _, rfl, .inl (SqL.of (w1.at hps)), fun h2 hh2 => ⟨(by show 2 ≤ sizeLine; decide), fun hd hhd => ?_⟩⟩
      have w2 := same_new hh2 (.lst (ps.map V.int))
      have w3 := same_new hhd (.lst [.ref h1, .ref h2])
      have w13 := w1.trans (w2.trans w3)
      have f1 := (w2.trans w3).at (upd_same (H := H10) (a := h1) (o := .lst (xs.map V.int)))
      have f2 := w3.at (upd_same (a := h2) (o := .lst (ps.map V.int)))
      have n2 : H10 h2 = none := w1.free hh2
      have n12 : h1 ≠ h2 := ne_of_none upd_same hh2
      have nd1 : h1 ≠ hd := ne_of_none (w2.at upd_same) hhd
      have nd2 : h2 ≠ hd := ne_of_none upd_same hhd
      generalize hH11 : upd (upd (upd H10 h1 (.lst (xs.map V.int))) h2 (.lst (ps.map V.int))) hd (.lst [.ref h1, .ref h2]) = H11 at w3 w13 f1 f2 ⊢
      have hHd : H11 hd = some (.lst [.ref h1, .ref h2]) := by rw [← hH11]; exact upd_same
      refine ⟨_, rfl, hd, _, 0, _, rfl, rfl, SqL.of hHd, rfl, _, rfl, hd, _, 1, _, rfl, rfl, SqL.of hHd, rfl, fun x2 dx2 hx2 hdx2 hne2 => ?_⟩
      have w4 := same_own (C := c.Summed) hx2 hdx2
      refine ⟨x2, h1, h2, dx2, xs, ps, rfl, upd_same, w4.at f1, w4.at f2, fun r' p' H12 hr' hp' _ hX2 kp => ⟨rfl, ?_⟩⟩
      have w5 := kp.same w4 hx2
      have g1 := w5.at f1
      have g2 := w5.at f2
      have g3 := w5.at hHd
      have a1 : r' ≠ h1 := (ne_of_none (w4.at f1) hr').symm
      have a2 : p' ≠ h1 := (ne_of_none (w4.at f1) hp').symm
      have a3 : r' ≠ h2 := (ne_of_none (w4.at f2) hr').symm
      have a4 : p' ≠ h2 := (ne_of_none (w4.at f2) hp').symm
      refine ⟨_, rfl, hd, _, 0, _, rfl, rfl, SqL.of g3, rfl, .inl ⟨rfl, _, SqL.of g1⟩, h1, _, _, rfl, rfl, g1, (by rw [List.length_map]; exact small1000 (by omega)), ?_⟩
      have g4 : upd H12 h1 (.lst (xs.map V.int ++ [.int 0])) hd = some (.lst [.ref h1, .ref h2]) := by rw [upd_ne nd1.symm]; exact g3
      have g5 : upd H12 h1 (.lst (xs.map V.int ++ [.int 0])) h2 = some (.lst (ps.map V.int)) := by rw [upd_ne n12.symm]; exact g2
      refine ⟨_, rfl, hd, _, 1, _, rfl, rfl, SqL.of g4, rfl, .inl ⟨rfl, _, SqL.of g5⟩, h2, _, _, rfl, rfl, g5, (by rw [List.length_map]; exact small1000 (by omega)), ?_⟩
      have hX3' := (hX2.upd g1 a1 a2 (.lst (xs.map V.int ++ [.int 0]))).upd g5 a3 a4 (.lst (ps.map V.int ++ [.int 0]))
      have w6 : Same H10 (upd (upd H12 h1 (.lst (xs.map V.int ++ [.int 0]))) h2 (.lst (ps.map V.int ++ [.int 0]))) := ((w13.trans w5).upd hh1 _).upd n2 _
      generalize upd (upd H12 h1 (.lst (xs.map V.int ++ [.int 0]))) h2 (.lst (ps.map V.int ++ [.int 0])) = H13 at hX3' w6 ⊢
      obtain ⟨dx3, fl3, ob3', k1, k2', k3⟩ := hX3'.ob
      refine ⟨_, rfl, x2, _, dx3, fl3, _, rfl, ob3', C_Summed.cl, N_Summed.r, k1, _, rfl, 1, true, by decide, EqL.same (SqL.of hX3'.rl) (SqL.of (w6.at hxs10)) flat_ints, _, rfl, iteF ?_⟩
      refine ⟨_, rfl, x2, _, dx3, fl3, _, rfl, ob3', C_Summed.cl, N_Summed.p, k2', _, rfl, 1, true, by decide, EqL.same (SqL.of hX3'.pl) (SqL.of (w6.at hps)) flat_ints, _, rfl, iteF ?_⟩
      have s21 := s20.trans w6
      refine ⟨_, rfl, x2, dx3, fl3, rfl, ob3', k3, _, rfl, _, rfl, x2, a, b, r', p', ms, ws, xs, ps, rfl, hX3', s21.at hA, s21.at hB, by omega, by omega, by omega, by omega, hwok, fun b2 HB hb2 sB => ?_⟩
      refine ⟨_, rfl, _, rfl, _, rfl, _, rfl, a, b, o, o2, ms, ws, xs, ps, rfl, (s21.trans sB).at hA, (s21.trans sB).at hB, (w6.trans sB).at hxs10, (w6.trans sB).at hps, by omega, by omega, by omega, hwok, fun b1 HC hb1 sC => ?_⟩
      obtain rfl : b2 = b1 := by rw [Bool.eq_iff_iff, hb1, hb2]
      exact ⟨b2, rfl, true, rfl, iteF ⟨sm2.trans (w6.trans (sB.trans sC)), _, _, _, rfl⟩⟩
    · rintro σ H10 ⟨sm2, v6, v7, v8, rfl⟩
      exact ⟨sm.trans sm2, _, _, _, _, rfl⟩
  · rintro σ H' ⟨sm, v5, v6, v7, v8, rfl⟩
    exact q H' (s18.trans sm)
end
end K1
set_option Elab.async false
set_option linter.all false
set_option maxRecDepth 100000
set_option maxHeartbeats 8000000
namespace K1
open PySem L2 Fr1 Up
section
seal L2.PE L2.PA L2.PT L2.PW L2.PS L2.PSs L2.PI L2.PG
variable {P : Program} {w : World} {K : PySem.W.Frag} {mg : Str → Option Value} {base : Heap} {f : Addr} {fd : FuncData} {c : CA}
theorem ok__law_squares_right (M : Bn mg) (F_squared : FnA P w K mg base "squared" ["numbers", "weights"] 7 (spSquaredW c)) (F__law_sum : FnA P w K mg base "_law_sum" ["_law_one", "_law_other"] 3 spSum) (F__law_low : FnA P w K mg base "_law_low" ["_law_above", "_law_below"] 2 spLow) (F_Squared___init__ : MakeA P w K mg base "Squared" c.Squared ["self", "row"] 1 (spSqInit c)) (F__law_squared : FnA P w K mg base "_law_squared" ["_law_numbers_here", "_law_weights_here", "_law_row"] 4 spSquaredL) (F__law_says : FnA P w K mg base "_law_says" ["_law_said", "_law_due"] 1 spSays) (F_Squared_shows : MethA P w K mg base c.Squared "shows" ["self", "numbers", "weights"] 6 (spSqShows c)) (C_Squared : ClsA K mg "Squared" c.Squared) (N_Squared : NaSquared K c.Squared) (F : Fun K "_law_squares_right" "_law_squares_right" s__law_squares_right f fd) : FnOk P w K mg base CX0 12 f fd ["_law_numbers_here", "_law_weights_here", "_law_script"] (spThreeR K) := by
  refine F.ok sc__law_squares_right (fun vs H Q E h => ?_) (fun cdv A outer s H vs Q E hr h => ?_)
  · obtain ⟨a, b, d, ms, ws, ns, rfl, _⟩ := h; rfl
  obtain ⟨a, b, d, ms, ws, ns, rfl, hA, hB, hD, h63, hl, hlw, hw, q⟩ := h
  have hwok : WOk ws := fun w h => ⟨(hw w h).1, by have := (hw w h).2; omega⟩
  have z0 := le1000 (n := 1000) (Nat.le_refl _)
  refine ⟨_, (pss_cons (ps_set (i := 3) sc__law_squares_right.nd rfl (Or.inl rfl) (pe_fld (pe_callA F_squared (hr.mono (by decide)) rfl (pa_cons (pv 0) (pa_cons (pv 1) pa_nil))) rfl))
      (pss_cons (ps_set (i := 4) sc__law_squares_right.nd rfl (Or.inl rfl) (pe_lst (pa_cons (pv 3) (pa_cons (pe_rev (pv 3)) (pa_cons (pe_slice sl_list (pv 3) (po_some pe_int) po_none) (pa_cons (pe_comp rfl (CompScope.none ["_law_number"]) (pi_list (pv 0)) (fun _ _ _ _ _ => (pg_name (i := 0) (show (["_law_number"] : List Str).Nodup by decide +kernel) rfl (Or.inl rfl) (Or.inr rfl))) (fun _ _ _ _ _ => (pe_tup (pa_cons (pv 0) (pa_cons pe_int pa_nil))))) (pa_cons (pe_op op_cat (pv 3) (pe_lst (pa_cons (pe_tup (pa_cons pe_int (pa_cons pe_int pa_nil))) pa_nil))) pa_nil)))))))
      (pss_cons (ps_expr (pe_bm PySem.F.plainAttrs_list PySem.F.slot_list_append PySem.F.type_list_append mt_append (pv 4) (pa_cons (pe_comp rfl (CompScope.none ["_law_one", "_law_cell"]) (pi_zip rfl M.zip' (pa_cons (pv 3) (pa_cons (pv 2) pa_nil))) (fun _ _ _ _ _ => (pg_two (K := K) (i := 0) (j := 1) rfl rfl (show (["_law_one", "_law_cell"] : List Str).Nodup by decide +kernel) rfl rfl rfl rfl)) (fun _ _ _ _ _ => (pe_callA F__law_sum (hr.mono (by decide)) rfl (pa_cons (pv 0) (pa_cons (pe_tup (pa_cons (pe_op op_sub (pe_op op_mod (pe_op op_fdivB (pv 1) pe_int) pe_int) pe_int) (pa_cons (pe_op op_add pe_int (pe_op op_mod (pv 1) pe_int)) pa_nil))) pa_nil))))) pa_nil)))
      (pss_cons (ps_set (i := 5) sc__law_squares_right.nd rfl (Or.inl rfl) (pe_callB (call_sumL rfl) rfl M.sum' PyProof.Rows.boot_sum (pa_cons (pe_comp rfl (CompScope.none ["_law_number", "_law_weight"]) (pi_zip rfl M.zip' (pa_cons (pv 0) (pa_cons (pv 1) pa_nil))) (fun _ _ _ _ _ => (pg_two (K := K) (i := 0) (j := 1) rfl rfl (show (["_law_number", "_law_weight"] : List Str).Nodup by decide +kernel) rfl rfl rfl rfl)) (fun _ _ _ _ _ => (pe_op op_mul (pv 0) (pv 1)))) pa_nil)))
      (pss_cons (ps_expr (pe_bm PySem.F.plainAttrs_list PySem.F.slot_list_append PySem.F.type_list_append mt_append (pv 4) (pa_cons (pe_op op_rep (pe_lst (pa_cons (pe_callA F__law_low (hr.mono (by decide)) rfl (pa_cons (pv 5) (pa_cons (pe_callB (call_max2 rfl) rfl M.max' PyProof.Rows.boot_max (pa_cons pe_int (pa_cons (pe_callB (call_sumL rfl) rfl M.sum' PyProof.Rows.boot_sum (pa_cons (pv 1) pa_nil)) pa_nil))) pa_nil))) pa_nil)) (pe_callB call_len_seq rfl M.len' PySem.boot_len (pa_cons (pv 0) pa_nil))) pa_nil)))
      (pss_cons (ps_if (pt_cmpR op_gt (pe_callB call_len_seq rfl M.len' PySem.boot_len (pa_cons (pv 3) pa_nil)) pe_int (nomark _)) (pss_cons (ps_set (i := 6) sc__law_squares_right.nd rfl (Or.inl rfl) (pe_lst (pa_cons (pe_callA F__law_sum (hr.mono (by decide)) rfl (pa_cons (pe_ix ix_list (pv 3) pe_int (fun _ _ => rfl)) (pa_cons (pe_tup (pa_cons (pe_un un_neg (pe_ix ix_list (pv 1) (pe_un un_neg pe_int) (fun _ _ => rfl))) (pa_cons pe_int pa_nil))) pa_nil))) (pa_cons (pe_callA F__law_sum (hr.mono (by decide)) rfl (pa_cons (pe_ix ix_list (pv 3) (pe_un un_neg pe_int) (fun _ _ => rfl)) (pa_cons (pe_tup (pa_cons (pe_ix ix_list (pv 1) pe_int (fun _ _ => rfl)) (pa_cons pe_int pa_nil))) pa_nil))) pa_nil))))
      (pss_one (ps_expr (pe_bm PySem.F.plainAttrs_list PySem.F.slot_list_append PySem.F.type_list_append mt_append (pv 4) (pa_cons (pe_op op_cat (pe_op op_cat (pe_slice sl_list (pv 6) po_none (po_some pe_int)) (pe_slice sl_list (pv 3) (po_some pe_int) (po_some (pe_un un_neg pe_int)))) (pe_slice sl_list (pv 6) (po_some pe_int) po_none)) pa_nil))))) pss_nil)
      (pss_cons (ps_for PassesOwn.never rfl (pi_list (pv 4)) (pg_name (i := 7) sc__law_squares_right.nd rfl (Or.inl rfl) (Or.inl rfl)) (pss_cons (ps_set (i := 8) sc__law_squares_right.nd rfl (Or.inl rfl) (pe_callTy call_list_of rfl M.list' boot_listT (pa_cons (pv 7) pa_nil)))
      (pss_cons (ps_set (i := 9) sc__law_squares_right.nd rfl (Or.inl rfl) (pe_makeA F_Squared___init__ (hr.mono (by decide)) rfl (pa_cons (pv 8) pa_nil)))
      (pss_cons (ps_expr (pe_bm PySem.F.plainAttrs_list PySem.F.slot_list_append PySem.F.type_list_append mt_append (pv 8) (pa_cons (pe_tup (pa_cons pe_int (pa_cons pe_int pa_nil))) pa_nil)))
      (pss_cons (ps_set (i := 10) sc__law_squares_right.nd rfl (Or.inl rfl) (pe_callA F__law_squared (hr.mono (by decide)) rfl (pa_cons (pv 0) (pa_cons (pv 1) (pa_cons (pv 7) pa_nil)))))
      (pss_one (ps_if (PW.pt (pw_or (pt_cmpR (op_neL hr.units) (pe_fld (pv 9) rfl) (pv 7) (nomark _)) (pw_or1 (pt_not (pt_val (pe_callA F__law_says (hr.mono (by decide)) rfl (pa_cons (pe_methA (pv 9) C_Squared F_Squared_shows (hr.mono (by decide)) (pa_cons (pv 0) (pa_cons (pv 1) pa_nil))) (pa_cons (pv 10) pa_nil)))))))) (pss_one (ps_ret pe_bl)) pss_nil)))))))
      (pss_one (ps_ret pe_bl))))))))), ?_⟩
  refine ⟨_, rfl, _, rfl, a, b, ms, ws, rfl, hA, hB, by omega, by omega, hwok, fun x r rs tr H1 hX s1 hx hr0 hR hok => ?_⟩
  obtain ⟨dx, fl, ob, l1, l2⟩ := hX.ob
  have hE := runs_sq hR
  have hq := runs_q hR hw (by omega)
  have hfl : (rowOf tr).length = ms.length := hE.len
  have hrl : rs.length = ms.length := by rw [hX.fr.1, hfl]
  generalize rowOf tr = fs at hX hok hE hq hfl
  refine ⟨x, _, dx, fl, _, rfl, ob, C_Squared.cl, N_Squared.r, l1, ?_⟩
  refine ⟨_, rfl, _, rfl, r, _, rfl, SqL.of hX.rl, fun p1 hp1 => ?_⟩
  have u1 := same_new hp1 (.lst (rs.map V.ref).reverse)
  refine ⟨_, rfl, _, rfl, r, _, rfl, SqL.of (u1.at hX.rl), fun p2 hp2 => ?_⟩
  obtain ⟨rs2, fs2, e2, hF2, hs2, hl2⟩ := hX.fr.cut (some 1) none
  have u2 := same_new hp2 (.lst (cutV (rs.map V.ref) (some 1) none))
  have u12 := u1.trans u2
  refine ⟨_, rfl, a, rfl, ⟨_, SqL.of ((s1.trans u12).at hA)⟩, ?_⟩
  refine comp_list (xs := ms.map V.int) (by rw [List.length_map]; exact le1000 (by omega)) (fun i ys H' => Same (upd (upd H1 p1 (.lst (rs.map V.ref).reverse)) p2 (.lst (cutV (rs.map V.ref) (some 1) none))) H' ∧ ∃ ts : List Addr, ys = ts.map V.ref ∧ FrAt H' ts ((ms.take i).map fun n => (n, 1))) ⟨Same.refl _, [], rfl, FrAt.nil _⟩ (fun i ys H' _ h => SqL.of (h.1.at ((s1.trans u12).at hA))) ?_ ?_
  · rintro i y ys H' hy ⟨sy, ts, rfl, hF⟩
    obtain ⟨n, hn, rfl⟩ := ints_at hy
    refine ⟨⟨rfl, rfl⟩, _, rfl, (by show 2 ≤ sizeLine; decide), fun t ht => ⟨sy.new ht _, ts ++ [t], ?_, ?_⟩⟩
    · rw [List.map_append]; rfl
    · rw [map_snoc _ hn]
      exact hF.snoc (x := (n, 1)) ht
  rintro ys H2 ⟨u3, ts3, rfl, hF3⟩ p3 hp3
  rw [List.length_map, take_all] at hF3
  have u4 := same_new hp3 (.lst (ts3.map V.ref))
  refine ⟨_, rfl, (by show 2 ≤ sizeLine; decide), fun t0 ht0 => ⟨(by show 1 ≤ sizeLine; decide), fun l0 hl0 => ?_⟩⟩
  have u5 := same_new ht0 (.tup [.int 0, .int 1])
  have u6 := same_new hl0 (.lst [.ref t0])
  have u16 := u12.trans (u3.trans (u4.trans (u5.trans u6)))
  refine ⟨r, l0, _, _, rfl, rfl, u16.at hX.rl, upd_same, (by rw [List.length_map, hrl]; show _ + 1 ≤ _; omega), fun p4 hp4 => ?_⟩
  have u7 := same_new hp4 (.lst (rs.map V.ref ++ [.ref t0]))
  refine ⟨(by show 5 ≤ sizeLine; decide), fun rw' hrw => ?_⟩
  have u8 := same_new hrw (.lst [.ref r, .ref p1, .ref p2, .ref p3, .ref p4])
  have a1 := (u2.trans (u3.trans (u4.trans (u5.trans (u6.trans (u7.trans u8)))))).at (upd_same (H := H1) (a := p1) (o := .lst (rs.map V.ref).reverse))
  have a2 := (u3.trans (u4.trans (u5.trans (u6.trans (u7.trans u8))))).at (upd_same (a := p2) (o := .lst (cutV (rs.map V.ref) (some 1) none)))
  have a3 := (u5.trans (u6.trans (u7.trans u8))).at (upd_same (a := p3) (o := .lst (ts3.map V.ref)))
  have a4 := u8.at (upd_same (a := p4) (o := .lst (rs.map V.ref ++ [.ref t0])))
  have a0 := (u6.trans (u7.trans u8)).at (upd_same (a := t0) (o := .tup [.int 0, .int 1]))
  have a5 := hF3.same (u4.trans (u5.trans (u6.trans (u7.trans u8))))
  have u18 := u16.trans (u7.trans u8)
  have nr : r ≠ rw' := ne_of_none ((u16.trans u7).at hX.rl) hrw
  have n1 : p1 ≠ rw' := ne_of_none ((u2.trans (u3.trans (u4.trans (u5.trans (u6.trans u7))))).at upd_same) hrw
  have n2 : p2 ≠ rw' := ne_of_none ((u3.trans (u4.trans (u5.trans (u6.trans u7)))).at upd_same) hrw
  have n3 : p3 ≠ rw' := ne_of_none ((u5.trans (u6.trans u7)).at upd_same) hrw
  have n4 : p4 ≠ rw' := ne_of_none upd_same hrw
  have hrwn : H1 rw' = none := (u16.trans u7).free hrw
  generalize hH8 : upd (upd _ p4 (.lst (rs.map V.ref ++ [.ref t0]))) rw' (.lst [.ref r, .ref p1, .ref p2, .ref p3, .ref p4]) = H8 at u8 u18 a0 a1 a2 a3 a4 a5 ⊢
  have hRw : H8 rw' = some (.lst ([r, p1, p2, p3, p4].map V.ref)) := by rw [← hH8]; exact upd_same
  have hX8 := hX.same u18
  have s18 := s1.trans u18
  have okc : ∀ gs : List (Int × Int), (∀ f ∈ gs, f ∈ fs) → FOk gs := fun gs h f hf => hok f (h f hf)
  have hRows : ∀ o ∈ [r, p1, p2, p3, p4], o ≠ rw' ∧ RowOk H8 o := fun o ho => by
    simp only [List.mem_cons, List.not_mem_nil, or_false] at ho
    rcases ho with rfl | rfl | rfl | rfl | rfl
    · exact ⟨nr, _, _, hX8.rl, hX8.fr, hok, by omega⟩
    · exact ⟨n1, _, _, (by rw [List.map_reverse]; exact a1), hX8.fr.rev, okc _ (fun f hf => List.mem_reverse.mp hf), (by rw [List.length_reverse]; omega)⟩
    · exact ⟨n2, _, _, (by rw [← e2]; exact a2), hF2.same u18, okc _ hs2, by omega⟩
    · exact ⟨n3, _, _, a3, a5, (fun f hf => by obtain ⟨n, _, rfl⟩ := List.mem_map.mp hf; exact ⟨by show (1 : Int) ≤ 1; decide, by show (1 : Int) < 2 ^ 60; decide, Int.gcd_one_right _⟩), (by rw [List.length_map]; omega)⟩
    · refine ⟨n4, rs ++ [t0], fs ++ [(0, 1)], (by rw [List.map_append]; exact a4), hX8.fr.app (.cons a0 (FrAt.nil _)), (fun f hf => ?_), (by rw [List.length_append]; show _ + 1 ≤ _; omega)⟩
      rcases List.mem_append.mp hf with z | z
      · exact hok f z
      · rw [List.mem_singleton.mp z]; exact ⟨by decide, by decide, by decide⟩
  have hRA : RowsAt H8 rw' [r, p1, p2, p3, p4] := ⟨hRw, hRows⟩
  refine ⟨_, rfl, .inl ⟨rfl, _, SqL.of hRw⟩, _, rfl, _, rfl, r, d, rfl, ⟨_, SqL.of hX8.rl⟩, ⟨_, s18.seq hD⟩, ?_⟩
  refine comp_zip (xs := rs.map V.ref) (zs := ns.map V.int) (by rw [List.length_map, hrl]; exact le1000 (by omega)) (by rw [List.length_map, List.length_map, hrl, hl]) (fun i ys H' => Same H8 H' ∧ ∃ (ts : List Addr) (gs : List (Int × Int)), ys = ts.map V.ref ∧ FrAt H' ts gs ∧ FOk gs ∧ gs.length = i) ⟨Same.refl _, [], [], rfl, FrAt.nil _, FOk.nil, rfl⟩
    (fun i ys H' _ h => ⟨SqL.of (h.1.at hX8.rl), h.1.seq (s18.seq hD)⟩) ?_ ?_
  · rintro i y z ys H' t hy hz ⟨sy, ts, gs, rfl, hF, hG, hgl⟩ ht
    obtain ⟨u, hu, rfl⟩ := refs_at hy
    obtain ⟨cl, _, rfl⟩ := ints_at hz
    have sy1 := sy.new ht (.tup [.ref u, .int cl])
    obtain ⟨f, hf, hU⟩ := (hX8.fr.same sy1).get hu
    have hof := hok f hf
    have hqf := hq f hf
    refine ⟨t, _, rfl, SqT.of upd_same, rfl, _, _, rfl, _, _, rfl, rfl, ⟨rfl, rfl⟩, _, rfl, _, rfl, _, _, rfl, rfl, ⟨by decide, by decide⟩, _, _, rfl, rfl, (by show (0 : Int) < 3; decide), _, _, rfl, rfl, _, rfl, _, _, rfl, rfl, (by show (0 : Int) < 4; decide), _, _, rfl, rfl, (by show 2 ≤ sizeLine; decide), fun tp htp => ?_⟩
    have c0 := Int.emod_nonneg cl (show (4 : Int) ≠ 0 by decide)
    have c1 := Int.emod_lt_of_pos cl (show (0 : Int) < 4 by decide)
    have st := same_new htp (.tup [.int (cl / 5 % 3 - 1), .int (1 + cl % 4)])
    refine ⟨u, tp, f.1, f.2, _, _, rfl, st.at hU, upd_same, by omega, by omega, by omega, by omega, fun nt hnt => ?_⟩
    have sn := same_new ht (.tup [.ref u, .int cl])
    refine ⟨(sy1.trans st).new hnt _, ts ++ [nt], gs ++ [_], ?_, (hF.same (sn.trans st)).snoc hnt, hG.snoc (fok_sum hof.1 hqf (by omega) (by omega)), (by rw [List.length_append]; show _ + 1 = _; omega)⟩
    rw [List.map_append]; rfl
  rintro ys H9 ⟨s9, ts9, gs9, rfl, hF9, hG9, hgl9⟩ D hD'
  rw [List.length_map] at hgl9
  have w1 := same_new hD' (.lst (ts9.map V.ref))
  have hRA9 := hRA.same (s9.trans w1)
  refine ⟨rw', _, _, rfl, rfl, hRA9.rl, (by show 5 < sizeLine; exact small1000 (by omega)), ?_⟩
  have nD : D ≠ rw' := (ne_of_none ((hRA.same s9).rl) hD').symm
  have hRB := hRA9.app nD ⟨_, _, upd_same, hF9.same w1, hG9, by omega⟩
  have t10 : Same H1 (upd (upd H9 D (.lst (ts9.map V.ref))) rw' (.lst ([r, p1, p2, p3, p4].map V.ref ++ [.ref D]))) := (u18.trans (s9.trans w1)).upd hrwn _
  generalize upd (upd H9 D (.lst (ts9.map V.ref))) rw' (.lst ([r, p1, p2, p3, p4].map V.ref ++ [.ref D])) = H10 at hRB t10 ⊢
  have s110 := s1.trans t10
  refine ⟨_, rfl, _, rfl, a, b, rfl, ⟨_, SqL.of (s110.at hA)⟩, ⟨_, SqL.of (s110.at hB)⟩, ?_⟩
  refine comp_zip (xs := ms.map V.int) (zs := ws.map V.int) (by rw [List.length_map]; exact le1000 (by omega)) (by rw [List.length_map, List.length_map]; omega) (fun i ys H' => Same H10 H' ∧ ∃ zs : List Int, ys = zs.map V.int) ⟨Same.refl _, [], rfl⟩
    (fun i ys H' _ h => ⟨SqL.of ((s110.trans h.1).at hA), SqL.of ((s110.trans h.1).at hB)⟩) ?_ ?_
  · rintro i y z ys H' t hy hz ⟨sy, zs, rfl⟩ ht
    obtain ⟨n, _, rfl⟩ := ints_at hy
    obtain ⟨w', hw', rfl⟩ := ints_at hz
    have hwb := hw w' (List.mem_of_getElem? hw')
    refine ⟨t, _, rfl, SqT.of upd_same, rfl, _, _, rfl, _, _, rfl, rfl, ⟨rfl, rfl⟩, _, rfl, _, rfl, _, _, rfl, rfl, .inr ⟨by omega, by omega⟩, sy.new ht _, zs ++ [n * w'], ?_⟩
    rw [List.map_append]; rfl
  rintro ys H11 ⟨s11, zs, rfl⟩ D2 hD2
  have w2 := same_new hD2 (.lst (zs.map V.int))
  refine ⟨D2, zs, rfl, SqL.of upd_same, ?_⟩
  have t12 := t10.trans (s11.trans w2)
  have hRC := hRB.same (s11.trans w2)
  generalize upd H11 D2 (.lst (zs.map V.int)) = H12 at w2 t12 hRC ⊢
  have s112 := s1.trans t12
  obtain ⟨sw1, sw2⟩ := sum_le (M := 1000000000) (by decide) ws hw
  have hmx : 0 < (if ws.sum > 1 then ws.sum else 1) ∧ (if ws.sum > 1 then ws.sum else 1) < 2 ^ 60 := by split <;> omega
  refine ⟨_, rfl, .inl ⟨rfl, _, SqL.of hRC.rl⟩, _, rfl, _, rfl, b, ws, rfl, SqL.of (s112.at hB), _, _, rfl, _, _, rfl, hmx.1, by omega, fun lo hlo => ⟨(by show 1 ≤ sizeLine; decide), fun l1' hl1' => ?_⟩⟩
  have w3 := same_new hlo (.tup [.int (lowP zs.sum (if ws.sum > 1 then ws.sum else 1)).1, .int (lowP zs.sum (if ws.sum > 1 then ws.sum else 1)).2])
  have w4 := same_new hl1' (.lst [.ref lo])
  refine ⟨_, rfl, a, _, rfl, .inl (SqL.of ((s112.trans (w3.trans w4)).at hA)), l1', _, _, rfl, rfl, upd_same, by omega, (by rw [List.length_map]; omega), (by rw [List.length_map]; show 1 * _ ≤ sizeLine; omega), fun l3 hl3 => ?_⟩
  rw [List.length_map, Int.toNat_natCast, rep_ref]
  have w5 := same_new hl3 (.lst ((List.replicate ms.length lo).map V.ref))
  have w35 := w3.trans (w4.trans w5)
  have hRD := hRC.same w35
  refine ⟨rw', _, _, rfl, rfl, hRD.rl, (by show 6 < sizeLine; exact small1000 (by omega)), ?_⟩
  have nl3 : l3 ≠ rw' := (ne_of_none ((hRC.same (w3.trans w4)).rl) hl3).symm
  have lok := lowP_pos (t := zs.sum) hmx.1
  have lok2 := lowP_le (t := zs.sum) hmx.1
  have hRE := hRD.app nl3 ⟨_, _, upd_same, FrAt.rep (f := lowP zs.sum (if ws.sum > 1 then ws.sum else 1)) ((w4.trans w5).at upd_same) ms.length, (fun f hf => by rw [List.eq_of_mem_replicate hf]; exact ⟨by omega, by omega, lowP_gcd hmx.1⟩), (by rw [List.length_replicate]; omega)⟩
  have t13 : Same H1 (upd (upd (upd (upd H12 lo (.tup [.int (lowP zs.sum (if ws.sum > 1 then ws.sum else 1)).1, .int (lowP zs.sum (if ws.sum > 1 then ws.sum else 1)).2])) l1' (.lst [.ref lo])) l3 (.lst ((List.replicate ms.length lo).map V.ref))) rw' (.lst (([r, p1, p2, p3, p4] ++ [D]).map V.ref ++ [.ref l3]))) := (t12.trans w35).upd hrwn _
  generalize upd (upd (upd (upd H12 lo (.tup [.int (lowP zs.sum (if ws.sum > 1 then ws.sum else 1)).1, .int (lowP zs.sum (if ws.sum > 1 then ws.sum else 1)).2])) l1' (.lst [.ref lo])) l3 (.lst ((List.replicate ms.length lo).map V.ref))) rw' (.lst (([r, p1, p2, p3, p4] ++ [D]).map V.ref ++ [.ref l3])) = H13 at hRE t13 ⊢
  dsimp only
  refine seq_with (fun σ' H' => Same H1 H' ∧ ∃ (os : List Addr) (v6 v7 v8 v9 v10 : Option V), σ' = [some (.ref a), some (.ref b), some (.ref d), some (.ref r), some (.ref rw'), some (.int zs.sum), v6, v7, v8, v9, v10] ∧ RowsAt H' rw' os) ?_ (fun cont => ?_)
  · rintro σ' H14 ⟨t14, os, v6, v7, v8, v9, v10, rfl, hRA⟩
    have s114 := s1.trans t14
    refine ⟨_, rfl, rw', rfl, ⟨_, SqL.of hRA.rl⟩, ?_⟩
    refine for_list (xs := os.map V.ref) (fun k σ H' => Same H14 H' ∧ ∃ v6 v7 v8 v9 v10, σ = [some (.ref a), some (.ref b), some (.ref d), some (.ref r), some (.ref rw'), some (.int zs.sum), v6, v7, v8, v9, v10]) ⟨Same.refl _, _, _, _, _, _, rfl⟩ (fun k σ H' _ h => SqL.of (h.1.at hRA.rl)) ?_ ?_
    · rintro k y σ H7 hy ⟨sm, v6, v7, v8, v9, v10, rfl⟩
      obtain ⟨o, ho, rfl⟩ := refs_at hy
      obtain ⟨rs', fs', hO, hFo, hOk, hol⟩ := (hRA.ok o (List.mem_of_getElem? ho)).2.same sm
      have hrl' : rs'.length ≤ 200 := by rw [hFo.1]; exact hol
      have s17 := s114.trans sm
      refine ⟨_, rfl, o, _, rfl, .inl (SqL.of hO), fun hd hhd => ?_⟩
      have w1 := same_new hhd (.lst (rs'.map V.ref))
      refine ⟨_, rfl, fun x2 dx2 hx2 hdx2 hne2 => ?_⟩
      have w2 := same_own (C := c.Squared) hx2 hdx2
      refine ⟨x2, hd, dx2, rs', fs', rfl, upd_same, w2.at upd_same, hFo.same (w1.trans w2), fun l' H8' hl' hX2 kp => ⟨rfl, ?_⟩⟩
      have w3 := kp.same w2 hx2
      have hHd := w3.at (upd_same (H := H7) (a := hd) (o := .lst (rs'.map V.ref)))
      have nld : l' ≠ hd := (ne_of_none (w2.at upd_same) hl').symm
      refine ⟨_, rfl, .inl ⟨rfl, _, SqL.of hHd⟩, (by show 2 ≤ sizeLine; decide), fun tz htz => ?_⟩
      have wz := same_new htz (.tup [.int 0, .int 1])
      refine ⟨hd, _, _, rfl, rfl, wz.at hHd, (by rw [List.length_map]; exact small1000 (by omega)), ?_⟩
      have hX3 := (hX2.same wz).upd (wz.at hHd) nld (.lst (rs'.map V.ref ++ [.ref tz]))
      have w4 : Same H7 (upd (upd H8' tz (.tup [.int 0, .int 1])) hd (.lst (rs'.map V.ref ++ [.ref tz]))) := (w1.trans (w3.trans wz)).upd hhd _
      generalize upd (upd H8' tz (.tup [.int 0, .int 1])) hd (.lst (rs'.map V.ref ++ [.ref tz])) = H9' at hX3 w4 ⊢
      have s19 := s17.trans w4
      refine ⟨_, rfl, _, rfl, _, rfl, a, b, o, ms, ws, rs', fs', rfl, s19.at hA, s19.at hB, w4.at hO, hFo.same w4, by omega, by omega, hOk, hwok, fun b1 HA hb1 sA => ?_⟩
      obtain ⟨dx3, fl3, ob3, k1, k2⟩ := (hX3.same sA).ob
      have hX4' := hX3.same sA
      refine ⟨_, rfl, x2, _, dx3, fl3, _, rfl, ob3, C_Squared.cl, N_Squared.r, k1, _, rfl, 1, true, by decide, EqL.same (SqL.of hX4'.rl) (SqL.of ((w4.trans sA).at hO)) flat_refs, _, rfl, iteF ?_⟩
      refine ⟨_, rfl, x2, dx3, fl3, rfl, ob3, k2, _, rfl, _, rfl, x2, a, b, l', ms, ws, rs', fs', rfl, hX4', (s19.trans sA).at hA, (s19.trans sA).at hB, by omega, by omega, by omega, hOk, hwok, fun b2 HB hb2 sB => ?_⟩
      obtain rfl : b2 = b1 := by rw [Bool.eq_iff_iff, hb1, hb2]
      exact ⟨_, rfl, b2, rfl, true, rfl, iteF ⟨sm.trans (w4.trans (sA.trans sB)), _, _, _, _, _, rfl⟩⟩
    · rintro σ H7 ⟨sm, v6, v7, v8, v9, v10, rfl⟩
      exact q H7 (s114.trans sm)
  · have hX13 := hX.same t13
    have s113 := s1.trans t13
    refine ⟨_, rfl, r, _, rfl, .inl (SqL.of hX13.rl), _, _, rfl, rfl, _, rfl, iteD (fun g => ?_) (fun g => cont _ _ ⟨t13, _, _, _, _, _, _, rfl, hRE⟩)⟩
    rw [List.length_map] at g
    have hB13 := s113.at hB
    have hr1 : 1 < rs.length := by omega
    obtain ⟨u0, hu0⟩ := get_of (xs := rs) (i := 0) (by omega)
    obtain ⟨f0, hf0, hU0⟩ := hX13.fr.get hu0
    obtain ⟨ve, hve, hvm⟩ := atI_end (xs := rs.map V.ref) (by rw [List.length_map]; omega)
    obtain ⟨ue, hue, rfl⟩ := List.mem_map.mp hvm
    obtain ⟨ie, hie, eie⟩ := List.mem_iff_getElem.mp hue
    obtain ⟨fe, hfe, hUe⟩ := hX13.fr.get (k := ie) (r := ue) (by rw [List.getElem?_eq_getElem hie, eie])
    obtain ⟨vw, hvw, hvwm⟩ := atI_end (xs := ws.map V.int) (by rw [List.length_map]; omega)
    obtain ⟨we, hwe, rfl⟩ := List.mem_map.mp hvwm
    have o0 := hok f0 hf0
    have q0 := hq f0 hf0
    have oe := hok fe hfe
    have qe := hq fe hfe
    refine ⟨_, rfl, r, _, _, _, rfl, rfl, SqL.of hX13.rl, atI_0 (at_refs hu0), _, rfl, _, rfl, b, _, _, _, rfl, rfl, SqL.of hB13, hvw, _, rfl, (by show 2 ≤ sizeLine; decide), fun tp1 htp1 => ?_⟩
    have y1 := same_new htp1 (.tup [.int (-we), .int 1])
    refine ⟨u0, tp1, f0.1, f0.2, _, _, rfl, y1.at hU0, upd_same, by omega, by omega, by decide, by decide, fun m1 hm1 => ?_⟩
    have y2 := same_new hm1 (.tup [.int (lowP (f0.1 * 1 + -we * f0.2) (f0.2 * 1)).1, .int (lowP (f0.1 * 1 + -we * f0.2) (f0.2 * 1)).2])
    have y12 := y1.trans y2
    obtain ⟨wz, hwz⟩ := get_of (xs := ws) (i := 0) (by omega)
    refine ⟨_, rfl, _, rfl, r, _, _, _, rfl, rfl, SqL.of (y12.at hX13.rl), hve, _, rfl, b, _, _, _, rfl, rfl, SqL.of (y12.at hB13), atI_0 (at_ints hwz), (by show 2 ≤ sizeLine; decide), fun tp2 htp2 => ?_⟩
    have y3 := same_new htp2 (.tup [.int wz, .int 1])
    refine ⟨ue, tp2, fe.1, fe.2, _, _, rfl, (y12.trans y3).at hUe, upd_same, by omega, by omega, by decide, by decide, fun m2 hm2 => ?_⟩
    have y4 := same_new hm2 (.tup [.int (lowP (fe.1 * 1 + wz * fe.2) (fe.2 * 1)).1, .int (lowP (fe.1 * 1 + wz * fe.2) (fe.2 * 1)).2])
    refine ⟨(by show 2 ≤ sizeLine; decide), fun en hen => ?_⟩
    have y5 := same_new hen (.lst [.ref m1, .ref m2])
    have y15 := y12.trans (y3.trans (y4.trans y5))
    have e1 := (y3.trans (y4.trans y5)).at (upd_same (a := m1) (o := .tup [.int (lowP (f0.1 * 1 + -we * f0.2) (f0.2 * 1)).1, .int (lowP (f0.1 * 1 + -we * f0.2) (f0.2 * 1)).2]))
    have e2' := y5.at (upd_same (a := m2) (o := .tup [.int (lowP (fe.1 * 1 + wz * fe.2) (fe.2 * 1)).1, .int (lowP (fe.1 * 1 + wz * fe.2) (fe.2 * 1)).2]))
    have k0 := fok_sum (a0 := f0.1) (c0 := -we) o0.1 q0 (show (1 : Int) ≤ 1 by decide) (by decide)
    have ke := fok_sum (a0 := fe.1) (c0 := wz) oe.1 qe (show (1 : Int) ≤ 1 by decide) (by decide)
    have hFe0 := FrAt.cons (x := lowP (f0.1 * 1 + -we * f0.2) (f0.2 * 1)) e1 (FrAt.cons (x := lowP (fe.1 * 1 + wz * fe.2) (fe.2 * 1)) e2' (FrAt.nil _))
    generalize hH15 : upd (upd _ m2 (.tup [.int (lowP (fe.1 * 1 + wz * fe.2) (fe.2 * 1)).1, .int (lowP (fe.1 * 1 + wz * fe.2) (fe.2 * 1)).2])) en (.lst [.ref m1, .ref m2]) = H15 at y5 y15 e1 e2' hFe0 ⊢
    have hEn : H15 en = some (.lst ([m1, m2].map V.ref)) := by rw [← hH15]; exact upd_same
    have hRF := hRE.same y15
    have hX15 := hX13.same y15
    have okE : ∀ f ∈ [lowP (f0.1 * 1 + -we * f0.2) (f0.2 * 1), lowP (fe.1 * 1 + wz * fe.2) (fe.2 * 1)], 1 ≤ f.2 ∧ f.2 < 2 ^ 60 ∧ Int.gcd f.1 f.2 = 1 := fun f hf => by
      rcases List.mem_cons.mp hf with rfl | hf
      · exact k0
      · rw [List.mem_singleton.mp hf]; exact ke
    refine ⟨_, rfl, .inl ⟨rfl, _, SqL.of hRF.rl⟩, _, rfl, _, rfl, en, _, rfl, SqL.of hEn, fun c1 hc1 => ?_⟩
    obtain ⟨ra, ga, ea, hFa, hsa, hla⟩ := hFe0.cut none (some 1)
    obtain ⟨rb, gb, eb, hFb, hsb, hlb⟩ := hX15.fr.cut (some 1) (some (-1))
    obtain ⟨rc, gc, ec, hFc, hsc, hlc⟩ := hFe0.cut (some 1) none
    have la : ra.length ≤ 2 := by rw [hFa.1]; exact hla
    have lb : rb.length ≤ 63 := by rw [hFb.1]; omega
    have lc : rc.length ≤ 2 := by rw [hFc.1]; exact hlc
    rw [ea]
    have x1 := same_new hc1 (.lst (ra.map V.ref))
    refine ⟨_, rfl, _, rfl, _, rfl, _, rfl, r, _, rfl, SqL.of (x1.at hX15.rl), fun c2 hc2 => ?_⟩
    rw [eb]
    have x2 := same_new hc2 (.lst (rb.map V.ref))
    refine ⟨c1, c2, _, _, rfl, rfl, x2.at upd_same, upd_same, (by rw [List.length_map, List.length_map]; omega), fun c3 hc3 => ?_⟩
    have x3 := same_new hc3 (.lst (ra.map V.ref ++ rb.map V.ref))
    have x13 := x1.trans (x2.trans x3)
    refine ⟨_, rfl, _, rfl, en, _, rfl, SqL.of (x13.at hEn), fun c4 hc4 => ?_⟩
    rw [ec]
    have x4 := same_new hc4 (.lst (rc.map V.ref))
    refine ⟨c3, c4, _, _, rfl, rfl, x4.at upd_same, upd_same, (by rw [List.length_append, List.length_map, List.length_map, List.length_map]; omega), fun c5 hc5 => ?_⟩
    have x5 := same_new hc5 (.lst (ra.map V.ref ++ rb.map V.ref ++ rc.map V.ref))
    have x14 := x13.trans x4
    have x15 := x14.trans x5
    have hRG := hRF.same x15
    refine ⟨rw', _, _, rfl, rfl, hRG.rl, (by show 7 < sizeLine; exact small1000 (by omega)), ?_⟩
    have nc5 : c5 ≠ rw' := (ne_of_none ((hRF.same x14).rl) hc5).symm
    refine cont _ _ ⟨(t13.trans (y15.trans x15)).upd hrwn _, _, _, _, _, _, _, rfl, hRG.app nc5 ⟨ra ++ rb ++ rc, ga ++ gb ++ gc, ?_, ((hFa.app hFb).app hFc).same x15, fun f hf => ?_, ?_⟩⟩
    · rw [upd_same, List.map_append, List.map_append]
    · rcases List.mem_append.mp hf with hf | hf
      · rcases List.mem_append.mp hf with hf | hf
        · exact okE f (hsa f hf)
        · exact hok f (hsb f hf)
      · exact okE f (hsc f hf)
    · rw [List.length_append, List.length_append, ← hFa.1, ← hFb.1, ← hFc.1]; omega
end
end K1
set_option Elab.async false
set_option linter.all false
set_option maxRecDepth 100000
set_option maxHeartbeats 8000000
namespace K1
open PySem L2 Fr1 Up
section
seal L2.PE L2.PA L2.PT L2.PW L2.PS L2.PSs L2.PI L2.PG
variable {P : Program} {w : World} {K : PySem.W.Frag} {mg : Str → Option Value} {base : Heap} {f : Addr} {fd : FuncData} {c : CA}
theorem ok__law_bands_right (M : Bn mg) (F_upper : FnA P w K mg base "upper" ["numbers"] 5 spUp) (F_lower : FnA P w K mg base "lower" ["numbers"] 5 spLo) (F__law_bent : FnA P w K mg base "_law_bent" ["_law_row", "_law_script"] 1 (spBent K)) (F_Band___init__ : MakeA P w K mg base "Band" c.Band ["self", "lows", "highs"] 1 (spBaInit c)) (F_Band_shows : MethA P w K mg base c.Band "shows" ["self", "numbers", "most"] 5 (spBaShows c)) (F_Barred___init__ : MakeA P w K mg base "Barred" c.Barred ["self", "first", "second"] 1 (spBrInit c)) (F_Barred_shows : MethA P w K mg base c.Barred "shows" ["self", "numbers", "most"] 5 (spBrShows c)) (F__law_says : FnA P w K mg base "_law_says" ["_law_said", "_law_due"] 1 spSays) (C_Band : ClsA K mg "Band" c.Band) (N_Band : NaBand K c.Band) (C_Barred : ClsA K mg "Barred" c.Barred) (N_Barred : NaBarred K c.Barred) (F : Fun K "_law_bands_right" "_law_bands_right" s__law_bands_right f fd) : FnOk P w K mg base CX0 12 f fd ["_law_numbers_here", "_law_script"] (spTwoR K) := by
  refine F.ok sc__law_bands_right (fun vs H Q E h => ?_) (fun cdv A outer s H vs Q E hr h => ?_)
  · obtain ⟨a, b, ms, ns, rfl, _⟩ := h; rfl
  obtain ⟨a, b, ms, ns, rfl, hA, hB, h63, hl, q⟩ := h
  refine ⟨_, (pss_cons (ps_set (i := 2) sc__law_bands_right.nd rfl (Or.inr rfl) (pe_op op_mod (pe_callB (call_sumL rfl) rfl M.sum' PyProof.Rows.boot_sum (pa_cons (pv 1) pa_nil)) pe_int))
      (pss_cons (ps_par (i := 3) (j := 4) rfl sc__law_bands_right.nd rfl rfl (by decide) rfl rfl (pa_cons (pe_comp rfl (CompScope.one ["_law_number"] "_law_most" 2) (pi_list (pe_callA F_upper (hr.mono (by decide)) rfl (pa_cons (pv 0) pa_nil))) (fun _ _ _ _ _ => (pg_name (i := 0) (show (["_law_number", "_law_most"] : List Str).Nodup by decide +kernel) rfl (Or.inl rfl) (Or.inr rfl))) (fun _ _ _ _ _ => (pe_op op_sub (pv 0) (pv 1)))) (pa_cons (pe_comp rfl (CompScope.one ["_law_number"] "_law_most" 2) (pi_list (pe_callA F_lower (hr.mono (by decide)) rfl (pa_cons (pv 0) pa_nil))) (fun _ _ _ _ _ => (pg_name (i := 0) (show (["_law_number", "_law_most"] : List Str).Nodup by decide +kernel) rfl (Or.inl rfl) (Or.inr rfl))) (fun _ _ _ _ _ => (pe_op op_add (pv 0) (pv 1)))) pa_nil)) rfl)
      (pss_cons (ps_set (i := 5) sc__law_bands_right.nd rfl (Or.inl rfl) (pe_callB (call_allL rfl) rfl M.all' boot_allB (pa_cons (pe_comp rfl (CompScope.none ["_law_low_here", "_law_high"]) (pi_zip rfl M.zip' (pa_cons (pv 3) (pa_cons (pv 4) pa_nil))) (fun _ _ _ _ _ => (pg_two (K := K) (i := 0) (j := 1) rfl rfl (show (["_law_low_here", "_law_high"] : List Str).Nodup by decide +kernel) rfl rfl rfl rfl)) (fun _ _ _ _ _ => (pe_cmpR op_le (pv 0) (pv 1) (nomark _)))) pa_nil)))
      (pss_cons (ps_set (i := 6) sc__law_bands_right.nd rfl (Or.inl rfl) (pe_lst (pa_cons (pe_callA F__law_bent (hr.mono (by decide)) rfl (pa_cons (pv 3) (pa_cons (pv 1) pa_nil))) (pa_cons (pe_callA F__law_bent (hr.mono (by decide)) rfl (pa_cons (pv 4) (pa_cons (pv 1) pa_nil))) pa_nil))))
      (pss_cons (ps_for PassesOwn.never rfl (pi_list (pe_lst (pa_cons (pe_tup (pa_cons (pv 3) (pa_cons (pv 4) pa_nil))) (pa_cons (pe_tup (pa_cons (pv 4) (pa_cons (pv 3) pa_nil))) (pa_cons (pe_tup (pa_cons (pe_ix ix_list (pv 6) pe_int (fun _ _ => rfl)) (pa_cons (pv 4) pa_nil))) (pa_cons (pe_tup (pa_cons (pv 3) (pa_cons (pe_ix ix_list (pv 6) pe_int (fun _ _ => rfl)) pa_nil))) pa_nil)))))) (pg_two (K := K) (i := 7) (j := 8) rfl rfl sc__law_bands_right.nd rfl rfl rfl rfl) (pss_cons (ps_set (i := 9) sc__law_bands_right.nd rfl (Or.inl rfl) (pe_lst (pa_cons (pe_callTy call_list_of rfl M.list' boot_listT (pa_cons (pv 7) pa_nil)) (pa_cons (pe_callTy call_list_of rfl M.list' boot_listT (pa_cons (pv 8) pa_nil)) pa_nil))))
      (pss_cons (ps_set (i := 10) sc__law_bands_right.nd rfl (Or.inl rfl) (pe_makeA F_Band___init__ (hr.mono (by decide)) rfl (pa_cons (pe_ix ix_list (pv 9) pe_int (fun _ _ => rfl)) (pa_cons (pe_ix ix_list (pv 9) pe_int (fun _ _ => rfl)) pa_nil))))
      (pss_cons (ps_expr (pe_bm PySem.F.plainAttrs_list PySem.F.slot_list_append PySem.F.type_list_append mt_append (pe_ix ix_list (pv 9) pe_int (fun _ _ => rfl)) (pa_cons pe_int pa_nil)))
      (pss_cons (ps_expr (pe_bm PySem.F.plainAttrs_list PySem.F.slot_list_append PySem.F.type_list_append mt_append (pe_ix ix_list (pv 9) pe_int (fun _ _ => rfl)) (pa_cons pe_int pa_nil)))
      (pss_cons (ps_if (PW.pt (pw_or (pt_cmpR (op_neL hr.units) (pe_fld (pv 10) rfl) (pv 7) (nomark _)) (pw_or1 (pt_cmpR (op_neL hr.units) (pe_fld (pv 10) rfl) (pv 8) (nomark _))))) (pss_one (ps_ret pe_bl)) pss_nil)
      (pss_one (ps_if (pt_not (pt_val (pe_callA F__law_says (hr.mono (by decide)) rfl (pa_cons (pe_methA (pv 10) C_Band F_Band_shows (hr.mono (by decide)) (pa_cons (pv 0) (pa_cons (pv 2) pa_nil))) (pa_cons (pe_and (pv 5) (pe_and (pe_cmpR (op_eqLI hr.units) (pv 7) (pv 3) (nomark _)) (pe_one (pe_cmpR (op_eqLI hr.units) (pv 8) (pv 4) (nomark _))))) pa_nil))))) (pss_one (ps_ret pe_bl)) pss_nil))))))))
      (pss_cons (ps_for PassesOwn.never rfl (pi_list (pe_op (op_catS rfl) (pv 1) (pe_lst (pa_cons pe_int pa_nil)))) (pg_name (i := 11) sc__law_bands_right.nd rfl (Or.inl rfl) (Or.inl rfl)) (pss_cons (ps_par (i := 12) (j := 13) rfl sc__law_bands_right.nd rfl rfl (by decide) rfl rfl (pa_cons (pe_op op_sub (pe_op op_mod (pv 11) (pe_op op_add (pe_callB call_len_seq rfl M.len' PySem.boot_len (pa_cons (pv 1) pa_nil)) pe_int)) pe_int) (pa_cons (pe_op op_sub (pe_op op_mod (pe_op op_fdivB (pv 11) pe_int) (pe_op op_add (pe_callB call_len_seq rfl M.len' PySem.boot_len (pa_cons (pv 1) pa_nil)) pe_int)) pe_int) pa_nil)) rfl)
      (pss_cons (ps_set (i := 14) sc__law_bands_right.nd rfl (Or.inl rfl) (pe_and (pe_chain3 op_le op_lt op_lt pe_int (pv 12) (pv 13) (pe_callB call_len_seq rfl M.len' PySem.boot_len (pa_cons (pv 0) pa_nil))) (pe_one (pe_cmpR op_gt (pe_op op_sub (pe_ix ix_list (pv 0) (pv 12) (fun _ _ => rfl)) (pe_ix ix_list (pv 0) (pv 13) (fun _ _ => rfl))) (pe_op op_mul pe_int (pv 2)) (nomark _)))))
      (pss_one (ps_if (pt_not (pt_val (pe_callA F__law_says (hr.mono (by decide)) rfl (pa_cons (pe_methA (pe_makeA F_Barred___init__ (hr.mono (by decide)) rfl (pa_cons (pv 12) (pa_cons (pv 13) pa_nil))) C_Barred F_Barred_shows (hr.mono (by decide)) (pa_cons (pv 0) (pa_cons (pv 2) pa_nil))) (pa_cons (pv 14) pa_nil))))) (pss_one (ps_ret pe_bl)) pss_nil)))))
      (pss_one (ps_ret pe_bl)))))))), ?_⟩
  have hm0 : 0 ≤ ns.sum % 20 := Int.emod_nonneg _ (by decide)
  refine ⟨_, rfl, b, ns, rfl, hB, _, _, rfl, rfl, (by show (0 : Int) < 20; decide), ?_⟩
  generalize hmm : ns.sum % 20 = m at hm0
  dsimp only
  rw [hmm]
  refine ⟨_, rfl, a, ms, rfl, hA, by omega, fun pu H1 s1 hpu hPu => ⟨pu, rfl, ⟨_, SqL.of hPu⟩, ?_⟩⟩
  refine comp_list (xs := (upL ms).map V.int) (by rw [List.length_map, upL_length]; exact le1000 (by omega)) (fun i ys H' => H' = H1 ∧ ys = (((upL ms).take i).map fun x => x - m).map V.int) ⟨rfl, rfl⟩ (fun i ys H' _ h => by rw [h.1]; exact SqL.of hPu) ?_ ?_
  · rintro i x ys H' hx ⟨rfl, rfl⟩
    obtain ⟨z, hz, rfl⟩ := ints_at hx
    refine ⟨⟨rfl, rfl⟩, _, rfl, _, rfl, _, _, rfl, rfl, rfl, ?_⟩
    rw [map_snoc _ hz, List.map_append]; rfl
  rintro ys H1 ⟨rfl, rfl⟩ pU hpU
  rw [List.length_map, take_all]
  have u1 := same_new hpU (.lst (((upL ms).map fun x => x - m).map V.int))
  have s11 := s1.trans u1
  refine ⟨_, rfl, a, ms, rfl, s11.at hA, by omega, fun pl H2 s2 hpl hPl => ⟨pl, rfl, ⟨_, SqL.of hPl⟩, ?_⟩⟩
  refine comp_list (xs := (loL ms).map V.int) (by rw [List.length_map, loL_length]; exact le1000 (by omega)) (fun i ys H' => H' = H2 ∧ ys = (((loL ms).take i).map fun x => x + m).map V.int) ⟨rfl, rfl⟩ (fun i ys H' _ h => by rw [h.1]; exact SqL.of hPl) ?_ ?_
  · rintro i x ys H' hx ⟨rfl, rfl⟩
    obtain ⟨z, hz, rfl⟩ := ints_at hx
    refine ⟨⟨rfl, rfl⟩, _, rfl, _, rfl, _, _, rfl, rfl, rfl, ?_⟩
    rw [map_snoc _ hz, List.map_append]; rfl
  rintro ys H2 ⟨rfl, rfl⟩ pL hpL
  rw [List.length_map, take_all]
  have u2 := same_new hpL (.lst (((loL ms).map fun x => x + m).map V.int))
  have s12 := s11.trans (s2.trans u2)
  have hU : upd H2 pL (.lst (((loL ms).map fun x => x + m).map V.int)) pU = some (.lst ((UU ms m).map V.int)) := (s2.trans u2).at upd_same
  have hL : upd H2 pL (.lst (((loL ms).map fun x => x + m).map V.int)) pL = some (.lst ((LO ms m).map V.int)) := upd_same
  generalize upd H2 pL (.lst (((loL ms).map fun x => x + m).map V.int)) = H3 at u2 s12 hU hL ⊢
  have lU := UU_length ms m
  have lL := LO_length ms m
  refine ⟨_, _, rfl, ?_⟩
  refine ⟨_, rfl, _, rfl, pU, pL, rfl, ⟨_, SqL.of hU⟩, ⟨_, SqL.of hL⟩, ?_⟩
  refine comp_zip (xs := (UU ms m).map V.int) (zs := (LO ms m).map V.int) (by rw [List.length_map, lU]; exact le1000 (by omega)) (by rw [List.length_map, List.length_map, lU, lL]) (fun i ys H' => Same H3 H' ∧ ys = ((List.range i).map fun j => decide ((UU ms m).getD j 0 ≤ (LO ms m).getD j 0)).map V.bl) ⟨Same.refl _, rfl⟩
    (fun i ys H' _ h => ⟨SqL.of (h.1.at hU), SqL.of (h.1.at hL)⟩) ?_ ?_
  · rintro i x z ys H' t hx hz ⟨sm, rfl⟩ ht
    obtain ⟨u, hu, rfl⟩ := ints_at hx
    obtain ⟨v, hv, rfl⟩ := ints_at hz
    refine ⟨t, _, rfl, SqT.of upd_same, rfl, _, _, rfl, _, _, rfl, rfl, ⟨rfl, rfl⟩, _, rfl, _, rfl, _, _, rfl, rfl, sm.new ht _, ?_⟩
    rw [range_snoc, List.map_append, gd_of hu, gd_of hv]
    rfl
  rintro ys H4 ⟨s4, rfl⟩ D hD
  rw [List.length_map, lU]
  have s45 := s4.new hD (.lst (((List.range ms.length).map fun j => decide ((UU ms m).getD j 0 ≤ (LO ms m).getD j 0)).map V.bl))
  refine ⟨D, _, rfl, SqL.of upd_same, ?_⟩
  generalize hgood : ((List.range ms.length).map fun j => decide ((UU ms m).getD j 0 ≤ (LO ms m).getD j 0)).all (fun b => b) = good
  have hgd : goodB ms m = good := hgood
  generalize upd H4 D (.lst (((List.range ms.length).map fun j => decide ((UU ms m).getD j 0 ≤ (LO ms m).getD j 0)).map V.bl)) = H5 at s45 ⊢
  have s15 := s12.trans s45
  refine ⟨_, rfl, _, rfl, pU, b, UU ms m, ns, rfl, s45.at hU, s15.seq hB, by omega, h63, fun q0 o0 H6 s6 hq0 hQ0 hl0 => ?_⟩
  have s16 := s15.trans s6
  refine ⟨_, rfl, _, rfl, pL, b, LO ms m, ns, rfl, (s45.trans s6).at hL, s16.seq hB, by omega, h63, fun q1 o1 H7 s7 hq1 hQ1 hl1 => ?_⟩
  refine ⟨(by show 2 ≤ sizeLine; decide), fun bh hbh => ?_⟩
  have s8 := same_new hbh (.lst [.ref q0, .ref q1])
  generalize hH8 : upd H7 bh (.lst [.ref q0, .ref q1]) = H8 at s8 ⊢
  have hBh : H8 bh = some (.lst [.ref q0, .ref q1]) := by rw [← hH8]; exact upd_same
  have s38 := s45.trans (s6.trans (s7.trans s8))
  have s18 := s12.trans s38
  refine ⟨_, rfl, _, rfl, (by show 2 ≤ sizeLine; decide), fun t1 ht1 => ?_⟩
  have x1 := same_new ht1 (.tup [.ref pU, .ref pL])
  refine ⟨_, rfl, _, rfl, (by show 2 ≤ sizeLine; decide), fun t2 ht2 => ?_⟩
  have x2 := same_new ht2 (.tup [.ref pL, .ref pU])
  refine ⟨_, rfl, bh, _, 0, _, rfl, rfl, SqL.of ((x1.trans x2).at hBh), rfl, _, rfl, (by show 2 ≤ sizeLine; decide), fun t3 ht3 => ?_⟩
  have x3 := same_new ht3 (.tup [.ref q0, .ref pL])
  refine ⟨_, rfl, _, rfl, bh, _, 1, _, rfl, rfl, SqL.of ((x1.trans (x2.trans x3)).at hBh), rfl, (by show 2 ≤ sizeLine; decide), fun t4 ht4 => ⟨(by show 4 ≤ sizeLine; decide), fun lp hlp => ?_⟩⟩
  have x4 := same_new ht4 (.tup [.ref pU, .ref q1])
  have x5 := same_new hlp (.lst [.ref t1, .ref t2, .ref t3, .ref t4])
  have g1 := (x2.trans (x3.trans (x4.trans x5))).at (upd_same (H := H8) (a := t1) (o := .tup [.ref pU, .ref pL]))
  have g2 := (x3.trans (x4.trans x5)).at upd_same
  have g3 := (x4.trans x5).at upd_same
  have g4 := x5.at upd_same
  have x15 := x1.trans (x2.trans (x3.trans (x4.trans x5)))
  generalize hH9 : upd (upd (upd (upd (upd H8 t1 (.tup [.ref pU, .ref pL])) t2 (.tup [.ref pL, .ref pU])) t3 (.tup [.ref q0, .ref pL])) t4 (.tup [.ref pU, .ref q1])) lp (.lst [.ref t1, .ref t2, .ref t3, .ref t4]) = H9 at x5 x15 g1 g2 g3 g4 ⊢
  have hLp : H9 lp = some (.lst ([t1, t2, t3, t4].map V.ref)) := by rw [← hH9]; exact upd_same
  have s39 := s38.trans x15
  have s19 := s12.trans s39
  have hU9 := s39.at hU
  have hL9 := s39.at hL
  have hQ09 := (s7.trans (s8.trans x15)).at hQ0
  have hQ19 := (s8.trans x15).at hQ1
  have hPr : PrAt H9 [t1, t2, t3, t4] [(UU ms m, LO ms m), (LO ms m, UU ms m), (o0, LO ms m), (UU ms m, o1)] := .cons g1 hU9 hL9 (.cons g2 hL9 hU9 (.cons g3 hQ09 hL9 (.cons g4 hU9 hQ19 (.nil _))))
  have hPl' : ∀ pr ∈ [(UU ms m, LO ms m), (LO ms m, UU ms m), (o0, LO ms m), (UU ms m, o1)], pr.1.length ≤ 200 ∧ pr.2.length ≤ 200 := fun pr h => by
    simp only [List.mem_cons, List.not_mem_nil, or_false] at h
    rcases h with rfl | rfl | rfl | rfl <;> constructor <;> dsimp only <;> omega
  refine ⟨lp, rfl, ⟨_, SqL.of hLp⟩, ?_⟩
  refine for_list (xs := [t1, t2, t3, t4].map V.ref) (fun k σ H' => Same H9 H' ∧ ∃ v7 v8 v9 v10 v11 v12 v13 v14, σ = [some (.ref a), some (.ref b), some (.int m), some (.ref pU), some (.ref pL), some (.bl good), some (.ref bh), v7, v8, v9, v10, v11, v12, v13, v14]) ⟨Same.refl _, _, _, _, _, _, _, _, _, rfl⟩ (fun k σ H' _ h => SqL.of (h.1.at hLp)) ?_ ?_
  · rintro k y σ H10 hy ⟨sm, v7, v8, v9, v10, v11, v12, v13, v14, rfl⟩
    obtain ⟨u, hu, rfl⟩ := refs_at hy
    have hk : k < 4 := (List.getElem?_eq_some_iff.mp hu).1
    obtain ⟨pr, hpr⟩ := get_of (xs := [(UU ms m, LO ms m), (LO ms m, UU ms m), (o0, LO ms m), (UU ms m, o1)]) (i := k) hk
    obtain ⟨pa, pb, hTu, hxs, hps⟩ := (hPr.same sm).2 k u pr hu hpr
    obtain ⟨hxl, hpl2⟩ := hPl' pr (List.mem_of_getElem? hpr)
    obtain ⟨xs, ps⟩ := pr
    dsimp only at hxs hps hxl hpl2
    have s20 := s19.trans sm
    refine ⟨u, _, rfl, SqT.of hTu, rfl, _, _, rfl, _, _, rfl, rfl, ?_⟩
    refine ⟨_, rfl, pa, _, rfl, .inl (SqL.of hxs), fun h1 hh1 => ?_⟩
    have w1 := same_new hh1 (.lst (xs.map V.int))
    refine ⟨_, rfl, pb, _, rfl, .inl (SqL.of (w1.at hps)), fun h2 hh2 => ⟨(by show 2 ≤ sizeLine; decide), fun hd hhd => ?_⟩⟩
    have w2 := same_new hh2 (.lst (ps.map V.int))
    have w3 := same_new hhd (.lst [.ref h1, .ref h2])
    have w13 := w1.trans (w2.trans w3)
    have f1 := (w2.trans w3).at (upd_same (H := H10) (a := h1) (o := .lst (xs.map V.int)))
    have f2 := w3.at (upd_same (a := h2) (o := .lst (ps.map V.int)))
    have n2 : H10 h2 = none := w1.free hh2
    have n12 : h1 ≠ h2 := ne_of_none upd_same hh2
    have nd1 : h1 ≠ hd := ne_of_none (w2.at upd_same) hhd
    generalize hH11 : upd (upd (upd H10 h1 (.lst (xs.map V.int))) h2 (.lst (ps.map V.int))) hd (.lst [.ref h1, .ref h2]) = H11 at w3 w13 f1 f2 ⊢
    have hHd : H11 hd = some (.lst [.ref h1, .ref h2]) := by rw [← hH11]; exact upd_same
    refine ⟨_, rfl, hd, _, 0, _, rfl, rfl, SqL.of hHd, rfl, _, rfl, hd, _, 1, _, rfl, rfl, SqL.of hHd, rfl, fun x2 dx2 hx2 hdx2 hne2 => ?_⟩
    have w4 := same_own (C := c.Band) hx2 hdx2
    refine ⟨x2, h1, h2, dx2, xs, ps, rfl, upd_same, w4.at f1, w4.at f2, fun r' p' H12 hr' hp' _ hX2 kp => ⟨rfl, ?_⟩⟩
    have w5 := kp.same w4 hx2
    have g1 := w5.at f1
    have g2 := w5.at f2
    have g3 := w5.at hHd
    have a1 : r' ≠ h1 := (ne_of_none (w4.at f1) hr').symm
    have a2 : p' ≠ h1 := (ne_of_none (w4.at f1) hp').symm
    have a3 : r' ≠ h2 := (ne_of_none (w4.at f2) hr').symm
    have a4 : p' ≠ h2 := (ne_of_none (w4.at f2) hp').symm
    refine ⟨_, rfl, hd, _, 0, _, rfl, rfl, SqL.of g3, rfl, .inl ⟨rfl, _, SqL.of g1⟩, h1, _, _, rfl, rfl, g1, (by rw [List.length_map]; exact small1000 (by omega)), ?_⟩
    have g4 : upd H12 h1 (.lst (xs.map V.int ++ [.int 0])) hd = some (.lst [.ref h1, .ref h2]) := by rw [upd_ne nd1.symm]; exact g3
    have g5 : upd H12 h1 (.lst (xs.map V.int ++ [.int 0])) h2 = some (.lst (ps.map V.int)) := by rw [upd_ne n12.symm]; exact g2
    refine ⟨_, rfl, hd, _, 1, _, rfl, rfl, SqL.of g4, rfl, .inl ⟨rfl, _, SqL.of g5⟩, h2, _, _, rfl, rfl, g5, (by rw [List.length_map]; exact small1000 (by omega)), ?_⟩
    have hX3' := (hX2.upd g1 a1 a2 (.lst (xs.map V.int ++ [.int 0]))).upd g5 a3 a4 (.lst (ps.map V.int ++ [.int 0]))
    have w6 : Same H10 (upd (upd H12 h1 (.lst (xs.map V.int ++ [.int 0]))) h2 (.lst (ps.map V.int ++ [.int 0]))) := ((w13.trans w5).upd hh1 _).upd n2 _
    generalize upd (upd H12 h1 (.lst (xs.map V.int ++ [.int 0]))) h2 (.lst (ps.map V.int ++ [.int 0])) = H13 at hX3' w6 ⊢
    obtain ⟨dx3, fl3, ob3', k1, k2', k3⟩ := hX3'.ob
    refine ⟨_, rfl, x2, _, dx3, fl3, _, rfl, ob3', C_Band.cl, N_Band.l, k1, _, rfl, 1, true, by decide, EqL.same (SqL.of hX3'.ll) (SqL.of (w6.at hxs)) flat_ints, _, rfl, iteF ?_⟩
    refine ⟨_, rfl, x2, _, dx3, fl3, _, rfl, ob3', C_Band.cl, N_Band.h, k2', _, rfl, 1, true, by decide, EqL.same (SqL.of hX3'.hl) (SqL.of (w6.at hps)) flat_ints, _, rfl, iteF ?_⟩
    have s21 := s20.trans w6
    refine ⟨_, rfl, x2, dx3, fl3, rfl, ob3', k3, _, rfl, _, rfl, x2, a, r', p', ms, xs, ps, m, rfl, hX3', s21.at hA, by omega, by omega, by omega, hm0, fun b2 HB hb2 sB => ?_⟩
    rw [ba_iff, hgd] at hb2
    have sF := sm.trans (w6.trans sB)
    cases good with
    | false =>
      obtain rfl : b2 = false := by
        cases b2 with
        | false => rfl
        | true => have := (hb2.mp rfl).1; cases this
      exact ⟨_, rfl, false, rfl, iteF ⟨false, rfl, true, rfl, iteF ⟨sF, _, _, _, _, _, _, _, _, rfl⟩⟩⟩
    | true =>
      refine ⟨_, rfl, true, rfl, iteT ?_⟩
      refine ⟨_, rfl, _, rfl, pa, pU, xs, UU ms m, rfl, rfl, SqL.of ((w6.trans sB).at hxs), SqL.of (sF.at hU9), _, rfl, ?_⟩
      by_cases e1 : xs = UU ms m
      · refine iteDT e1 ?_
        refine ⟨_, rfl, _, rfl, pb, pL, ps, LO ms m, rfl, rfl, SqL.of ((w6.trans sB).at hps), SqL.of (sF.at hL9), ?_⟩
        have e2 : b2 = decide (ps = LO ms m) := by
          rw [Bool.eq_iff_iff, hb2, decide_eq_true_iff]
          exact ⟨fun z => z.2.2, fun z => ⟨rfl, e1, z⟩⟩
        exact ⟨b2, (by rw [e2]; rfl), true, rfl, iteF ⟨sF, _, _, _, _, _, _, _, _, rfl⟩⟩
      · refine iteDF e1 ?_
        obtain rfl : b2 = false := by
          cases b2 with
          | false => rfl
          | true => exact absurd (hb2.mp rfl).2.1 e1
        exact ⟨false, rfl, true, rfl, iteF ⟨sF, _, _, _, _, _, _, _, _, rfl⟩⟩
  · rintro σ H10 ⟨sm, v7, v8, v9, v10, v11, v12, v13, v14, rfl⟩
    have s20 := s19.trans sm
    refine ⟨_, rfl, (by show 1 ≤ sizeLine; decide), fun z1 hz1 => ?_⟩
    have y1 := same_new hz1 (.lst [.int 0])
    have z0 := le1000 (n := 1000) (Nat.le_refl _)
    refine ⟨b, z1, _, _, rfl, rfl, (s20.trans y1).seq hB, SqL.of upd_same, (by rw [List.length_map]; show _ + 1 ≤ _; omega), fun ls hls => ?_⟩
    have y2 := same_new hls (.lst (ns.map V.int ++ [.int 0]))
    have hLs : upd (upd H10 z1 (.lst [.int 0])) ls (.lst (ns.map V.int ++ [.int 0])) ls = some (.lst ((ns ++ [0]).map V.int)) := by rw [upd_same, List.map_append]; rfl
    have s21 := s20.trans (y1.trans y2)
    generalize upd (upd H10 z1 (.lst [.int 0])) ls (.lst (ns.map V.int ++ [.int 0])) = H11 at y2 hLs s21 ⊢
    refine ⟨ls, rfl, ⟨_, SqL.of hLs⟩, ?_⟩
    refine for_list (xs := (ns ++ [0]).map V.int) (fun k σ H' => Same H11 H' ∧ ∃ v7 v8 v9 v10 v11 v12 v13 v14, σ = [some (.ref a), some (.ref b), some (.int m), some (.ref pU), some (.ref pL), some (.bl good), some (.ref bh), v7, v8, v9, v10, v11, v12, v13, v14]) ⟨Same.refl _, _, _, _, _, _, _, _, _, rfl⟩ (fun k σ H' _ h => SqL.of (h.1.at hLs)) ?_ ?_
    · rintro k y σ H12 hy ⟨sm2, v7, v8, v9, v10, v11, v12, v13, v14, rfl⟩
      obtain ⟨cl, _, rfl⟩ := ints_at hy
      have s22 := s21.trans sm2
      have hA12 := s22.at hA
      refine ⟨_, rfl, _, rfl, b, _, rfl, .inl (s22.seq hB), _, _, rfl, rfl, _, _, rfl, rfl, (by show (0 : Int) < (((ns.map V.int).length : Nat) : Int) + 2; omega), _, _, rfl, rfl, ?_⟩
      refine ⟨_, rfl, _, _, rfl, rfl, ⟨by decide, by decide⟩, _, rfl, b, _, rfl, .inl (s22.seq hB), _, _, rfl, rfl, _, _, rfl, rfl, (by show (0 : Int) < (((ns.map V.int).length : Nat) : Int) + 2; omega), _, _, rfl, rfl, ⟨_, _, rfl, ?_⟩⟩
      dsimp only [gName]
      generalize cl % ((((ns.map V.int).length : Nat) : Int) + 2) - 1 = ff
      generalize cl / 7 % ((((ns.map V.int).length : Nat) : Int) + 2) - 1 = ss
      refine seq_with (fun σ' H1 => H1 = H12 ∧ ∃ due : Bool, (due = true ↔ BrP ms ff ss m) ∧ σ' = [some (.ref a), some (.ref b), some (.int m), some (.ref pU), some (.ref pL), some (.bl good), some (.ref bh), v7, v8, v9, v10, some (.int cl), some (.int ff), some (.int ss), some (.bl due)]) ?_ (fun cont => ?_)
      · rintro σ' H1 ⟨rfl, due, hdue, rfl⟩
        refine ⟨_, rfl, _, rfl, fun x2 dx2 hx2 hdx2 hne2 => ?_⟩
        have w4 := same_own (C := c.Barred) hx2 hdx2
        refine ⟨x2, dx2, ff, ss, rfl, upd_same, fun H13 hX2 kp => ⟨rfl, ?_⟩⟩
        have w5 := kp.same w4 hx2
        obtain ⟨dx3, fl3, ob3, k1, k2, k3⟩ := hX2.ob
        refine ⟨x2, dx3, fl3, rfl, ob3, k3, _, rfl, _, rfl, x2, a, ms, ff, ss, m, rfl, hX2, (s22.trans w5).at hA, by omega, hm0, fun b2 HB hb2 sB => ?_⟩
        obtain rfl : b2 = due := by rw [Bool.eq_iff_iff, hdue, hb2]
        exact ⟨_, rfl, b2, rfl, true, rfl, iteF ⟨sm2.trans (w5.trans sB), _, _, _, _, _, _, _, _, rfl⟩⟩
      · refine ⟨_, rfl, _, _, rfl, rfl, _, rfl, iteD (fun g1 => ?_) (fun g1 => ⟨_, rfl, iteF (cont _ _ ⟨rfl, false, ff_iff fun z => g1 z.f0, rfl⟩)⟩)⟩
        refine ⟨_, rfl, _, _, rfl, rfl, _, rfl, iteD (fun g2 => ?_) (fun g2 => ⟨_, rfl, iteF (cont _ _ ⟨rfl, false, ff_iff fun z => g2 z.fs, rfl⟩)⟩)⟩
        refine ⟨_, rfl, a, _, rfl, .inl (SqL.of hA12), _, _, rfl, rfl, _, rfl, iteD (fun g3 => ?_) (fun g3 => cont _ _ ⟨rfl, false, ff_iff fun z => g3 (by rw [List.length_map]; exact z.sl), rfl⟩)⟩
        rw [List.length_map] at g3
        refine ⟨_, rfl, _, rfl, a, _, _, _, rfl, rfl, SqL.of hA12, atI_gd (i := ff.toNat) (by omega) (by omega), _, rfl, _, rfl, a, _, _, _, rfl, rfl, SqL.of hA12, atI_gd (i := ss.toNat) (by omega) (by omega), _, _, rfl, rfl, _, rfl, _, _, rfl, rfl, .inl ⟨by decide, by decide⟩, _, _, rfl, rfl, cont _ _ ⟨rfl, _, ?_, rfl⟩⟩
        rw [decide_eq_true_iff]
        exact ⟨fun z => ⟨g1, g2, g3, z⟩, fun z => z.gt⟩
    · rintro σ H12 ⟨sm2, v7, v8, v9, v10, v11, v12, v13, v14, rfl⟩
      exact q H12 (s21.trans sm2)
end
end K1
set_option Elab.async false
set_option linter.all false
set_option maxRecDepth 100000
set_option maxHeartbeats 8000000
namespace K1
open PySem L2 Fr1 Up
section
seal L2.PE L2.PA L2.PT L2.PW L2.PS L2.PSs L2.PI L2.PG
variable {P : Program} {w : World} {K : PySem.W.Frag} {mg : Str → Option Value} {base : Heap} {f : Addr} {fd : FuncData} {c : CA}
theorem ok__law_few_right (M : Bn mg) (F_Summed___init__ : MakeA P w K mg base "Summed" c.Summed ["self", "row", "pulls"] 1 (spSuInit c)) (F_Summed_shows : MethA P w K mg base c.Summed "shows" ["self", "numbers", "weights"] 8 (spSuShows c)) (F_Squared___init__ : MakeA P w K mg base "Squared" c.Squared ["self", "row"] 1 (spSqInit c)) (F_Squared_shows : MethA P w K mg base c.Squared "shows" ["self", "numbers", "weights"] 6 (spSqShows c)) (F__law_says : FnA P w K mg base "_law_says" ["_law_said", "_law_due"] 1 spSays) (C_Summed : ClsA K mg "Summed" c.Summed) (C_Squared : ClsA K mg "Squared" c.Squared) (F : Fun K "_law_few_right" "_law_few_right" s__law_few_right f fd) : FnOk P w K mg base CX0 12 f fd [] spFew := by
  refine F.ok sc__law_few_right (fun vs H Q E h => ?_) (fun cdv A outer s H vs Q E hr h => ?_)
  · obtain ⟨rfl, _⟩ := h; rfl
  obtain ⟨rfl, q⟩ := h
  refine ⟨_, (pss_cons (ps_set (i := 0) sc__law_few_right.nd rfl (Or.inl rfl) (pe_lst (pa_consT (pe_tup (pa_consL (pe_lst (pa_consK pe_int (pa_consK pe_int pa_nil))) (pa_consL (pe_lst (pa_consU (pe_un un_neg pe_int) (pa_consK pe_int pa_nil))) (pa_consK pe_bl pa_nil)))) (pa_consT (pe_tup (pa_consL (pe_lst (pa_consK pe_int (pa_consK pe_int pa_nil))) (pa_consL (pe_lst (pa_consK pe_int (pa_consU (pe_un un_neg pe_int) pa_nil))) (pa_consK pe_bl pa_nil)))) (pa_consT (pe_tup (pa_consL (pe_lst (pa_consK pe_int (pa_consK pe_int pa_nil))) (pa_consL (pe_lst (pa_consK pe_int (pa_consU (pe_un un_neg pe_int) pa_nil))) (pa_consK pe_bl pa_nil)))) (pa_consT (pe_tup (pa_consL (pe_lst (pa_consK pe_int (pa_consK pe_int pa_nil))) (pa_consL (pe_lst (pa_consK pe_int (pa_consK pe_int pa_nil))) (pa_consK pe_bl pa_nil)))) pa_nil))))))
      (pss_cons (ps_for PassesOwn.never rfl (pi_list (pv 0)) (pg_three (K := K) (i := 1) (j := 2) (l := 3) rfl rfl sc__law_few_right.nd rfl rfl rfl rfl rfl rfl) (pss_one (ps_if (pt_not (pt_val (pe_callA F__law_says (hr.mono (by decide)) rfl (pa_cons (pe_methA (pe_makeA F_Summed___init__ (hr.mono (by decide)) rfl (pa_cons (pv 1) (pa_cons (pv 2) pa_nil))) C_Summed F_Summed_shows (hr.mono (by decide)) (pa_consL (pe_lst (pa_consK pe_int (pa_consK pe_int pa_nil))) (pa_consL (pe_lst (pa_consK pe_int (pa_consK pe_int pa_nil))) pa_nil))) (pa_cons (pv 3) pa_nil))))) (pss_one (ps_ret pe_bl)) pss_nil)))
      (pss_cons (ps_if (pt_not (pt_val (pe_callA F__law_says (hr.mono (by decide)) rfl (pa_cons (pe_methA (pe_makeA F_Summed___init__ (hr.mono (by decide)) rfl (pa_consL (pe_lst (pa_consK pe_int pa_nil)) (pa_consL (pe_lst (pa_consK pe_int pa_nil)) pa_nil))) C_Summed F_Summed_shows (hr.mono (by decide)) (pa_consL (pe_lst (pa_consK pe_int pa_nil)) (pa_consL (pe_lst (pa_consK pe_int pa_nil)) pa_nil))) (pa_consK pe_bl pa_nil))))) (pss_one (ps_ret pe_bl)) pss_nil)
      (pss_cons (ps_set (i := 0) sc__law_few_right.nd rfl (Or.inl rfl) (pe_lst (pa_consT (pe_tup (pa_consL (pe_lst (pa_consT (pe_tup (pa_consK pe_int (pa_consK pe_int pa_nil))) (pa_consT (pe_tup (pa_consK pe_int (pa_consK pe_int pa_nil))) pa_nil))) (pa_consK pe_bl pa_nil))) (pa_consT (pe_tup (pa_consL (pe_lst (pa_consT (pe_tup (pa_consK pe_int (pa_consK pe_int pa_nil))) (pa_consT (pe_tup (pa_consK pe_int (pa_consK pe_int pa_nil))) pa_nil))) (pa_consK pe_bl pa_nil))) (pa_consT (pe_tup (pa_consL (pe_lst (pa_consT (pe_tup (pa_consU (pe_un un_neg pe_int) (pa_consK pe_int pa_nil))) (pa_consT (pe_tup (pa_consK pe_int (pa_consK pe_int pa_nil))) pa_nil))) (pa_consK pe_bl pa_nil))) (pa_consT (pe_tup (pa_consL (pe_lst (pa_consT (pe_tup (pa_consK pe_int (pa_consK pe_int pa_nil))) (pa_consT (pe_tup (pa_consK pe_int (pa_consK pe_int pa_nil))) pa_nil))) (pa_consK pe_bl pa_nil))) pa_nil))))))
      (pss_cons (ps_for PassesOwn.never rfl (pi_list (pv 0)) (pg_two (K := K) (i := 1) (j := 3) rfl rfl sc__law_few_right.nd rfl rfl rfl rfl) (pss_one (ps_if (pt_not (pt_val (pe_callA F__law_says (hr.mono (by decide)) rfl (pa_cons (pe_methA (pe_makeA F_Squared___init__ (hr.mono (by decide)) rfl (pa_cons (pv 1) pa_nil)) C_Squared F_Squared_shows (hr.mono (by decide)) (pa_consL (pe_lst (pa_consK pe_int (pa_consK pe_int pa_nil))) (pa_consL (pe_lst (pa_consK pe_int (pa_consK pe_int pa_nil))) pa_nil))) (pa_cons (pv 3) pa_nil))))) (pss_one (ps_ret pe_bl)) pss_nil)))
      (pss_one (ps_ret (pe_callA F__law_says (hr.mono (by decide)) rfl (pa_cons (pe_methA (pe_makeA F_Squared___init__ (hr.mono (by decide)) rfl (pa_consL (pe_lst (pa_consT (pe_tup (pa_consK pe_int (pa_consK pe_int pa_nil))) (pa_consT (pe_tup (pa_consK pe_int (pa_consK pe_int pa_nil))) pa_nil))) pa_nil)) C_Squared F_Squared_shows (hr.mono (by decide)) (pa_consL (pe_lst (pa_consK pe_int (pa_consK pe_int pa_nil))) (pa_consL (pe_lst (pa_consK pe_int (pa_consK pe_int pa_nil))) pa_nil))) (pa_consK pe_bl pa_nil)))))))))), ?_⟩
  refine ⟨(by show 2 ≤ sizeLine; decide), fun l1 hl1 => ⟨_, rfl, (by show 2 ≤ sizeLine; decide), fun m1 hm1 => ⟨(by show 3 ≤ sizeLine; decide), fun t1 ht1 => ?_⟩⟩⟩
  have a1 := same_new hl1 (.lst [.int 0, .int 0])
  have b1 := same_new hm1 (.lst [.int (-1), .int 1])
  have c1 := same_new ht1 (.tup [.ref l1, .ref m1, .bl false])
  have d1 := a1.trans (b1.trans c1)
  have k1 : TriOk (upd (upd (upd H l1 (.lst [.int 0, .int 0])) m1 (.lst [.int (-1), .int 1])) t1 (.tup [.ref l1, .ref m1, .bl false])) t1 := ⟨l1, m1, [0, 0], [-1, 1], false, upd_same, (b1.trans c1).at upd_same, c1.at upd_same, by decide, by decide, ff_iff su1⟩
  generalize upd (upd (upd H l1 (.lst [.int 0, .int 0])) m1 (.lst [.int (-1), .int 1])) t1 (.tup [.ref l1, .ref m1, .bl false]) = G1 at c1 d1 k1 ⊢
  refine ⟨(by show 2 ≤ sizeLine; decide), fun l2 hl2 => ⟨_, rfl, (by show 2 ≤ sizeLine; decide), fun m2 hm2 => ⟨(by show 3 ≤ sizeLine; decide), fun t2 ht2 => ?_⟩⟩⟩
  have a2 := same_new hl2 (.lst [.int 0, .int 0])
  have b2 := same_new hm2 (.lst [.int 5, .int (-5)])
  have c2 := same_new ht2 (.tup [.ref l2, .ref m2, .bl false])
  have d2 := a2.trans (b2.trans c2)
  have k2 : TriOk (upd (upd (upd G1 l2 (.lst [.int 0, .int 0])) m2 (.lst [.int 5, .int (-5)])) t2 (.tup [.ref l2, .ref m2, .bl false])) t2 := ⟨l2, m2, [0, 0], [5, -5], false, upd_same, (b2.trans c2).at upd_same, c2.at upd_same, by decide, by decide, ff_iff su2⟩
  generalize upd (upd (upd G1 l2 (.lst [.int 0, .int 0])) m2 (.lst [.int 5, .int (-5)])) t2 (.tup [.ref l2, .ref m2, .bl false]) = G2 at c2 d2 k2 ⊢
  refine ⟨(by show 2 ≤ sizeLine; decide), fun l3 hl3 => ⟨_, rfl, (by show 2 ≤ sizeLine; decide), fun m3 hm3 => ⟨(by show 3 ≤ sizeLine; decide), fun t3 ht3 => ?_⟩⟩⟩
  have a3 := same_new hl3 (.lst [.int 0, .int 0])
  have b3 := same_new hm3 (.lst [.int 1, .int (-1)])
  have c3 := same_new ht3 (.tup [.ref l3, .ref m3, .bl true])
  have d3 := a3.trans (b3.trans c3)
  have k3 : TriOk (upd (upd (upd G2 l3 (.lst [.int 0, .int 0])) m3 (.lst [.int 1, .int (-1)])) t3 (.tup [.ref l3, .ref m3, .bl true])) t3 := ⟨l3, m3, [0, 0], [1, -1], true, upd_same, (b3.trans c3).at upd_same, c3.at upd_same, by decide, by decide, tt_iff su3⟩
  generalize upd (upd (upd G2 l3 (.lst [.int 0, .int 0])) m3 (.lst [.int 1, .int (-1)])) t3 (.tup [.ref l3, .ref m3, .bl true]) = G3 at c3 d3 k3 ⊢
  refine ⟨(by show 2 ≤ sizeLine; decide), fun l4 hl4 => ⟨(by show 2 ≤ sizeLine; decide), fun m4 hm4 => ⟨(by show 3 ≤ sizeLine; decide), fun t4 ht4 => ?_⟩⟩⟩
  have a4 := same_new hl4 (.lst [.int 0, .int 1])
  have b4 := same_new hm4 (.lst [.int 0, .int 0])
  have c4 := same_new ht4 (.tup [.ref l4, .ref m4, .bl false])
  have d4 := a4.trans (b4.trans c4)
  have k4 : TriOk (upd (upd (upd G3 l4 (.lst [.int 0, .int 1])) m4 (.lst [.int 0, .int 0])) t4 (.tup [.ref l4, .ref m4, .bl false])) t4 := ⟨l4, m4, [0, 1], [0, 0], false, upd_same, (b4.trans c4).at upd_same, c4.at upd_same, by decide, by decide, ff_iff su4⟩
  generalize upd (upd (upd G3 l4 (.lst [.int 0, .int 1])) m4 (.lst [.int 0, .int 0])) t4 (.tup [.ref l4, .ref m4, .bl false]) = G4 at c4 d4 k4 ⊢
  refine ⟨(by show 4 ≤ sizeLine; decide), fun so hso => ?_⟩
  have d5 := same_new hso (.lst [.ref t1, .ref t2, .ref t3, .ref t4])
  generalize hG5 : upd G4 so (.lst [.ref t1, .ref t2, .ref t3, .ref t4]) = G5 at d5 ⊢
  have hSo : G5 so = some (.lst ([t1, t2, t3, t4].map V.ref)) := by rw [← hG5]; exact upd_same
  have hTri : ∀ t ∈ [t1, t2, t3, t4], TriOk G5 t := fun t ht => by
    simp only [List.mem_cons, List.not_mem_nil, or_false] at ht
    rcases ht with rfl | rfl | rfl | rfl
    · exact k1.same (d2.trans (d3.trans (d4.trans d5)))
    · exact k2.same (d3.trans (d4.trans d5))
    · exact k3.same (d4.trans d5)
    · exact k4.same d5
  refine ⟨_, rfl, so, rfl, ⟨_, SqL.of hSo⟩, ?_⟩
  refine for_list (xs := [t1, t2, t3, t4].map V.ref) (fun k σ H' => Same G5 H' ∧ ∃ v1 v2 v3, σ = [some (.ref so), v1, v2, v3]) ⟨Same.refl _, _, _, _, rfl⟩ (fun k σ H' _ h => SqL.of (h.1.at hSo)) ?_ ?_
  · rintro k y σ H7 hy ⟨sm, v1, v2, v3, rfl⟩
    obtain ⟨t, ht, rfl⟩ := refs_at hy
    obtain ⟨la, lb, row, pulls, due, hT, hLa, hLb, hrl, hpl, hdue⟩ := (hTri t (List.mem_of_getElem? ht)).same sm
    refine ⟨t, _, rfl, SqT.of hT, rfl, _, _, rfl, _, _, rfl, _, _, rfl, rfl, ?_⟩
    refine ⟨_, rfl, _, rfl, fun x2 dx2 hx2 hdx2 hne2 => ?_⟩
    have w4 := same_own (C := c.Summed) hx2 hdx2
    refine ⟨x2, la, lb, dx2, row, pulls, rfl, upd_same, w4.at hLa, w4.at hLb, fun r' p' H12 hr' hp' _ hX2 kp => ⟨rfl, ?_⟩⟩
    have w5 := kp.same w4 hx2
    obtain ⟨dx3, fl3, ob3, k1', k2', k3'⟩ := hX2.ob
    refine ⟨x2, dx3, fl3, rfl, ob3, k3', (by show 2 ≤ sizeLine; decide), fun na hna => ⟨(by show 2 ≤ sizeLine; decide), fun wa hwa => ?_⟩⟩
    have e1 := same_new hna (.lst [.int 0, .int 0])
    have e2 := same_new hwa (.lst [.int 1, .int 1])
    refine ⟨x2, na, wa, r', p', [0, 0], [1, 1], row, pulls, rfl, hX2.same (e1.trans e2), e2.at upd_same, upd_same, by decide, by omega, by omega, rfl, wok2, fun b2 HB hb2 sB => ?_⟩
    obtain rfl : b2 = due := by rw [Bool.eq_iff_iff, hdue, hb2]
    exact ⟨_, rfl, b2, rfl, true, rfl, iteF ⟨sm.trans (w5.trans (e1.trans (e2.trans sB))), _, _, _, rfl⟩⟩
  rintro σ H7 ⟨sm, v1, v2, v3, rfl⟩
  refine ⟨(by show 1 ≤ sizeLine; decide), fun l6 hl6 => ⟨(by show 1 ≤ sizeLine; decide), fun m6 hm6 => ?_⟩⟩
  have a6 := same_new hl6 (.lst [.int 0])
  have b6 := same_new hm6 (.lst [.int 1])
  refine fun x2 dx2 hx2 hdx2 hne2 => ?_
  have w4 := same_own (C := c.Summed) hx2 hdx2
  refine ⟨x2, l6, m6, dx2, [0], [1], rfl, upd_same, w4.at (b6.at upd_same), w4.at upd_same, fun r' p' H12 hr' hp' _ hX2 kp => ⟨rfl, ?_⟩⟩
  obtain ⟨dx3, fl3, ob3, k1', k2', k3'⟩ := hX2.ob
  refine ⟨x2, dx3, fl3, rfl, ob3, k3', (by show 1 ≤ sizeLine; decide), fun na hna => ⟨(by show 1 ≤ sizeLine; decide), fun wa hwa => ?_⟩⟩
  have e1 := same_new hna (.lst [.int 0])
  have e2 := same_new hwa (.lst [.int 1])
  refine ⟨x2, na, wa, r', p', [0], [1], [0], [1], rfl, hX2.same (e1.trans e2), e2.at upd_same, upd_same, by decide, by decide, by decide, rfl, wok1, fun b2 HB hb2 sB => ?_⟩
  obtain rfl : b2 = false := by
    cases b2 with
    | false => rfl
    | true => exact absurd (hb2.mp rfl) su5
  refine ⟨false, rfl, true, rfl, iteF ?_⟩
  refine ⟨(by show 2 ≤ sizeLine; decide), fun p1 hp1 => ⟨(by show 2 ≤ sizeLine; decide), fun r1 hr1 => ⟨(by show 2 ≤ sizeLine; decide), fun l1 hl1 => ⟨(by show 2 ≤ sizeLine; decide), fun t1 ht1 => ?_⟩⟩⟩⟩
  have a1 := same_new hp1 (.tup [.int 1, .int 1])
  have b1 := same_new hr1 (.tup [.int 1, .int 1])
  have c1 := same_new hl1 (.lst [.ref p1, .ref r1])
  have e1 := same_new ht1 (.tup [.ref l1, .bl false])
  have d1 := a1.trans (b1.trans (c1.trans e1))
  have k1 : DuoOk (upd (upd (upd (upd HB p1 (.tup [.int 1, .int 1])) r1 (.tup [.int 1, .int 1])) l1 (.lst [.ref p1, .ref r1])) t1 (.tup [.ref l1, .bl false])) t1 := ⟨l1, [p1, r1], [(1, 1), (1, 1)], false, upd_same, e1.at upd_same, .cons ((b1.trans (c1.trans e1)).at upd_same) (.cons ((c1.trans e1).at upd_same) (FrAt.nil _)), fok2 _ _, by decide, ff_iff sq1⟩
  generalize upd (upd (upd (upd HB p1 (.tup [.int 1, .int 1])) r1 (.tup [.int 1, .int 1])) l1 (.lst [.ref p1, .ref r1])) t1 (.tup [.ref l1, .bl false]) = F1 at d1 k1 ⊢
  refine ⟨(by show 2 ≤ sizeLine; decide), fun p2 hp2 => ⟨(by show 2 ≤ sizeLine; decide), fun r2 hr2 => ⟨(by show 2 ≤ sizeLine; decide), fun l2 hl2 => ⟨(by show 2 ≤ sizeLine; decide), fun t2 ht2 => ?_⟩⟩⟩⟩
  have a2 := same_new hp2 (.tup [.int 0, .int 1])
  have b2 := same_new hr2 (.tup [.int 2, .int 1])
  have c2 := same_new hl2 (.lst [.ref p2, .ref r2])
  have e2 := same_new ht2 (.tup [.ref l2, .bl true])
  have d2 := a2.trans (b2.trans (c2.trans e2))
  have k2 : DuoOk (upd (upd (upd (upd F1 p2 (.tup [.int 0, .int 1])) r2 (.tup [.int 2, .int 1])) l2 (.lst [.ref p2, .ref r2])) t2 (.tup [.ref l2, .bl true])) t2 := ⟨l2, [p2, r2], [(0, 1), (2, 1)], true, upd_same, e2.at upd_same, .cons ((b2.trans (c2.trans e2)).at upd_same) (.cons ((c2.trans e2).at upd_same) (FrAt.nil _)), fok2 _ _, by decide, tt_iff sq2⟩
  generalize upd (upd (upd (upd F1 p2 (.tup [.int 0, .int 1])) r2 (.tup [.int 2, .int 1])) l2 (.lst [.ref p2, .ref r2])) t2 (.tup [.ref l2, .bl true]) = F2 at d2 k2 ⊢
  refine ⟨_, rfl, (by show 2 ≤ sizeLine; decide), fun p3 hp3 => ⟨(by show 2 ≤ sizeLine; decide), fun r3 hr3 => ⟨(by show 2 ≤ sizeLine; decide), fun l3 hl3 => ⟨(by show 2 ≤ sizeLine; decide), fun t3 ht3 => ?_⟩⟩⟩⟩
  have a3 := same_new hp3 (.tup [.int (-1), .int 1])
  have b3 := same_new hr3 (.tup [.int 3, .int 1])
  have c3 := same_new hl3 (.lst [.ref p3, .ref r3])
  have e3 := same_new ht3 (.tup [.ref l3, .bl false])
  have d3 := a3.trans (b3.trans (c3.trans e3))
  have k3 : DuoOk (upd (upd (upd (upd F2 p3 (.tup [.int (-1), .int 1])) r3 (.tup [.int 3, .int 1])) l3 (.lst [.ref p3, .ref r3])) t3 (.tup [.ref l3, .bl false])) t3 := ⟨l3, [p3, r3], [((-1), 1), (3, 1)], false, upd_same, e3.at upd_same, .cons ((b3.trans (c3.trans e3)).at upd_same) (.cons ((c3.trans e3).at upd_same) (FrAt.nil _)), fok2 _ _, by decide, ff_iff sq3⟩
  generalize upd (upd (upd (upd F2 p3 (.tup [.int (-1), .int 1])) r3 (.tup [.int 3, .int 1])) l3 (.lst [.ref p3, .ref r3])) t3 (.tup [.ref l3, .bl false]) = F3 at d3 k3 ⊢
  refine ⟨(by show 2 ≤ sizeLine; decide), fun p4 hp4 => ⟨(by show 2 ≤ sizeLine; decide), fun r4 hr4 => ⟨(by show 2 ≤ sizeLine; decide), fun l4 hl4 => ⟨(by show 2 ≤ sizeLine; decide), fun t4 ht4 => ?_⟩⟩⟩⟩
  have a4 := same_new hp4 (.tup [.int 2, .int 1])
  have b4 := same_new hr4 (.tup [.int 0, .int 1])
  have c4 := same_new hl4 (.lst [.ref p4, .ref r4])
  have e4 := same_new ht4 (.tup [.ref l4, .bl false])
  have d4 := a4.trans (b4.trans (c4.trans e4))
  have k4 : DuoOk (upd (upd (upd (upd F3 p4 (.tup [.int 2, .int 1])) r4 (.tup [.int 0, .int 1])) l4 (.lst [.ref p4, .ref r4])) t4 (.tup [.ref l4, .bl false])) t4 := ⟨l4, [p4, r4], [(2, 1), (0, 1)], false, upd_same, e4.at upd_same, .cons ((b4.trans (c4.trans e4)).at upd_same) (.cons ((c4.trans e4).at upd_same) (FrAt.nil _)), fok2 _ _, by decide, ff_iff sq4⟩
  generalize upd (upd (upd (upd F3 p4 (.tup [.int 2, .int 1])) r4 (.tup [.int 0, .int 1])) l4 (.lst [.ref p4, .ref r4])) t4 (.tup [.ref l4, .bl false]) = F4 at d4 k4 ⊢
  refine ⟨(by show 4 ≤ sizeLine; decide), fun so2 hso2 => ?_⟩
  have d6 := same_new hso2 (.lst [.ref t1, .ref t2, .ref t3, .ref t4])
  generalize hF6 : upd F4 so2 (.lst [.ref t1, .ref t2, .ref t3, .ref t4]) = F6 at d6 ⊢
  have hSo2 : F6 so2 = some (.lst ([t1, t2, t3, t4].map V.ref)) := by rw [← hF6]; exact upd_same
  have hDuo : ∀ t ∈ [t1, t2, t3, t4], DuoOk F6 t := fun t ht => by
    simp only [List.mem_cons, List.not_mem_nil, or_false] at ht
    rcases ht with rfl | rfl | rfl | rfl
    · exact k1.same (d2.trans (d3.trans (d4.trans d6)))
    · exact k2.same (d3.trans (d4.trans d6))
    · exact k3.same (d4.trans d6)
    · exact k4.same d6
  refine ⟨_, rfl, so2, rfl, ⟨_, SqL.of hSo2⟩, ?_⟩
  refine for_list (xs := [t1, t2, t3, t4].map V.ref) (fun k σ H' => Same F6 H' ∧ ∃ v1 v2 v3, σ = [some (.ref so2), v1, v2, v3]) ⟨Same.refl _, _, _, _, rfl⟩ (fun k σ H' _ h => SqL.of (h.1.at hSo2)) ?_ ?_
  · rintro k y σ H7 hy ⟨sm, v1, v2, v3, rfl⟩
    obtain ⟨t, ht, rfl⟩ := refs_at hy
    obtain ⟨la, rs, fs, due, hT, hLa, hFr, hok, hfl, hdue⟩ := (hDuo t (List.mem_of_getElem? ht)).same sm
    refine ⟨t, _, rfl, SqT.of hT, rfl, _, _, rfl, _, _, rfl, rfl, ?_⟩
    refine ⟨_, rfl, fun x2 dx2 hx2 hdx2 hne2 => ?_⟩
    have w4 := same_own (C := c.Squared) hx2 hdx2
    refine ⟨x2, la, dx2, rs, fs, rfl, upd_same, w4.at hLa, hFr.same w4, fun l' H12 hl' hX2 kp => ⟨rfl, ?_⟩⟩
    have w5 := kp.same w4 hx2
    obtain ⟨dx3, fl3, ob3, k1', k2'⟩ := hX2.ob
    refine ⟨x2, dx3, fl3, rfl, ob3, k2', (by show 2 ≤ sizeLine; decide), fun na hna => ⟨(by show 2 ≤ sizeLine; decide), fun wa hwa => ?_⟩⟩
    have e1 := same_new hna (.lst [.int 0, .int 2])
    have e2 := same_new hwa (.lst [.int 1, .int 1])
    refine ⟨x2, na, wa, l', [0, 2], [1, 1], rs, fs, rfl, hX2.same (e1.trans e2), e2.at upd_same, upd_same, by decide, by omega, rfl, hok, wok2, fun b2 HC hb2 sB => ?_⟩
    obtain rfl : b2 = due := by rw [Bool.eq_iff_iff, hdue, hb2]
    exact ⟨_, rfl, b2, rfl, true, rfl, iteF ⟨sm.trans (w5.trans (e1.trans (e2.trans sB))), _, _, _, rfl⟩⟩
  rintro σ H7 ⟨sm, v1, v2, v3, rfl⟩
  refine ⟨(by show 2 ≤ sizeLine; decide), fun p9 hp9 => ⟨(by show 2 ≤ sizeLine; decide), fun r9 hr9 => ⟨(by show 2 ≤ sizeLine; decide), fun l9 hl9 => ?_⟩⟩⟩
  have a9 := same_new hp9 (.tup [.int 2, .int 1])
  have b9 := same_new hr9 (.tup [.int 0, .int 1])
  have c9 := same_new hl9 (.lst [.ref p9, .ref r9])
  have f9 : FrAt (upd (upd (upd H7 p9 (.tup [.int 2, .int 1])) r9 (.tup [.int 0, .int 1])) l9 (.lst [.ref p9, .ref r9])) [p9, r9] [(2, 1), (0, 1)] := .cons ((b9.trans c9).at upd_same) (.cons (c9.at upd_same) (FrAt.nil _))
  have g9 : (upd (upd (upd H7 p9 (.tup [.int 2, .int 1])) r9 (.tup [.int 0, .int 1])) l9 (.lst [.ref p9, .ref r9])) l9 = some (.lst ([p9, r9].map V.ref)) := upd_same
  generalize upd (upd (upd H7 p9 (.tup [.int 2, .int 1])) r9 (.tup [.int 0, .int 1])) l9 (.lst [.ref p9, .ref r9]) = F9 at f9 g9 ⊢
  refine fun x2 dx2 hx2 hdx2 hne2 => ?_
  have w4 := same_own (C := c.Squared) hx2 hdx2
  refine ⟨x2, l9, dx2, [p9, r9], [(2, 1), (0, 1)], rfl, upd_same, w4.at g9, f9.same w4, fun l' H12 hl' hX2 kp => ⟨rfl, ?_⟩⟩
  obtain ⟨dx3, fl3, ob3, k1', k2'⟩ := hX2.ob
  refine ⟨x2, dx3, fl3, rfl, ob3, k2', (by show 2 ≤ sizeLine; decide), fun na hna => ⟨(by show 2 ≤ sizeLine; decide), fun wa hwa => ?_⟩⟩
  have e1 := same_new hna (.lst [.int 2, .int 0])
  have e2 := same_new hwa (.lst [.int 1, .int 1])
  refine ⟨x2, na, wa, l', [2, 0], [1, 1], [p9, r9], [(2, 1), (0, 1)], rfl, hX2.same (e1.trans e2), e2.at upd_same, upd_same, by decide, by decide, rfl, fok2 _ _, wok2, fun b2 HC hb2 sB => ?_⟩
  obtain rfl : b2 = false := by
    cases b2 with
    | false => rfl
    | true => exact absurd (hb2.mp rfl) sq5
  exact ⟨false, rfl, q _⟩
end
end K1
set_option Elab.async false
set_option linter.all false
set_option maxRecDepth 100000
set_option maxHeartbeats 8000000
namespace K1
open PySem L2 Fr1 Up
section
seal L2.PE L2.PA L2.PT L2.PW L2.PS L2.PSs L2.PI L2.PG
variable {P : Program} {w : World} {K : PySem.W.Frag} {mg : Str → Option Value} {base : Heap} {f : Addr} {fd : FuncData} {c : CA}
theorem ok_law (M : Bn mg) (F__law_numbers : FnA P w K mg base "_law_numbers" ["_law_script"] 1 (spNumbers K)) (F__law_weights : FnA P w K mg base "_law_weights" ["_law_script"] 1 (spWeights K)) (F__law_evens_right : FnA P w K mg base "_law_evens_right" ["_law_numbers_here", "_law_script"] 12 (spTwoR K)) (F__law_sums_right : FnA P w K mg base "_law_sums_right" ["_law_numbers_here", "_law_weights_here", "_law_script"] 12 (spThreeR K)) (F__law_squares_right : FnA P w K mg base "_law_squares_right" ["_law_numbers_here", "_law_weights_here", "_law_script"] 12 (spThreeR K)) (F__law_bands_right : FnA P w K mg base "_law_bands_right" ["_law_numbers_here", "_law_script"] 12 (spTwoR K)) (F__law_few_right : FnA P w K mg base "_law_few_right" [] 12 spFew) (F : Fun K "law" "law" s_law f fd) : FnOk P w K mg base CX0 13 f fd ["_law_script"] (spLaw K) := by
  refine F.ok sc_law (fun vs H Q E h => ?_) (fun cdv A outer s H vs Q E hr h => ?_)
  · obtain ⟨a, ns, rfl, _⟩ := h; rfl
  obtain ⟨a, ns, rfl, hA, h63, hb, q⟩ := h
  refine ⟨_, (pss_cons (ps_par (i := 1) (j := 2) rfl sc_law.nd rfl rfl (by decide) rfl rfl (pa_cons (pe_callA F__law_numbers (hr.mono (by decide)) rfl (pa_cons (pv 0) pa_nil)) (pa_cons (pe_callA F__law_weights (hr.mono (by decide)) rfl (pa_cons (pv 0) pa_nil)) pa_nil)) rfl)
      (pss_cons (ps_if (PW.pt (pw_or (pt_not (pt_val (pe_callA F__law_evens_right (hr.mono (by decide)) rfl (pa_cons (pv 1) (pa_cons (pv 0) pa_nil))))) (pw_or1 (pt_not (pt_val (pe_callA F__law_sums_right (hr.mono (by decide)) rfl (pa_cons (pv 1) (pa_cons (pv 2) (pa_cons (pv 0) pa_nil))))))))) (pss_one (ps_ret pe_bl)) pss_nil)
      (pss_cons (ps_if (PW.pt (pw_or (pt_not (pt_val (pe_callA F__law_squares_right (hr.mono (by decide)) rfl (pa_cons (pv 1) (pa_cons (pv 2) (pa_cons (pv 0) pa_nil)))))) (pw_or1 (pt_not (pt_val (pe_callA F__law_bands_right (hr.mono (by decide)) rfl (pa_cons (pv 1) (pa_cons (pv 0) pa_nil)))))))) (pss_one (ps_ret pe_bl)) pss_nil)
      (pss_one (ps_ret (pe_callA0 F__law_few_right (hr.mono (by decide)) rfl)))))), ?_⟩
  refine ⟨_, rfl, a, ns, rfl, hA, h63, hb, fun p H1 ms s1 hp hP hml hmb => ?_⟩
  refine ⟨_, rfl, a, ns, rfl, s1.seq hA, h63, fun pw H2 ws s2 hpw hW hwl hwb => ⟨_, _, rfl, ?_⟩⟩
  have s12 := s1.trans s2
  refine ⟨_, rfl, _, rfl, p, a, ms, ns, rfl, s2.at hP, s12.seq hA, h63, hml, fun H3 s3 => ⟨true, rfl, iteF ?_⟩⟩
  have s13 := s12.trans s3
  refine ⟨_, rfl, _, rfl, _, rfl, p, pw, a, ms, ws, ns, rfl, s3.at (s2.at hP), s3.at hW, s13.seq hA, h63, hml, hwl, hwb, fun H4 s4 => ⟨true, rfl, iteF ?_⟩⟩
  have s14 := s13.trans s4
  have u := s3.trans s4
  refine ⟨_, rfl, _, rfl, _, rfl, p, pw, a, ms, ws, ns, rfl, u.at (s2.at hP), u.at hW, s14.seq hA, h63, hml, hwl, hwb, fun H5 s5 => ⟨true, rfl, iteF ?_⟩⟩
  have s15 := s14.trans s5
  have u5 := u.trans s5
  refine ⟨_, rfl, _, rfl, p, a, ms, ns, rfl, u5.at (s2.at hP), s15.seq hA, h63, hml, fun H6 s6 => ⟨true, rfl, iteF ?_⟩⟩
  exact ⟨rfl, fun H7 => q H7⟩
end
end K1
set_option Elab.async false
set_option linter.all false
set_option maxRecDepth 100000
set_option maxHeartbeats 8000000
namespace K1
open PySem L2 Fr1 Up
theorem all_mk {l : PySem.W.OpenLaw} {w : World} {K : PySem.W.Frag} {h : Heap} {mg : Str → Option Value} {fa f : Addr} {cAnswer : Addr} {cEvened : Addr} {cSummed : Addr} {cSquared : Addr} {cBand : Addr} {cBarred : Addr} (X : K.In h) (G : h.Ns mainGlobals mg) (hfa : mg "law" = some (.ref fa))
    {oc kV doc pm cdv ct : Value} {od an : Option Addr} {osl : Array (Option Value)}
    (aL : PySem.W.nsIn K mainGlobals "law" = some (some (.ref f))) (lL : K.lookup f = some ⟨oc, od, .func (PySem.W.fnOf "law" "law" (defArgs s_law) (defBody s_law) (defScope s_law) .none kV doc pm an cdv ct), osl⟩) (cL : PySem.W.codeIn K cdv "law" = true) (kL : PySem.W.keepIn K (.ref f) = true)
    (K_Evened : ClsA K mg "Evened" cEvened)
    (K_Summed : ClsA K mg "Summed" cSummed)
    (K_Squared : ClsA K mg "Squared" cSquared)
    (K_Band : ClsA K mg "Band" cBand)
    (K_Barred : ClsA K mg "Barred" cBarred)
    (N_Evened : NaEvened K cEvened)
    (N_Summed : NaSummed K cSummed)
    (N_Squared : NaSquared K cSquared)
    (N_Band : NaBand K cBand)
    (N_Barred : NaBarred K cBarred)
    (D__law_numbers : DefAt K mg "_law_numbers" s__law_numbers ["_law_script"])
    (D__law_weights : DefAt K mg "_law_weights" s__law_weights ["_law_script"])
    (D_is_whole : DefAt K mg "is_whole" s_is_whole ["value"])
    (D_is_list_of_wholes : DefAt K mg "is_list_of_wholes" s_is_list_of_wholes ["values"])
    (D_check_numbers : DefAt K mg "check_numbers" s_check_numbers ["numbers"])
    (D_deepest_fall : DefAt K mg "deepest_fall" s_deepest_fall ["numbers"])
    (D_upper_row : DefAt K mg "upper_row" s_upper_row ["numbers"])
    (D_least_stands : DefAt K mg "least_stands" s_least_stands ["numbers", "most"])
    (D_Evened___init__ : InitAt K mg "Evened" cEvened "Evened.__init__" s_Evened___init__ ["self", "row", "first", "second"])
    (D_evened : DefAt K mg "evened" s_evened ["numbers"])
    (D__law_bent : DefAt K mg "_law_bent" s__law_bent ["_law_row", "_law_script"])
    (D_upper : DefAt K mg "upper" s_upper ["numbers"])
    (D_lower_row : DefAt K mg "lower_row" s_lower_row ["numbers"])
    (D_lower : DefAt K mg "lower" s_lower ["numbers"])
    (D__law_rises : DefAt K mg "_law_rises" s__law_rises ["_law_row"])
    (D__law_even : DefAt K mg "_law_even" s__law_even ["_law_numbers_here", "_law_row", "_law_first", "_law_second"])
    (D__law_says : DefAt K mg "_law_says" s__law_says ["_law_said", "_law_due"])
    (D_is_whole_row : DefAt K mg "is_whole_row" s_is_whole_row ["numbers", "row"])
    (D_rises : DefAt K mg "rises" s_rises ["row"])
    (D_is_rising_whole_row : DefAt K mg "is_rising_whole_row" s_is_rising_whole_row ["numbers", "row"])
    (D_are_places : DefAt K mg "are_places" s_are_places ["numbers", "first", "second"])
    (D_fall_between : DefAt K mg "fall_between" s_fall_between ["numbers", "first", "second"])
    (D_check_whole_row : DefAt K mg "check_whole_row" s_check_whole_row ["numbers", "row"])
    (D_differences : DefAt K mg "differences" s_differences ["numbers", "row"])
    (D_greatest : DefAt K mg "greatest" s_greatest ["numbers", "row"])
    (D_Evened_shows : MethAt K cEvened "shows" "Evened.shows" s_Evened_shows ["self", "numbers"])
    (D__law_evens_right : DefAt K mg "_law_evens_right" s__law_evens_right ["_law_numbers_here", "_law_script"])
    (D_are_weights : DefAt K mg "are_weights" s_are_weights ["numbers", "weights"])
    (D_check_weights : DefAt K mg "check_weights" s_check_weights ["numbers", "weights"])
    (D_put_in : DefAt K mg "put_in" s_put_in ["heap", "value", "share"])
    (D_greater_below : DefAt K mg "greater_below" s_greater_below ["heap", "place"])
    (D_take_top : DefAt K mg "take_top" s_take_top ["heap"])
    (D_take_shares : DefAt K mg "take_shares" s_take_shares ["heap", "amount"])
    (D_cheapest_ends : DefAt K mg "cheapest_ends" s_cheapest_ends ["numbers", "weights"])
    (D_greatest_pull : DefAt K mg "greatest_pull" s_greatest_pull ["number", "stand", "weight"])
    (D_sums_from_ahead : DefAt K mg "sums_from_ahead" s_sums_from_ahead ["numbers", "row", "weights"])
    (D_least_pull : DefAt K mg "least_pull" s_least_pull ["number", "stand", "weight"])
    (D_sums_from_behind : DefAt K mg "sums_from_behind" s_sums_from_behind ["numbers", "row", "weights"])
    (D_pulls_of : DefAt K mg "pulls_of" s_pulls_of ["numbers", "row", "weights"])
    (D_Summed___init__ : InitAt K mg "Summed" cSummed "Summed.__init__" s_Summed___init__ ["self", "row", "pulls"])
    (D_summed : DefAt K mg "summed" s_summed ["numbers", "weights"])
    (D__law_summed : DefAt K mg "_law_summed" s__law_summed ["_law_numbers_here", "_law_weights_here", "_law_row", "_law_pulls"])
    (D_within_weights : DefAt K mg "within_weights" s_within_weights ["pulls", "weights"])
    (D_sums_show : DefAt K mg "sums_show" s_sums_show ["pulls"])
    (D_summed_up : DefAt K mg "summed_up" s_summed_up ["numbers", "row", "weights"])
    (D_Summed_shows : MethAt K cSummed "shows" "Summed.shows" s_Summed_shows ["self", "numbers", "weights"])
    (D__law_sums_right : DefAt K mg "_law_sums_right" s__law_sums_right ["_law_numbers_here", "_law_weights_here", "_law_script"])
    (D_is_less : DefAt K mg "is_less" s_is_less ["one", "other"])
    (D_joined : DefAt K mg "joined" s_joined ["one", "other"])
    (D_level_runs : DefAt K mg "level_runs" s_level_runs ["numbers", "weights"])
    (D_common_divisor : DefAt K mg "common_divisor" s_common_divisor ["one", "other"])
    (D_lowest : DefAt K mg "lowest" s_lowest ["top", "bottom"])
    (D_Squared___init__ : InitAt K mg "Squared" cSquared "Squared.__init__" s_Squared___init__ ["self", "row"])
    (D_squared : DefAt K mg "squared" s_squared ["numbers", "weights"])
    (D__law_common : DefAt K mg "_law_common" s__law_common ["_law_one", "_law_other"])
    (D__law_low : DefAt K mg "_law_low" s__law_low ["_law_above", "_law_below"])
    (D__law_sum : DefAt K mg "_law_sum" s__law_sum ["_law_one", "_law_other"])
    (D__law_squared : DefAt K mg "_law_squared" s__law_squared ["_law_numbers_here", "_law_weights_here", "_law_row"])
    (D_is_fraction : DefAt K mg "is_fraction" s_is_fraction ["value"])
    (D_is_list_of_fractions : DefAt K mg "is_list_of_fractions" s_is_list_of_fractions ["values"])
    (D_is_fraction_row : DefAt K mg "is_fraction_row" s_is_fraction_row ["numbers", "row"])
    (D_fractions_rise : DefAt K mg "fractions_rise" s_fractions_rise ["row"])
    (D_lacks_show : DefAt K mg "lacks_show" s_lacks_show ["numbers", "row", "weights"])
    (D_Squared_shows : MethAt K cSquared "shows" "Squared.shows" s_Squared_shows ["self", "numbers", "weights"])
    (D__law_squares_right : DefAt K mg "_law_squares_right" s__law_squares_right ["_law_numbers_here", "_law_weights_here", "_law_script"])
    (D_Band___init__ : InitAt K mg "Band" cBand "Band.__init__" s_Band___init__ ["self", "lows", "highs"])
    (D_is_most : DefAt K mg "is_most" s_is_most ["most"])
    (D_greatest_stands : DefAt K mg "greatest_stands" s_greatest_stands ["numbers", "most"])
    (D_Band_shows : MethAt K cBand "shows" "Band.shows" s_Band_shows ["self", "numbers", "most"])
    (D_Barred___init__ : InitAt K mg "Barred" cBarred "Barred.__init__" s_Barred___init__ ["self", "first", "second"])
    (D_Barred_shows : MethAt K cBarred "shows" "Barred.shows" s_Barred_shows ["self", "numbers", "most"])
    (D__law_bands_right : DefAt K mg "_law_bands_right" s__law_bands_right ["_law_numbers_here", "_law_script"])
    (D__law_few_right : DefAt K mg "_law_few_right" s__law_few_right [])
    (M : Bn mg) :
    ∃ fd : FuncData, (∀ (s : Shared) (v : Value), BindsTo s fd ⟨[v], []⟩ [("_law_script", v)]) ∧ ∀ base : Heap, K.In base → base.Ns mainGlobals mg → FnOk l.prog w K mg base CX0 13 fa fd ["_law_script"] (spLaw K) := by
  have e := hfa.symm.trans (PySem.W.mg_of X G aL)
  cases e
  have F := fun_mk (st := s_law) lL cL kL
  refine ⟨PySem.W.fnOf "law" "law" (defArgs s_law) (defBody s_law) (defScope s_law) .none kV doc pm an cdv ct, fun s v => .of_eq rfl, fun base _ _ => ?_⟩
  let c : CA := ⟨cAnswer, cEvened, cSummed, cSquared, cBand, cBarred⟩
  have F__law_numbers : FnA l.prog w K mg base "_law_numbers" ["_law_script"] 1 (spNumbers K) := D__law_numbers.fnA fun f fd F => ok__law_numbers M  F
  have F__law_weights : FnA l.prog w K mg base "_law_weights" ["_law_script"] 1 (spWeights K) := D__law_weights.fnA fun f fd F => ok__law_weights M  F
  have F_is_whole : FnA l.prog w K mg base "is_whole" ["value"] 1 spWhole := D_is_whole.fnA fun f fd F => ok_is_whole M  F
  have F_is_list_of_wholes : FnA l.prog w K mg base "is_list_of_wholes" ["values"] 3 spListW := D_is_list_of_wholes.fnA fun f fd F => ok_is_list_of_wholes M F_is_whole F
  have F_check_numbers : FnA l.prog w K mg base "check_numbers" ["numbers"] 4 spChk1 := D_check_numbers.fnA fun f fd F => ok_check_numbers M F_is_list_of_wholes F
  have F_deepest_fall : FnA l.prog w K mg base "deepest_fall" ["numbers"] 2 spFall := D_deepest_fall.fnA fun f fd F => ok_deepest_fall M  F
  have F_upper_row : FnA l.prog w K mg base "upper_row" ["numbers"] 2 spUp := D_upper_row.fnA fun f fd F => ok_upper_row M  F
  have F_least_stands : FnA l.prog w K mg base "least_stands" ["numbers", "most"] 3 spLeast := D_least_stands.fnA fun f fd F => ok_least_stands M F_upper_row F
  have F_Evened___init__ : MakeA l.prog w K mg base "Evened" c.Evened ["self", "row", "first", "second"] 1 (spEvInit c) := D_Evened___init__.makeA fun f fd F => ok_Evened___init__ (c := c) M K_Evened N_Evened F
  have F_evened : FnA l.prog w K mg base "evened" ["numbers"] 8 (spEvened c) := D_evened.fnA fun f fd F => ok_evened (c := c) M F_check_numbers F_deepest_fall F_least_stands F_Evened___init__ F
  have F__law_bent : FnA l.prog w K mg base "_law_bent" ["_law_row", "_law_script"] 1 (spBent K) := D__law_bent.fnA fun f fd F => ok__law_bent M  F
  have F_upper : FnA l.prog w K mg base "upper" ["numbers"] 5 spUp := D_upper.fnA fun f fd F => ok_upper M F_check_numbers F_upper_row F
  have F_lower_row : FnA l.prog w K mg base "lower_row" ["numbers"] 2 spLo := D_lower_row.fnA fun f fd F => ok_lower_row M  F
  have F_lower : FnA l.prog w K mg base "lower" ["numbers"] 5 spLo := D_lower.fnA fun f fd F => ok_lower M F_check_numbers F_lower_row F
  have F__law_rises : FnA l.prog w K mg base "_law_rises" ["_law_row"] 2 spRise := D__law_rises.fnA fun f fd F => ok__law_rises M  F
  have F__law_even : FnA l.prog w K mg base "_law_even" ["_law_numbers_here", "_law_row", "_law_first", "_law_second"] 3 spEven := D__law_even.fnA fun f fd F => ok__law_even M F__law_rises F
  have F__law_says : FnA l.prog w K mg base "_law_says" ["_law_said", "_law_due"] 1 spSays := D__law_says.fnA fun f fd F => ok__law_says M  F
  have F_is_whole_row : FnA l.prog w K mg base "is_whole_row" ["numbers", "row"] 4 spRowW := D_is_whole_row.fnA fun f fd F => ok_is_whole_row M F_is_list_of_wholes F
  have F_rises : FnA l.prog w K mg base "rises" ["row"] 2 spRise := D_rises.fnA fun f fd F => ok_rises M  F
  have F_is_rising_whole_row : FnA l.prog w K mg base "is_rising_whole_row" ["numbers", "row"] 5 spRiW := D_is_rising_whole_row.fnA fun f fd F => ok_is_rising_whole_row M F_is_whole_row F_rises F
  have F_are_places : FnA l.prog w K mg base "are_places" ["numbers", "first", "second"] 2 spPlaces := D_are_places.fnA fun f fd F => ok_are_places M F_is_whole F
  have F_fall_between : FnA l.prog w K mg base "fall_between" ["numbers", "first", "second"] 1 spFallB := D_fall_between.fnA fun f fd F => ok_fall_between M  F
  have F_check_whole_row : FnA l.prog w K mg base "check_whole_row" ["numbers", "row"] 5 spChk2 := D_check_whole_row.fnA fun f fd F => ok_check_whole_row M F_is_whole_row F
  have F_differences : FnA l.prog w K mg base "differences" ["numbers", "row"] 1 spDiff := D_differences.fnA fun f fd F => ok_differences M  F
  have F_greatest : FnA l.prog w K mg base "greatest" ["numbers", "row"] 6 spGreat := D_greatest.fnA fun f fd F => ok_greatest M F_check_numbers F_check_whole_row F_differences F
  have F_Evened_shows : MethA l.prog w K mg base c.Evened "shows" ["self", "numbers"] 7 (spEvShows c) := D_Evened_shows.methA fun f fd F => ok_Evened_shows (c := c) M K_Evened N_Evened F_is_list_of_wholes F_is_rising_whole_row F_are_places F_fall_between F_greatest F
  have F__law_evens_right : FnA l.prog w K mg base "_law_evens_right" ["_law_numbers_here", "_law_script"] 12 (spTwoR K) := D__law_evens_right.fnA fun f fd F => ok__law_evens_right (c := c) M F_evened F__law_bent F_upper F_lower F_Evened___init__ F__law_even F__law_says F_Evened_shows K_Evened N_Evened F
  have F_are_weights : FnA l.prog w K mg base "are_weights" ["numbers", "weights"] 5 spWts := D_are_weights.fnA fun f fd F => ok_are_weights M F_is_whole_row F
  have F_check_weights : FnA l.prog w K mg base "check_weights" ["numbers", "weights"] 6 spChkW := D_check_weights.fnA fun f fd F => ok_check_weights M F_are_weights F
  have F_put_in : FnA l.prog w K mg base "put_in" ["heap", "value", "share"] 1 spPut := D_put_in.fnA fun f fd F => ok_put_in M  F
  have F_greater_below : FnA l.prog w K mg base "greater_below" ["heap", "place"] 1 spGrB := D_greater_below.fnA fun f fd F => ok_greater_below M  F
  have F_take_top : FnA l.prog w K mg base "take_top" ["heap"] 2 spTake := D_take_top.fnA fun f fd F => ok_take_top M F_greater_below F
  have F_take_shares : FnA l.prog w K mg base "take_shares" ["heap", "amount"] 3 spShares := D_take_shares.fnA fun f fd F => ok_take_shares M F_take_top F
  have F_cheapest_ends : FnA l.prog w K mg base "cheapest_ends" ["numbers", "weights"] 4 spEnds := D_cheapest_ends.fnA fun f fd F => ok_cheapest_ends M F_put_in F_take_shares F
  have F_greatest_pull : FnA l.prog w K mg base "greatest_pull" ["number", "stand", "weight"] 1 spGP := D_greatest_pull.fnA fun f fd F => ok_greatest_pull M  F
  have F_sums_from_ahead : FnA l.prog w K mg base "sums_from_ahead" ["numbers", "row", "weights"] 2 (spSums AA) := D_sums_from_ahead.fnA fun f fd F => ok_sums_from_ahead M F_greatest_pull F
  have F_least_pull : FnA l.prog w K mg base "least_pull" ["number", "stand", "weight"] 1 spLP := D_least_pull.fnA fun f fd F => ok_least_pull M  F
  have F_sums_from_behind : FnA l.prog w K mg base "sums_from_behind" ["numbers", "row", "weights"] 2 (spSums bhd) := D_sums_from_behind.fnA fun f fd F => ok_sums_from_behind M F_least_pull F
  have F_pulls_of : FnA l.prog w K mg base "pulls_of" ["numbers", "row", "weights"] 3 (spSums pl) := D_pulls_of.fnA fun f fd F => ok_pulls_of M F_sums_from_ahead F_sums_from_behind F
  have F_Summed___init__ : MakeA l.prog w K mg base "Summed" c.Summed ["self", "row", "pulls"] 1 (spSuInit c) := D_Summed___init__.makeA fun f fd F => ok_Summed___init__ (c := c) M K_Summed N_Summed F
  have F_summed : FnA l.prog w K mg base "summed" ["numbers", "weights"] 9 (spSumP c) := D_summed.fnA fun f fd F => ok_summed (c := c) M F_check_numbers F_check_weights F_cheapest_ends F_lower_row F_pulls_of F_Summed___init__ F
  have F__law_summed : FnA l.prog w K mg base "_law_summed" ["_law_numbers_here", "_law_weights_here", "_law_row", "_law_pulls"] 3 spSummedL := D__law_summed.fnA fun f fd F => ok__law_summed M F__law_rises F
  have F_within_weights : FnA l.prog w K mg base "within_weights" ["pulls", "weights"] 1 spWithin := D_within_weights.fnA fun f fd F => ok_within_weights M  F
  have F_sums_show : FnA l.prog w K mg base "sums_show" ["pulls"] 1 spSumsShow := D_sums_show.fnA fun f fd F => ok_sums_show M  F
  have F_summed_up : FnA l.prog w K mg base "summed_up" ["numbers", "row", "weights"] 7 spSummed := D_summed_up.fnA fun f fd F => ok_summed_up M F_check_numbers F_check_whole_row F_check_weights F_differences F
  have F_Summed_shows : MethA l.prog w K mg base c.Summed "shows" ["self", "numbers", "weights"] 8 (spSuShows c) := D_Summed_shows.methA fun f fd F => ok_Summed_shows (c := c) M K_Summed N_Summed F_is_list_of_wholes F_are_weights F_is_rising_whole_row F_is_whole_row F_within_weights F_sums_show F_summed_up F
  have F__law_sums_right : FnA l.prog w K mg base "_law_sums_right" ["_law_numbers_here", "_law_weights_here", "_law_script"] 12 (spThreeR K) := D__law_sums_right.fnA fun f fd F => ok__law_sums_right (c := c) M F_summed F__law_bent F_lower F_Summed___init__ F__law_summed F__law_says F_Summed_shows K_Summed N_Summed F
  have F_is_less : FnA l.prog w K mg base "is_less" ["one", "other"] 1 spLess := D_is_less.fnA fun f fd F => ok_is_less M  F
  have F_joined : FnA l.prog w K mg base "joined" ["one", "other"] 1 spJoin := D_joined.fnA fun f fd F => ok_joined M  F
  have F_level_runs : FnA l.prog w K mg base "level_runs" ["numbers", "weights"] 2 spRuns := D_level_runs.fnA fun f fd F => ok_level_runs M F_is_less F_joined F
  have F_common_divisor : FnA l.prog w K mg base "common_divisor" ["one", "other"] 1 spGcd := D_common_divisor.fnA fun f fd F => ok_common_divisor M  F
  have F_lowest : FnA l.prog w K mg base "lowest" ["top", "bottom"] 2 spLowW := D_lowest.fnA fun f fd F => ok_lowest M F_common_divisor F
  have F_Squared___init__ : MakeA l.prog w K mg base "Squared" c.Squared ["self", "row"] 1 (spSqInit c) := D_Squared___init__.makeA fun f fd F => ok_Squared___init__ (c := c) M K_Squared N_Squared F
  have F_squared : FnA l.prog w K mg base "squared" ["numbers", "weights"] 7 (spSquaredW c) := D_squared.fnA fun f fd F => ok_squared (c := c) M F_check_numbers F_check_weights F_level_runs F_lowest F_Squared___init__ F
  have F__law_common : FnA l.prog w K mg base "_law_common" ["_law_one", "_law_other"] 1 spGcd := D__law_common.fnA fun f fd F => ok__law_common M  F
  have F__law_low : FnA l.prog w K mg base "_law_low" ["_law_above", "_law_below"] 2 spLow := D__law_low.fnA fun f fd F => ok__law_low M F__law_common F
  have F__law_sum : FnA l.prog w K mg base "_law_sum" ["_law_one", "_law_other"] 3 spSum := D__law_sum.fnA fun f fd F => ok__law_sum M F__law_low F
  have F__law_squared : FnA l.prog w K mg base "_law_squared" ["_law_numbers_here", "_law_weights_here", "_law_row"] 4 spSquaredL := D__law_squared.fnA fun f fd F => ok__law_squared M F__law_sum F
  have F_is_fraction : FnA l.prog w K mg base "is_fraction" ["value"] 2 spFrac := D_is_fraction.fnA fun f fd F => ok_is_fraction M F_is_whole F_common_divisor F
  have F_is_list_of_fractions : FnA l.prog w K mg base "is_list_of_fractions" ["values"] 3 spListF := D_is_list_of_fractions.fnA fun f fd F => ok_is_list_of_fractions M F_is_fraction F
  have F_is_fraction_row : FnA l.prog w K mg base "is_fraction_row" ["numbers", "row"] 4 spRowF := D_is_fraction_row.fnA fun f fd F => ok_is_fraction_row M F_is_list_of_fractions F
  have F_fractions_rise : FnA l.prog w K mg base "fractions_rise" ["row"] 3 spFRise := D_fractions_rise.fnA fun f fd F => ok_fractions_rise M F_is_less F
  have F_lacks_show : FnA l.prog w K mg base "lacks_show" ["numbers", "row", "weights"] 1 spLacks := D_lacks_show.fnA fun f fd F => ok_lacks_show M  F
  have F_Squared_shows : MethA l.prog w K mg base c.Squared "shows" ["self", "numbers", "weights"] 6 (spSqShows c) := D_Squared_shows.methA fun f fd F => ok_Squared_shows (c := c) M K_Squared N_Squared F_is_list_of_wholes F_are_weights F_is_fraction_row F_fractions_rise F_lacks_show F
  have F__law_squares_right : FnA l.prog w K mg base "_law_squares_right" ["_law_numbers_here", "_law_weights_here", "_law_script"] 12 (spThreeR K) := D__law_squares_right.fnA fun f fd F => ok__law_squares_right (c := c) M F_squared F__law_sum F__law_low F_Squared___init__ F__law_squared F__law_says F_Squared_shows K_Squared N_Squared F
  have F_Band___init__ : MakeA l.prog w K mg base "Band" c.Band ["self", "lows", "highs"] 1 (spBaInit c) := D_Band___init__.makeA fun f fd F => ok_Band___init__ (c := c) M K_Band N_Band F
  have F_is_most : FnA l.prog w K mg base "is_most" ["most"] 2 spMost := D_is_most.fnA fun f fd F => ok_is_most M F_is_whole F
  have F_greatest_stands : FnA l.prog w K mg base "greatest_stands" ["numbers", "most"] 3 spGreatS := D_greatest_stands.fnA fun f fd F => ok_greatest_stands M F_lower_row F
  have F_Band_shows : MethA l.prog w K mg base c.Band "shows" ["self", "numbers", "most"] 5 (spBaShows c) := D_Band_shows.methA fun f fd F => ok_Band_shows (c := c) M K_Band N_Band F_is_list_of_wholes F_is_most F_deepest_fall F_least_stands F_greatest_stands F
  have F_Barred___init__ : MakeA l.prog w K mg base "Barred" c.Barred ["self", "first", "second"] 1 (spBrInit c) := D_Barred___init__.makeA fun f fd F => ok_Barred___init__ (c := c) M K_Barred N_Barred F
  have F_Barred_shows : MethA l.prog w K mg base c.Barred "shows" ["self", "numbers", "most"] 5 (spBrShows c) := D_Barred_shows.methA fun f fd F => ok_Barred_shows (c := c) M K_Barred N_Barred F_is_list_of_wholes F_is_most F_are_places F_fall_between F
  have F__law_bands_right : FnA l.prog w K mg base "_law_bands_right" ["_law_numbers_here", "_law_script"] 12 (spTwoR K) := D__law_bands_right.fnA fun f fd F => ok__law_bands_right (c := c) M F_upper F_lower F__law_bent F_Band___init__ F_Band_shows F_Barred___init__ F_Barred_shows F__law_says K_Band N_Band K_Barred N_Barred F
  have F__law_few_right : FnA l.prog w K mg base "_law_few_right" [] 12 spFew := D__law_few_right.fnA fun f fd F => ok__law_few_right (c := c) M F_Summed___init__ F_Summed_shows F_Squared___init__ F_Squared_shows F__law_says K_Summed K_Squared F
  exact ok_law M F__law_numbers F__law_weights F__law_evens_right F__law_sums_right F__law_squares_right F__law_bands_right F__law_few_right F
theorem walk {l : PySem.W.OpenLaw} {q : Program} {loose : List Str} {XP : (Str → Option Value) → Heap → Prop} {YP : World → Heap → Prop} {d : DefRec} {K : Params → PySem.W.Frag} (hn : l.most = some 63) (hdf : d.params.defaults = [])
    (hY : ∀ (w : World) (h : Heap), YP w h → (K w.params).In h)
    (F : ∀ (w : World) (mg : Str → Option Value) (fa : Addr) (h : Heap), (K w.params).In h → h.Ns mainGlobals mg → mg d.name = some (.ref fa) →
      ∃ fd : FuncData, (∀ (s : Shared) (u : Value), BindsTo s fd ⟨[u], []⟩ [("_law_script", u)]) ∧ ∀ base : Heap, (K w.params).In base → base.Ns mainGlobals mg → FnOk l.prog w (K w.params) mg base CX0 13 fa fd ["_law_script"] (spLaw (K w.params))) :
    PySem.W.WalkO q loose XP YP l.row.toRowW d [] (fun f vs => PySem.call f vs) :=
  walk_bits (n := 63) (k := 13) (x := "_law_script") (CX := CX0) (sp := spLaw) hn (by decide) hdf ⟨rfl, by decide, by decide⟩ hY F (fun _ _ a ns hl hb _ hS => ⟨a, ns, rfl, hS, hl, hb, fun _ => rfl⟩) fun _ _ _ _ z => z
end K1
def PySem.W.Fast.tw18375122767459645754 : Unit := ()
def PySem.W.Fast.tw11649187502854325535 : Unit := ()
def PySem.W.Fast.tw14458538020056536682 : Unit := ()
def PySem.W.Fast.tw18376342588258539461 : Unit := ()
def PySem.W.Fast.tw4521803712845550621 : Unit := ()
def PySem.W.Fast.tw5789150455621446568 : Unit := ()
def PySem.W.Fast.tw11513178626193949954 : Unit := ()
def PySem.W.Fast.tw1141930701162118316 : Unit := ()
def PySem.W.Fast.tw14841062027084086380 : Unit := ()
def PySem.W.Fast.tw15291755613793285120 : Unit := ()
def PySem.W.Fast.tw15550719879295801967 : Unit := ()
def PySem.W.Fast.tw17019968323810090323 : Unit := ()
def PySem.W.Fast.tw9805729467992921435 : Unit := ()
def PySem.W.Fast.tw3068359476846743721 : Unit := ()
def PySem.W.Fast.tw6784046259843045844 : Unit := ()
def PySem.W.Fast.tw3963510633876363957 : Unit := ()
def PySem.W.Fast.tw15243315066559584899 : Unit := ()
def PySem.W.Fast.tw983268855868840157 : Unit := ()
def PySem.W.Fast.tw356552120126695870 : Unit := ()
def PySem.W.Fast.tw17598343726325316878 : Unit := ()
def PySem.W.Fast.tw9462988933734762068 : Unit := ()
def PySem.W.Fast.tw6441726813523977109 : Unit := ()
def PySem.W.Fast.tw8795477490561448636 : Unit := ()
def PySem.W.Fast.tw912543013046444664 : Unit := ()
def PySem.W.Fast.tw11561964919662119253 : Unit := ()
def PySem.W.Fast.tw10447880051830327744 : Unit := ()
def PySem.W.Fast.tw2036869902647825332 : Unit := ()
def PySem.W.Fast.tw13038040134371072268 : Unit := ()
def PySem.W.Fast.tw12138648646828979643 : Unit := ()
def PySem.W.Fast.tw6562691159373198022 : Unit := ()
def PySem.W.Fast.tw15198784142397694557 : Unit := ()
def PySem.W.Fast.tw12548946806720178695 : Unit := ()
def PySem.W.Fast.tw3736896257481505432 : Unit := ()
def PySem.W.Fast.tw6660031757194115418 : Unit := ()
def PySem.W.Fast.tw5776221550040601384 : Unit := ()
def PySem.W.Fast.tw3678115459839586562 : Unit := ()
def PySem.W.Fast.tw4590654335732254667 : Unit := ()
def PySem.W.Fast.tw17347518970127617993 : Unit := ()
def PySem.W.Fast.tw6937715874501280276 : Unit := ()
def PySem.W.Fast.tw14791342812698623888 : Unit := ()
def PySem.W.Fast.tw2458314927401575899 : Unit := ()
def PySem.W.Fast.tw16904505046656309944 : Unit := ()
def PySem.W.Fast.tw221309449454260051 : Unit := ()
def PySem.W.Fast.tw16901266051599380016 : Unit := ()
def PySem.W.Fast.tw4835851699345262938 : Unit := ()
def PySem.W.Fast.tw16484026269315196682 : Unit := ()
def PySem.W.Fast.tw5040191429353237236 : Unit := ()
def PySem.W.Fast.tw1472508271875186144 : Unit := ()
def PySem.W.Fast.tw6356828210180284055 : Unit := ()
def PySem.W.Fast.tw17188766770056536950 : Unit := ()
def PySem.W.Fast.tw9074357105259108666 : Unit := ()
def PySem.W.Fast.tw5108905466584127757 : Unit := ()
def PySem.W.Fast.tw5714147106784901241 : Unit := ()
def PySem.W.Fast.tw11411571282819767119 : Unit := ()
def PySem.W.Fast.tw15781083820599057363 : Unit := ()
def PySem.W.Fast.tw5569296268516368297 : Unit := ()
def PySem.W.Fast.tw8460784088437804559 : Unit := ()
def PySem.W.Fast.tw17036956746548720989 : Unit := ()
def PySem.W.Fast.tw11989736846438781381 : Unit := ()
def PySem.W.Fast.tw5093045333444084957 : Unit := ()
def PySem.W.Fast.tw13188877057417587345 : Unit := ()
def PySem.W.Fast.tw12852258631211580407 : Unit := ()
def PySem.W.Fast.tw2014150629871750650 : Unit := ()
def PySem.W.Fast.tw17908267430885685093 : Unit := ()
def PySem.W.Fast.tw18348735292198210860 : Unit := ()
def PySem.W.Fast.tw774039444428966488 : Unit := ()
def PySem.W.Fast.tw11599351506705046719 : Unit := ()
def PySem.W.Fast.tw1921423187440797229 : Unit := ()
def PySem.W.Fast.tw8374226849718586068 : Unit := ()
def PySem.W.Fast.tw3098231780465362657 : Unit := ()
def PySem.W.Fast.tw14760534843904488139 : Unit := ()
def PySem.W.Fast.tw1671520145383859799 : Unit := ()
def PySem.W.Fast.tw6645020976317861338 : Unit := ()
def PySem.W.Fast.tw3726770836347990474 : Unit := ()
def PySem.W.Fast.tw6468148111440376194 : Unit := ()
def PySem.W.Fast.tw16541988388624489602 : Unit := ()
def PySem.W.Fast.tw15013712468331565698 : Unit := ()
def PySem.W.Fast.tw8579597005434954401 : Unit := ()
def PySem.W.Fast.tw13811456093481001656 : Unit := ()
def PySem.W.Fast.tw11790046199162804000 : Unit := ()
def PySem.W.Fast.tw995677469385060872 : Unit := ()
def PySem.W.Fast.tw8048724713606610504 : Unit := ()
def PySem.W.Fast.tw12058177776030363957 : Unit := ()
def PySem.W.Fast.tw12403338359980977557 : Unit := ()
def PySem.W.Fast.tw3022551938621848896 : Unit := ()
def PySem.W.Fast.tw14676291813229529020 : Unit := ()
def PySem.W.Fast.tw16337807847106774720 : Unit := ()
def PySem.W.Fast.tw366199722380069998 : Unit := ()
def PySem.W.Fast.tw4510579228036528165 : Unit := ()
def PySem.W.Fast.tw4514955103723497477 : Unit := ()
def PySem.W.Fast.tw9525713579316549841 : Unit := ()
def PySem.W.Fast.tw8714258936142214590 : Unit := ()
def PySem.W.Fast.tw17072305611277104356 : Unit := ()
def PySem.W.Fast.tw17136698470942008516 : Unit := ()
def PySem.W.Fast.tw520965340539552840 : Unit := ()
def PySem.W.Fast.tw4525170400323755567 : Unit := ()
def PySem.W.Fast.tw11044256706812735317 : Unit := ()
def PySem.W.Fast.tw1193269128266040547 : Unit := ()
def PySem.W.Fast.tw5920870309681494377 : Unit := ()
def PySem.W.Fast.tw10006902506553674832 : Unit := ()
def PySem.W.Fast.tw14875816926588854148 : Unit := ()
def PySem.W.Fast.tw5944095818334731771 : Unit := ()
def PySem.W.Fast.tw17927835511616884919 : Unit := ()
def PySem.W.Fast.tw17997586981300681738 : Unit := ()
def PySem.W.Fast.tw5348323650476714157 : Unit := ()
def PySem.W.Fast.tw6123306203413934769 : Unit := ()
def PySem.W.Fast.tw12484403371311275238 : Unit := ()
def PySem.W.Fast.tw15126645547308706470 : Unit := ()
def PySem.W.Fast.tw13990638804761293934 : Unit := ()
def PySem.W.Fast.tw12717232601177407465 : Unit := ()
def PySem.W.Fast.tw1908524418066171034 : Unit := ()
def PySem.W.Fast.tw17362387981748452263 : Unit := ()
def PySem.W.Fast.tw11921360618513813849 : Unit := ()
def PySem.W.Fast.tw15036895616129608219 : Unit := ()
def PySem.W.Fast.tw13891382458856473984 : Unit := ()
def PySem.W.Fast.tw17861175519214509832 : Unit := ()
def PySem.W.Fast.tw8461964605766136395 : Unit := ()
def PySem.W.Fast.tw12799856336977061016 : Unit := ()
def PySem.W.Fast.tw17729984080439321677 : Unit := ()
def PySem.W.Fast.tw5574678984339688126 : Unit := ()
def PySem.W.Fast.tw10929310553925680402 : Unit := ()
def PySem.W.Fast.tw16473019299199546766 : Unit := ()
def PySem.W.Fast.tw15823222433619351443 : Unit := ()
def PySem.W.Fast.tw9743663426117032730 : Unit := ()
def PySem.W.Fast.tw15075440604367339807 : Unit := ()
def PySem.W.Fast.tw5425079884487630917 : Unit := ()
def PySem.W.Fast.tw3574662582925168714 : Unit := ()
def PySem.W.Fast.tw3491928568454979100 : Unit := ()
def PySem.W.Fast.tw13550738098282575911 : Unit := ()
def PySem.W.Fast.tw12688030791733762553 : Unit := ()
def PySem.W.Fast.tw882388616777793731 : Unit := ()
def PySem.W.Fast.tw9397911884668114557 : Unit := ()
def PySem.W.Fast.tw13499797177207994883 : Unit := ()
def PySem.W.Fast.tw9050481295390473955 : Unit := ()
def PySem.W.Fast.tw5418913898167511449 : Unit := ()
def PySem.W.Fast.tw11979825318886432775 : Unit := ()
def PySem.W.Fast.tw11412193919618872399 : Unit := ()
def PySem.W.Fast.tw6372403370964312538 : Unit := ()
def PySem.W.Fast.tw9148285560669841781 : Unit := ()
def PySem.W.Fast.tw2913472587148254132 : Unit := ()
def PySem.W.Fast.tw8215164664608714031 : Unit := ()
def PySem.W.Fast.tw6980912113421180309 : Unit := ()
def PySem.W.Fast.tw552993320517801893 : Unit := ()
def PySem.W.Fast.tw12531191720373852506 : Unit := ()
def PySem.W.Fast.tw3635458753098867721 : Unit := ()
def PySem.W.Fast.tw1868867489497529368 : Unit := ()
def PySem.W.Fast.tw16338149347529109624 : Unit := ()
def PySem.W.Fast.tw10808817246553525969 : Unit := ()
def PySem.W.Fast.tw9374025066910960578 : Unit := ()
def PySem.W.Fast.tw10500017254641465018 : Unit := ()
def PySem.W.Fast.tw12552770294402619881 : Unit := ()
def PySem.W.Fast.tw9610455652335738914 : Unit := ()
def PySem.W.Fast.tw5384693384035534881 : Unit := ()
def PySem.W.Fast.tw5293568323820712054 : Unit := ()
def PySem.W.Fast.tw6505450126759948897 : Unit := ()
def PySem.W.Fast.tw59768251999344291 : Unit := ()
def PySem.W.Fast.tw9297246049852159904 : Unit := ()
def PySem.W.Fast.tw17807903984797236226 : Unit := ()
def PySem.W.Fast.tw17602068572486702294 : Unit := ()
def PySem.W.Fast.tw2169806931977995428 : Unit := ()
def PySem.W.Fast.tw8243104627617761113 : Unit := ()
def PySem.W.Fast.tw4733700371680780279 : Unit := ()
def PySem.W.Fast.tw9399178977419011230 : Unit := ()
def PySem.W.Fast.tw1263019688412928017 : Unit := ()
def PySem.W.Fast.tw5047730615078130295 : Unit := ()
def PySem.W.Fast.tw3773740441414745131 : Unit := ()
def PySem.W.Fast.tw1186796417898483172 : Unit := ()
def PySem.W.Fast.tw16470513840068191567 : Unit := ()
def PySem.W.Fast.tw7687685303095629290 : Unit := ()
def PySem.W.Fast.tw6966512207567392294 : Unit := ()
def PySem.W.Fast.tw11430387778634785193 : Unit := ()
def PySem.W.Fast.tw7103216207094905908 : Unit := ()
def PySem.W.Fast.tw13100413655795501179 : Unit := ()
def PySem.W.Fast.tw5799157703026217538 : Unit := ()
def PySem.W.Fast.tw3564856285322292210 : Unit := ()
def PySem.W.Fast.tw9389473292077633746 : Unit := ()
def PySem.W.Fast.tw90957897215241470 : Unit := ()
def PySem.W.Fast.tw4155975820423515193 : Unit := ()
def PySem.W.Fast.tw17970642668480107479 : Unit := ()
def PySem.W.Fast.tw14988406689363398123 : Unit := ()
def PySem.W.Fast.tw11170523109076699352 : Unit := ()
def PySem.W.Fast.tw5177455355642615923 : Unit := ()
def PySem.W.Fast.tw9359605688789088178 : Unit := ()
def PySem.W.Fast.tw3687571850666838400 : Unit := ()
def PySem.W.Fast.tw9153339331897037223 : Unit := ()
def PySem.W.Fast.tw13635642828773890007 : Unit := ()
def PySem.W.Fast.tw342258085040093474 : Unit := ()
def PySem.W.Fast.tw5149365858568085687 : Unit := ()
def PySem.W.Fast.tw6648048135925433870 : Unit := ()
def PySem.W.Fast.tw1777690995909429628 : Unit := ()
def PySem.W.Fast.tw18013670731553574986 : Unit := ()
def PySem.W.Fast.tw10740134778609299065 : Unit := ()
def PySem.W.Fast.tw10217245174040005583 : Unit := ()
def PySem.W.Fast.tw6299863832295559653 : Unit := ()
def PySem.W.Fast.tw4425402101768824454 : Unit := ()
def PySem.W.Fast.tw12866844649844969783 : Unit := ()
def PySem.W.Fast.tw8353633292853137056 : Unit := ()
def PySem.W.Fast.tw17447297456082064398 : Unit := ()
def PySem.W.Fast.tw909556101194106473 : Unit := ()
def PySem.W.Fast.tw16656770077097042729 : Unit := ()
def PySem.W.Fast.tw14724157731642671030 : Unit := ()
def PySem.W.Fast.tw14930984028510535286 : Unit := ()
def PySem.W.Fast.tw10352112463773829331 : Unit := ()
def PySem.W.Fast.tw13009785755589297868 : Unit := ()
def PySem.W.Fast.tw9568815471078954827 : Unit := ()
def PySem.W.Fast.tw7553547096550419515 : Unit := ()
def PySem.W.Fast.tw1215057295919101034 : Unit := ()
def PySem.W.Fast.tw14518121463479343487 : Unit := ()
def PySem.W.Fast.tw4351813421492983132 : Unit := ()
def PySem.W.Fast.tw1622766468512072832 : Unit := ()
def PySem.W.Fast.tw677465952872838275 : Unit := ()
def PySem.W.Fast.tw12013826230795876793 : Unit := ()
def PySem.W.Fast.tw7366721901044387201 : Unit := ()
def PySem.W.Fast.tw2929349418680213430 : Unit := ()
def PySem.W.Fast.tw7540519697761235947 : Unit := ()
def PySem.W.Fast.tw4292326070991796948 : Unit := ()
def PySem.W.Fast.tw13743566022645648158 : Unit := ()
def PySem.W.Fast.tw1249435438436585773 : Unit := ()
def PySem.W.Fast.tw13938631514107384472 : Unit := ()
def PySem.W.Fast.tw14256041391273414335 : Unit := ()
def PySem.W.Fast.tw1075013161179209763 : Unit := ()
def PySem.W.Fast.tw2104786769539689372 : Unit := ()
def PySem.W.Fast.tw18442035544829290116 : Unit := ()
def PySem.W.Fast.tw17966806617572052738 : Unit := ()
def PySem.W.Fast.tw5306810117180484175 : Unit := ()
def PySem.W.Fast.tw17670295705920203182 : Unit := ()
def PySem.W.Fast.tw15295655768282342769 : Unit := ()
def PySem.W.Fast.tw11647589013492475351 : Unit := ()
def PySem.W.Fast.tw9797124301043218969 : Unit := ()
def PySem.W.Fast.tw1277716210113359513 : Unit := ()
def PySem.W.Fast.tw7582954111840591582 : Unit := ()
def PySem.W.Fast.tw6438669793957751052 : Unit := ()
def PySem.W.Fast.tw13983337704649175654 : Unit := ()
def PySem.W.Fast.tw18108318456064595833 : Unit := ()
def PySem.W.Fast.tw1520592000676288635 : Unit := ()
def PySem.W.Fast.tw304722525150118917 : Unit := ()
def PySem.W.Fast.tw16057584243508220190 : Unit := ()
def PySem.W.Fast.tw8273458562715772536 : Unit := ()
def PySem.W.Fast.tw8053820046297646775 : Unit := ()
def PySem.W.Fast.tw7184482822666759305 : Unit := ()
def PySem.W.Fast.tw6197492253813745624 : Unit := ()
def PySem.W.Fast.tw1859464221974131574 : Unit := ()
def PySem.W.Fast.tw14874332593351712259 : Unit := ()
def PySem.W.Fast.tw10074007689898883026 : Unit := ()
def PySem.W.Fast.tw4791745527218524464 : Unit := ()
def PySem.W.Fast.tw13022917034675313466 : Unit := ()
def PySem.W.Fast.tw1148984919862814649 : Unit := ()
def PySem.W.Fast.tw1835862996493983279 : Unit := ()
def PySem.W.Fast.tw10626740902733339362 : Unit := ()
def PySem.W.Fast.tw4712219052789093578 : Unit := ()
def PySem.W.Fast.tw11711519660664069233 : Unit := ()
def PySem.W.Fast.tw10372841938733304484 : Unit := ()
def PySem.W.Fast.tw16954194981525260478 : Unit := ()
def PySem.W.Fast.tw4271262787277448660 : Unit := ()
def PySem.W.Fast.tw9403568714762110974 : Unit := ()
def PySem.W.Fast.tw651680053936454146 : Unit := ()
def PySem.W.Fast.tw1950909729790668170 : Unit := ()
def PySem.W.Fast.tw2574399946625194459 : Unit := ()
def PySem.W.Fast.tw9973128462414894614 : Unit := ()
def PySem.W.Fast.tw848206637528671547 : Unit := ()
def PySem.W.Fast.tw4904827349177305098 : Unit := ()
def PySem.W.Fast.tw1109451132537862191 : Unit := ()
def PySem.W.Fast.tw1547639241539432635 : Unit := ()
def PySem.W.Fast.tw13246145467412939747 : Unit := ()
def PySem.W.Fast.tw10803778551522868464 : Unit := ()
def PySem.W.Fast.tw2039530563495168039 : Unit := ()
def PySem.W.Fast.tw8647145357712284289 : Unit := ()
def PySem.W.Fast.tw2934790858879792747 : Unit := ()
def PySem.W.Fast.tw8180401807205371050 : Unit := ()
def PySem.W.Fast.tw2561651430357425467 : Unit := ()
def PySem.W.Fast.tw15609669388181316815 : Unit := ()
def PySem.W.Fast.tw13875742281073998824 : Unit := ()
def PySem.W.Fast.tw5114566079861081149 : Unit := ()
def PySem.W.Fast.tw3453875873654432475 : Unit := ()
def PySem.W.Fast.tw9097715218261147503 : Unit := ()
def PySem.W.Fast.tw8314413720047551087 : Unit := ()
def PySem.W.Fast.tw7050218367442659215 : Unit := ()
def PySem.W.Fast.tw5492016863712770558 : Unit := ()
def PySem.W.Fast.tw15636321011176658618 : Unit := ()
def PySem.W.Fast.tw13948436648696645997 : Unit := ()
def PySem.W.Fast.tw4639694478528749336 : Unit := ()
def PySem.W.Fast.tw2358821198775363237 : Unit := ()
def PySem.W.Fast.tw1445384971464938816 : Unit := ()
def PySem.W.Fast.tw12780196526963667496 : Unit := ()
def PySem.W.Fast.tw7184458053338046012 : Unit := ()
def PySem.W.Fast.tw10460456089771927090 : Unit := ()
def PySem.W.Fast.tw17105992282680530397 : Unit := ()
def PySem.W.Fast.tw15281844982493493320 : Unit := ()
def PySem.W.Fast.tw6968384060228259946 : Unit := ()
def PySem.W.Fast.tw1476309448058896063 : Unit := ()
def PySem.W.Fast.tw9458247751780600647 : Unit := ()
def PySem.W.Fast.tw4756841507782069549 : Unit := ()
def PySem.W.Fast.tw1339348554116406461 : Unit := ()
def PySem.W.Fast.tw14378258986663840622 : Unit := ()
def PySem.W.Fast.tw14022141193470820307 : Unit := ()
def PySem.W.Fast.tw9797919988726326410 : Unit := ()
def PySem.W.Fast.tw3598999689589169244 : Unit := ()
def PySem.W.Fast.tw3201125998836609714 : Unit := ()
def PySem.W.Fast.tw15603472755838958128 : Unit := ()
def PySem.W.Fast.tw14444820275153412839 : Unit := ()
def PySem.W.Fast.tw8135649239429137835 : Unit := ()
def PySem.W.Fast.tw7579719403435235101 : Unit := ()
def PySem.W.Fast.tw15959441670715960093 : Unit := ()
def PySem.W.Fast.tw14508373707385470481 : Unit := ()
def PySem.W.Fast.tw470734994220155423 : Unit := ()
def PySem.W.Fast.tw6162716165160146006 : Unit := ()
def PySem.W.Fast.tw6081399184496120221 : Unit := ()
def PySem.W.Fast.tw4595911579458881126 : Unit := ()
def PySem.W.Fast.tw2129841977440720956 : Unit := ()
def PySem.W.Fast.tw10201582200955922524 : Unit := ()
def PySem.W.Fast.tw3763276014213648684 : Unit := ()
def PySem.W.Fast.tw18113392510688915695 : Unit := ()
def PySem.W.Fast.tw1737750193779308177 : Unit := ()
def PySem.W.Fast.tw12353613420338732643 : Unit := ()
def PySem.W.Fast.tw11490070962972596494 : Unit := ()
def PySem.W.Fast.tw508592296506797863 : Unit := ()
def PySem.W.Fast.tw7050412310547553886 : Unit := ()
def PySem.W.Fast.tw4270849498189885592 : Unit := ()
def PySem.W.Fast.tw16908975390462199553 : Unit := ()
def PySem.W.Fast.tw3311823508613120480 : Unit := ()
def PySem.W.Fast.tw14395824711466600395 : Unit := ()
def PySem.W.Fast.tw13925809210127953857 : Unit := ()
def PySem.W.Fast.tw1236393308759245361 : Unit := ()
def PySem.W.Fast.tw1998121774331644266 : Unit := ()
def PySem.W.Fast.tw1664758294527006739 : Unit := ()
def PySem.W.Fast.tw13851802230419288444 : Unit := ()
def PySem.W.Fast.tw5079233671032117384 : Unit := ()
def PySem.W.Fast.tw14870405677049808958 : Unit := ()
def PySem.W.Fast.tw11562755565543023428 : Unit := ()
def PySem.W.Fast.tw9962818764156249506 : Unit := ()
def PySem.W.Fast.tw10939509688200044854 : Unit := ()
def PySem.W.Fast.tw6540132414075358469 : Unit := ()
def PySem.W.Fast.tw15710867375484399204 : Unit := ()
def PySem.W.Fast.tw14395105748918951117 : Unit := ()
def PySem.W.Fast.tw15920904991545172705 : Unit := ()
def PySem.W.Fast.tw9340950823179034266 : Unit := ()
def PySem.W.Fast.tw6050403799348104209 : Unit := ()
def PySem.W.Fast.tw6511099318789582071 : Unit := ()
def PySem.W.Fast.tw11060559168630544842 : Unit := ()
def PySem.W.Fast.tw3849745769565488014 : Unit := ()
def PySem.W.Fast.tw3666267939875151186 : Unit := ()
def PySem.W.Fast.tw7181269768423740281 : Unit := ()
def PySem.W.Fast.tw12456047158399932568 : Unit := ()
def PySem.W.Fast.tw12227809136748800535 : Unit := ()
def PySem.W.Fast.tw6406630227109302284 : Unit := ()
def PySem.W.Fast.tw6174839471483518723 : Unit := ()
def PySem.W.Fast.tw8424222083630121788 : Unit := ()
def PySem.W.Fast.tw13015611189801142650 : Unit := ()
def PySem.W.Fast.tw4132595113560473558 : Unit := ()
def PySem.W.Fast.tw12102951908441866879 : Unit := ()
def PySem.W.Fast.tw4660206200480046587 : Unit := ()
def PySem.W.Fast.tw2635874014286721117 : Unit := ()
def PySem.W.Fast.tw12662366130727680865 : Unit := ()
def PySem.W.Fast.tw11901218968346502496 : Unit := ()
def PySem.W.Fast.tw10673191876401249684 : Unit := ()
def PySem.W.Fast.tw976626994956189564 : Unit := ()
def PySem.W.Fast.tw6276377031723538099 : Unit := ()
def PySem.W.Fast.tw3484025797333827793 : Unit := ()
def PySem.W.Fast.tw3317723403540436700 : Unit := ()
def PySem.W.Fast.tw15514209005336823210 : Unit := ()
def PySem.W.Fast.tw14796706539232812209 : Unit := ()
def PySem.W.Fast.tw18433078476919904378 : Unit := ()
def PySem.W.Fast.tw12165491665581884420 : Unit := ()
def PySem.W.Fast.tw4777001669632783290 : Unit := ()
def PySem.W.Fast.tw192500962774486022 : Unit := ()
def PySem.W.Fast.tw386821544496380132 : Unit := ()
def PySem.W.Fast.tw8679680549323868139 : Unit := ()
def PySem.W.Fast.tw3688351907964518322 : Unit := ()
def PySem.W.Fast.tw4301175530702949991 : Unit := ()
def PySem.W.Fast.tw18396159447193776248 : Unit := ()
def PySem.W.Fast.tw16448090916535444111 : Unit := ()
def PySem.W.Fast.tw10578975489798120273 : Unit := ()
def PySem.W.Fast.tw1359088788287958842 : Unit := ()
def PySem.W.Fast.tw12821062213508682923 : Unit := ()
def PySem.W.Fast.tw9357392891917205746 : Unit := ()
def PySem.W.Fast.tw3211097571683123536 : Unit := ()
def PySem.W.Fast.tw10355803315272195244 : Unit := ()
def PySem.W.Fast.tw6100911855750627352 : Unit := ()
def PySem.W.Fast.tw12264674984264441066 : Unit := ()
def PySem.W.Fast.tw76922879811633859 : Unit := ()
def PySem.W.Fast.tw8224286647918867624 : Unit := ()
def PySem.W.Fast.tw9919860184322988788 : Unit := ()
def PySem.W.Fast.tw8510854068025927479 : Unit := ()
def PySem.W.Fast.tw8496157558943637583 : Unit := ()
def PySem.W.Fast.tw2831231502604474565 : Unit := ()
def PySem.W.Fast.tw2666359257754640127 : Unit := ()
def PySem.W.Fast.tw16884314148080149998 : Unit := ()
def PySem.W.Fast.tw15747979826953963840 : Unit := ()
def PySem.W.Fast.tw14767956312349952652 : Unit := ()
def PySem.W.Fast.tw11694800018228024933 : Unit := ()
def PySem.W.Fast.tw11448097248243848013 : Unit := ()
def PySem.W.Fast.tw846153827112747180 : Unit := ()
def PySem.W.Fast.tw730069161654922990 : Unit := ()
def PySem.W.Fast.tw6884069499935058688 : Unit := ()
def PySem.W.Fast.tw6866682306346012846 : Unit := ()
def PySem.W.Fast.tw6520090709657472195 : Unit := ()
def PySem.W.Fast.tw5551924062031419256 : Unit := ()
def PySem.W.Fast.tw5110432152805463993 : Unit := ()
def PySem.W.Fast.tw4270756921695776191 : Unit := ()
def PySem.W.Fast.tw14295718842858921598 : Unit := ()
def PySem.W.Fast.tw13035436456393812154 : Unit := ()
def PySem.W.Fast.tw11757959250224452847 : Unit := ()
def PySem.W.Fast.tw527912909867774594 : Unit := ()
def PySem.W.Fast.tw7555911630472215918 : Unit := ()
def PySem.W.Fast.tw6774864352389766185 : Unit := ()
def PySem.W.Fast.tw3625798391293167001 : Unit := ()
def PySem.W.Fast.tw3589282108007795431 : Unit := ()
def PySem.W.Fast.tw314512830187266575 : Unit := ()
def PySem.W.Fast.tw2891903279379863157 : Unit := ()
def PySem.W.Fast.tw2891002160079982491 : Unit := ()
def PySem.W.Fast.tw2645597426426873227 : Unit := ()
def PySem.W.Fast.tw7968898921131212824 : Unit := ()
def PySem.W.Fast.tw7072489348975923218 : Unit := ()
def PySem.W.Fast.tw6620389193615847412 : Unit := ()
def PySem.W.Fast.tw6175296965404241030 : Unit := ()
def PySem.W.Fast.tw15792913575796431992 : Unit := ()
def PySem.W.Fast.tw14892053362449123520 : Unit := ()
def PySem.W.Fast.tw10951507864807766951 : Unit := ()
def PySem.W.Fast.tw10726116956984082365 : Unit := ()
def PySem.W.Fast.tw1039483543730844934 : Unit := ()
def PySem.W.Fast.tw10313189485172753476 : Unit := ()
def PySem.W.Fast.tw9861711100948199316 : Unit := ()
def PySem.W.Fast.tw9803467815838849242 : Unit := ()
def PySem.W.Fast.tw97650797378035945 : Unit := ()
def PySem.W.Fast.tw9515576084390211087 : Unit := ()
def PySem.W.Fast.tw9310385981687880291 : Unit := ()
def PySem.W.Fast.tw9154709546958786044 : Unit := ()
def PySem.W.Fast.tw9095927424507589896 : Unit := ()
def PySem.W.Fast.tw8998706139599457071 : Unit := ()
def PySem.W.Fast.tw8867144566028954260 : Unit := ()
def PySem.W.Fast.tw8842151671152173678 : Unit := ()
def PySem.W.Fast.tw8564070058036692417 : Unit := ()
def PySem.W.Fast.tw8551223707736168145 : Unit := ()
def PySem.W.Fast.tw8426483926208870014 : Unit := ()
def PySem.W.Fast.tw836988441482440556 : Unit := ()
def PySem.W.Fast.tw827662208743067811 : Unit := ()
def PySem.W.Fast.tw810882653741867124 : Unit := ()
def PySem.W.Fast.tw8073322185933557685 : Unit := ()
def PySem.W.Fast.tw8051052388160118765 : Unit := ()
def PySem.W.Fast.tw8044822977582535207 : Unit := ()
def PySem.W.Fast.tw8035078270169210959 : Unit := ()
def PySem.W.Fast.tw8024958484104735248 : Unit := ()
def PySem.W.Fast.tw8007437087678837847 : Unit := ()
def PySem.W.Fast.tw7887269523087557738 : Unit := ()
def PySem.W.Fast.tw7847858622768159512 : Unit := ()
def PySem.W.Fast.tw781618505589628371 : Unit := ()
def PySem.W.Fast.tw7801733022926172189 : Unit := ()
def PySem.W.Fast.tw7765671765665391459 : Unit := ()
def PySem.W.Fast.tw7445792206870080266 : Unit := ()
def PySem.W.Fast.tw7344371437434683642 : Unit := ()
def PySem.W.Fast.tw7308337425260411015 : Unit := ()
def PySem.W.Fast.tw730556226217365272 : Unit := ()
def PySem.W.Fast.tw7258199033386626112 : Unit := ()
def PySem.W.Fast.tw7201684034825830984 : Unit := ()
def PySem.W.Fast.tw7201055494308669903 : Unit := ()
def PySem.W.Fast.tw7101351493435480900 : Unit := ()
def PySem.W.Fast.tw6711590812209105682 : Unit := ()
def PySem.W.Fast.tw6693838682228875214 : Unit := ()
def PySem.W.Fast.tw6603473499355059354 : Unit := ()
def PySem.W.Fast.tw6405254653364591518 : Unit := ()
def PySem.W.Fast.tw6357140891358850596 : Unit := ()
def PySem.W.Fast.tw6240493740527373309 : Unit := ()
def PySem.W.Fast.tw6155513236583570506 : Unit := ()
def PySem.W.Fast.tw6135234610936776968 : Unit := ()
def PySem.W.Fast.tw5689369056162381469 : Unit := ()
def PySem.W.Fast.tw5674464534872547428 : Unit := ()
def PySem.W.Fast.tw5488187774338708232 : Unit := ()
def PySem.W.Fast.tw5441133205589846540 : Unit := ()
def PySem.W.Fast.tw5306393716201657392 : Unit := ()
def PySem.W.Fast.tw5286412664358346721 : Unit := ()
def PySem.W.Fast.tw5136803343059388039 : Unit := ()
def PySem.W.Fast.tw5127708497380077652 : Unit := ()
def PySem.W.Fast.tw505671095527207082 : Unit := ()
def PySem.W.Fast.tw4906403592908832830 : Unit := ()
def PySem.W.Fast.tw4787874043570172463 : Unit := ()
def PySem.W.Fast.tw4733358249995444046 : Unit := ()
def PySem.W.Fast.tw4573043753250513518 : Unit := ()
def PySem.W.Fast.tw4532723680723994353 : Unit := ()
def PySem.W.Fast.tw4402076176435404218 : Unit := ()
def PySem.W.Fast.tw4206012642786874281 : Unit := ()
def PySem.W.Fast.tw4170121083301183406 : Unit := ()
def PySem.W.Fast.tw4134519024242030618 : Unit := ()
def PySem.W.Fast.tw4114902258126783268 : Unit := ()
def PySem.W.Fast.tw4037572587995543302 : Unit := ()
def PySem.W.Fast.tw3792132984021472745 : Unit := ()
def PySem.W.Fast.tw373575985042804499 : Unit := ()
def PySem.W.Fast.tw372576521569953767 : Unit := ()
def PySem.W.Fast.tw3614499109724543968 : Unit := ()
def PySem.W.Fast.tw3270798739887932883 : Unit := ()
def PySem.W.Fast.tw2892578149694133343 : Unit := ()
def PySem.W.Fast.tw2638826898760501641 : Unit := ()
def PySem.W.Fast.tw2605812294289004751 : Unit := ()
def PySem.W.Fast.tw2554521265754771668 : Unit := ()
def PySem.W.Fast.tw2308805813441074513 : Unit := ()
def PySem.W.Fast.tw2162817132381762373 : Unit := ()
def PySem.W.Fast.tw215250278630736164 : Unit := ()
def PySem.W.Fast.tw2152321179998060323 : Unit := ()
def PySem.W.Fast.tw1916422572500212221 : Unit := ()
def PySem.W.Fast.tw18291591241624658649 : Unit := ()
def PySem.W.Fast.tw1811725006412095343 : Unit := ()
def PySem.W.Fast.tw18088850774805979287 : Unit := ()
def PySem.W.Fast.tw17833376302375171828 : Unit := ()
def PySem.W.Fast.tw17827970508191389259 : Unit := ()
def PySem.W.Fast.tw1763713925521732358 : Unit := ()
def PySem.W.Fast.tw17280671882963587414 : Unit := ()
def PySem.W.Fast.tw17218469448982430850 : Unit := ()
def PySem.W.Fast.tw16957326018705019423 : Unit := ()
def PySem.W.Fast.tw16905057304379904956 : Unit := ()
def PySem.W.Fast.tw16850237580279264599 : Unit := ()
def PySem.W.Fast.tw16746107196104135039 : Unit := ()
def PySem.W.Fast.tw16401781130204384760 : Unit := ()
def PySem.W.Fast.tw16370046011450336077 : Unit := ()
def PySem.W.Fast.tw16319151387138302518 : Unit := ()
def PySem.W.Fast.tw16286702198031075543 : Unit := ()
def PySem.W.Fast.tw1623264626838435888 : Unit := ()
def PySem.W.Fast.tw16007386976301992458 : Unit := ()
def PySem.W.Fast.tw16000675076056211513 : Unit := ()
def PySem.W.Fast.tw15799388397039596374 : Unit := ()
def PySem.W.Fast.tw15707244455038567580 : Unit := ()
def PySem.W.Fast.tw15673694913049098140 : Unit := ()
def PySem.W.Fast.tw15598166049499781226 : Unit := ()
def PySem.W.Fast.tw15409340377990042868 : Unit := ()
def PySem.W.Fast.tw15381523787662092129 : Unit := ()
def PySem.W.Fast.tw15381277760351972105 : Unit := ()
def PySem.W.Fast.tw15295767312440231171 : Unit := ()
def PySem.W.Fast.tw15121019525671046902 : Unit := ()
def PySem.W.Fast.tw15001567865472476893 : Unit := ()
def PySem.W.Fast.tw14840661073563448610 : Unit := ()
def PySem.W.Fast.tw14679843010264973599 : Unit := ()
def PySem.W.Fast.tw14620721286769043867 : Unit := ()
def PySem.W.Fast.tw14583053113425373253 : Unit := ()
def PySem.W.Fast.tw14386809076763730719 : Unit := ()
def PySem.W.Fast.tw14358482617041523558 : Unit := ()
def PySem.W.Fast.tw1421660133614290640 : Unit := ()
def PySem.W.Fast.tw14209886366440020247 : Unit := ()
def PySem.W.Fast.tw14146488776961155021 : Unit := ()
def PySem.W.Fast.tw13998826603094414425 : Unit := ()
def PySem.W.Fast.tw13996126270859111686 : Unit := ()
def PySem.W.Fast.tw13966404692137517427 : Unit := ()
def PySem.W.Fast.tw13752801357516158113 : Unit := ()
def PySem.W.Fast.tw13734907701762388948 : Unit := ()
def PySem.W.Fast.tw13585544916536069313 : Unit := ()
def PySem.W.Fast.tw13520407041265256279 : Unit := ()
def PySem.W.Fast.tw13486205795159162602 : Unit := ()
def PySem.W.Fast.tw13479819198198849543 : Unit := ()
def PySem.W.Fast.tw13467224994830605539 : Unit := ()
def PySem.W.Fast.tw12905627873554317832 : Unit := ()
def PySem.W.Fast.tw12803934842354419025 : Unit := ()
def PySem.W.Fast.tw1270468843953242311 : Unit := ()
def PySem.W.Fast.tw12597628634838716643 : Unit := ()
def PySem.W.Fast.tw1255938625107427112 : Unit := ()
def PySem.W.Fast.tw12032614306264625860 : Unit := ()
def PySem.W.Fast.tw11922068739421089414 : Unit := ()
def PySem.W.Fast.tw11702767462562564103 : Unit := ()
def PySem.W.Fast.tw11529560629906611939 : Unit := ()
def PySem.W.Fast.tw11333779047293345303 : Unit := ()
def PySem.W.Fast.tw11271650316885298542 : Unit := ()
def PySem.W.Fast.tw11266922525510195957 : Unit := ()
def PySem.W.Fast.tw11263472441668108094 : Unit := ()
def PySem.W.Fast.tw11222651257321829328 : Unit := ()
def PySem.W.Fast.tw11149556542073107305 : Unit := ()
def PySem.W.Fast.tw11027630694281483199 : Unit := ()
def PySem.W.Fast.tw11022575363405588941 : Unit := ()
def PySem.W.Fast.tw10954674451726697685 : Unit := ()
def PySem.W.Fast.tw1087547592434908212 : Unit := ()
def PySem.W.Fast.tw10812329117392875951 : Unit := ()
def PySem.W.Fast.tw1079495715037378841 : Unit := ()
def PySem.W.Fast.tw10219345989720765993 : Unit := ()
def PySem.W.Fast.tw4171166863099325680 : Unit := ()
def PySem.W.Fast.tw8828058205284602057 : Unit := ()
def PySem.W.Fast.tw1722079941867103393 : Unit := ()
def PySem.W.Fast.tw12585528209306855214 : Unit := ()
def PySem.W.Fast.tw13772331086140409286 : Unit := ()
def PySem.W.Fast.tw15191837370038970735 : Unit := ()
def PySem.W.Fast.tw11815845446886301669 : Unit := ()
def PySem.W.Fast.tw4506388384293792797 : Unit := ()
def PySem.W.Fast.tw11429178418676961566 : Unit := ()
def PySem.W.Fast.tw4098811456675018245 : Unit := ()
def PySem.W.Fast.tw7336238216261841927 : Unit := ()
def PySem.W.Fast.tw13480026666700949565 : Unit := ()
def PySem.W.Fast.tw6796720964388358627 : Unit := ()
def PySem.W.Fast.tw17452609314717008397 : Unit := ()
def PySem.W.Fast.tw2515336386228298514 : Unit := ()
def PySem.W.Fast.tw12368016561838927136 : Unit := ()
def PySem.W.Fast.tw13119634098255916974 : Unit := ()
open PySem PySem.W PyProof.Rows
set_option maxRecDepth 100000 in
set_option maxHeartbeats 0 in
theorem PySem.Challenge.cw_uprow_k07_answers_by_hand_holds : PySem.Challenge.rw_uprow_k07_answers_by_hand.Holds := by
  w_on; o_law; k_head; (case hw => w_witness2)
  k_fill
  refine K1.walk (l := PySem.Challenge.rw_uprow_k07_answers_by_hand) rfl rfl (fun w h Y => PySem.W.kIn_of Y) ?F
  case F =>
    intro w mg fa h KX G hmg
    refine' K1.all_mk (cAnswer := (0 : Nat)) KX G hmg ?aL ?lL ?cL ?kL ?G0 ?G1 ?G2 ?G3 ?G4 ?G5 ?G6 ?G7 ?G8 ?G9 ?G10 ?G11 ?G12 ?G13 ?G14 ?G15 ?G16 ?G17 ?G18 ?G19 ?G20 ?G21 ?G22 ?G23 ?G24 ?G25 ?G26 ?G27 ?G28 ?G29 ?G30 ?G31 ?G32 ?G33 ?G34 ?G35 ?G36 ?G37 ?G38 ?G39 ?G40 ?G41 ?G42 ?G43 ?G44 ?G45 ?G46 ?G47 ?G48 ?G49 ?G50 ?G51 ?G52 ?G53 ?G54 ?G55 ?G56 ?G57 ?G58 ?G59 ?G60 ?G61 ?G62 ?G63 ?G64 ?G65 ?G66 ?G67 ?G68 ?G69 ?G70 ?G71 ?G72 ?G73 ?G74 ?G75 ?G76 ?G77 ?G78 ?G79 ?G80 ?G81 ?G82 ?bnM
    (case aL => k_is); (case lL => k_is); (case cL => k_is); (case kL => k_is)
    (case G0 =>
      refine' L2.clsA_mk KX G ?a ?b1 ?b2 ?b3 ?b4 ?b5 ?b6 ?b7 ?b8
      (case a => k_is); (case b1 => k_is); (case b2 => k_is); (case b3 => k_is); (case b4 => k_is); (case b5 => k_is); (case b6 => k_is); (case b7 => k_is); (case b8 => k_is))
    (case G1 =>
      refine' L2.clsA_mk KX G ?a ?b1 ?b2 ?b3 ?b4 ?b5 ?b6 ?b7 ?b8
      (case a => k_is); (case b1 => k_is); (case b2 => k_is); (case b3 => k_is); (case b4 => k_is); (case b5 => k_is); (case b6 => k_is); (case b7 => k_is); (case b8 => k_is))
    (case G2 =>
      refine' L2.clsA_mk KX G ?a ?b1 ?b2 ?b3 ?b4 ?b5 ?b6 ?b7 ?b8
      (case a => k_is); (case b1 => k_is); (case b2 => k_is); (case b3 => k_is); (case b4 => k_is); (case b5 => k_is); (case b6 => k_is); (case b7 => k_is); (case b8 => k_is))
    (case G3 =>
      refine' L2.clsA_mk KX G ?a ?b1 ?b2 ?b3 ?b4 ?b5 ?b6 ?b7 ?b8
      (case a => k_is); (case b1 => k_is); (case b2 => k_is); (case b3 => k_is); (case b4 => k_is); (case b5 => k_is); (case b6 => k_is); (case b7 => k_is); (case b8 => k_is))
    (case G4 =>
      refine' L2.clsA_mk KX G ?a ?b1 ?b2 ?b3 ?b4 ?b5 ?b6 ?b7 ?b8
      (case a => k_is); (case b1 => k_is); (case b2 => k_is); (case b3 => k_is); (case b4 => k_is); (case b5 => k_is); (case b6 => k_is); (case b7 => k_is); (case b8 => k_is))
    (case G5 =>
      refine' ⟨?n0, ?n1, ?n2⟩
      (case n0 => show PySem.W.findIn _ (.ref _) _ = some none; k_is); (case n1 => show PySem.W.findIn _ (.ref _) _ = some none; k_is); (case n2 => show PySem.W.findIn _ (.ref _) _ = some none; k_is))
    (case G6 =>
      refine' ⟨?n0, ?n1⟩
      (case n0 => show PySem.W.findIn _ (.ref _) _ = some none; k_is); (case n1 => show PySem.W.findIn _ (.ref _) _ = some none; k_is))
    (case G7 =>
      refine' ⟨?n0⟩
      (case n0 => show PySem.W.findIn _ (.ref _) _ = some none; k_is))
    (case G8 =>
      refine' ⟨?n0, ?n1⟩
      (case n0 => show PySem.W.findIn _ (.ref _) _ = some none; k_is); (case n1 => show PySem.W.findIn _ (.ref _) _ = some none; k_is))
    (case G9 =>
      refine' ⟨?n0, ?n1⟩
      (case n0 => show PySem.W.findIn _ (.ref _) _ = some none; k_is); (case n1 => show PySem.W.findIn _ (.ref _) _ = some none; k_is))
    (case G10 =>
      refine' L2.defAt_mk KX G (fun _ _ _ _ _ _ us hl => match us, hl with | [_], _ => rfl) ?a ?l ?c ?k
      (case a => k_is); (case l => k_is); (case c => k_is); (case k => k_is))
    (case G11 =>
      refine' L2.defAt_mk KX G (fun _ _ _ _ _ _ us hl => match us, hl with | [_], _ => rfl) ?a ?l ?c ?k
      (case a => k_is); (case l => k_is); (case c => k_is); (case k => k_is))
    (case G12 =>
      refine' L2.defAt_mk KX G (fun _ _ _ _ _ _ us hl => match us, hl with | [_], _ => rfl) ?a ?l ?c ?k
      (case a => k_is); (case l => k_is); (case c => k_is); (case k => k_is))
    (case G13 =>
      refine' L2.defAt_mk KX G (fun _ _ _ _ _ _ us hl => match us, hl with | [_], _ => rfl) ?a ?l ?c ?k
      (case a => k_is); (case l => k_is); (case c => k_is); (case k => k_is))
    (case G14 =>
      refine' L2.defAt_mk KX G (fun _ _ _ _ _ _ us hl => match us, hl with | [_], _ => rfl) ?a ?l ?c ?k
      (case a => k_is); (case l => k_is); (case c => k_is); (case k => k_is))
    (case G15 =>
      refine' L2.defAt_mk KX G (fun _ _ _ _ _ _ us hl => match us, hl with | [_], _ => rfl) ?a ?l ?c ?k
      (case a => k_is); (case l => k_is); (case c => k_is); (case k => k_is))
    (case G16 =>
      refine' L2.defAt_mk KX G (fun _ _ _ _ _ _ us hl => match us, hl with | [_], _ => rfl) ?a ?l ?c ?k
      (case a => k_is); (case l => k_is); (case c => k_is); (case k => k_is))
    (case G17 =>
      refine' L2.defAt_mk KX G (fun _ _ _ _ _ _ us hl => match us, hl with | [_, _], _ => rfl) ?a ?l ?c ?k
      (case a => k_is); (case l => k_is); (case c => k_is); (case k => k_is))
    (case G18 =>
      refine' L2.initAt_mk KX G (fun _ _ _ _ _ _ us hl => match us, hl with | [_, _, _, _], _ => rfl) ?a ?i ?l ?c ?k ?nq ?mq ?pq
      (case a => k_is); (case i => k_is); (case l => k_is); (case c => k_is); (case k => k_is); (case nq => k_is); (case mq => k_is); (case pq => k_is))
    (case G19 =>
      refine' L2.defAt_mk KX G (fun _ _ _ _ _ _ us hl => match us, hl with | [_], _ => rfl) ?a ?l ?c ?k
      (case a => k_is); (case l => k_is); (case c => k_is); (case k => k_is))
    (case G20 =>
      refine' L2.defAt_mk KX G (fun _ _ _ _ _ _ us hl => match us, hl with | [_, _], _ => rfl) ?a ?l ?c ?k
      (case a => k_is); (case l => k_is); (case c => k_is); (case k => k_is))
    (case G21 =>
      refine' L2.defAt_mk KX G (fun _ _ _ _ _ _ us hl => match us, hl with | [_], _ => rfl) ?a ?l ?c ?k
      (case a => k_is); (case l => k_is); (case c => k_is); (case k => k_is))
    (case G22 =>
      refine' L2.defAt_mk KX G (fun _ _ _ _ _ _ us hl => match us, hl with | [_], _ => rfl) ?a ?l ?c ?k
      (case a => k_is); (case l => k_is); (case c => k_is); (case k => k_is))
    (case G23 =>
      refine' L2.defAt_mk KX G (fun _ _ _ _ _ _ us hl => match us, hl with | [_], _ => rfl) ?a ?l ?c ?k
      (case a => k_is); (case l => k_is); (case c => k_is); (case k => k_is))
    (case G24 =>
      refine' L2.defAt_mk KX G (fun _ _ _ _ _ _ us hl => match us, hl with | [_], _ => rfl) ?a ?l ?c ?k
      (case a => k_is); (case l => k_is); (case c => k_is); (case k => k_is))
    (case G25 =>
      refine' L2.defAt_mk KX G (fun _ _ _ _ _ _ us hl => match us, hl with | [_, _, _, _], _ => rfl) ?a ?l ?c ?k
      (case a => k_is); (case l => k_is); (case c => k_is); (case k => k_is))
    (case G26 =>
      refine' L2.defAt_mk KX G (fun _ _ _ _ _ _ us hl => match us, hl with | [_, _], _ => rfl) ?a ?l ?c ?k
      (case a => k_is); (case l => k_is); (case c => k_is); (case k => k_is))
    (case G27 =>
      refine' L2.defAt_mk KX G (fun _ _ _ _ _ _ us hl => match us, hl with | [_, _], _ => rfl) ?a ?l ?c ?k
      (case a => k_is); (case l => k_is); (case c => k_is); (case k => k_is))
    (case G28 =>
      refine' L2.defAt_mk KX G (fun _ _ _ _ _ _ us hl => match us, hl with | [_], _ => rfl) ?a ?l ?c ?k
      (case a => k_is); (case l => k_is); (case c => k_is); (case k => k_is))
    (case G29 =>
      refine' L2.defAt_mk KX G (fun _ _ _ _ _ _ us hl => match us, hl with | [_, _], _ => rfl) ?a ?l ?c ?k
      (case a => k_is); (case l => k_is); (case c => k_is); (case k => k_is))
    (case G30 =>
      refine' L2.defAt_mk KX G (fun _ _ _ _ _ _ us hl => match us, hl with | [_, _, _], _ => rfl) ?a ?l ?c ?k
      (case a => k_is); (case l => k_is); (case c => k_is); (case k => k_is))
    (case G31 =>
      refine' L2.defAt_mk KX G (fun _ _ _ _ _ _ us hl => match us, hl with | [_, _, _], _ => rfl) ?a ?l ?c ?k
      (case a => k_is); (case l => k_is); (case c => k_is); (case k => k_is))
    (case G32 =>
      refine' L2.defAt_mk KX G (fun _ _ _ _ _ _ us hl => match us, hl with | [_, _], _ => rfl) ?a ?l ?c ?k
      (case a => k_is); (case l => k_is); (case c => k_is); (case k => k_is))
    (case G33 =>
      refine' L2.defAt_mk KX G (fun _ _ _ _ _ _ us hl => match us, hl with | [_, _], _ => rfl) ?a ?l ?c ?k
      (case a => k_is); (case l => k_is); (case c => k_is); (case k => k_is))
    (case G34 =>
      refine' L2.defAt_mk KX G (fun _ _ _ _ _ _ us hl => match us, hl with | [_, _], _ => rfl) ?a ?l ?c ?k
      (case a => k_is); (case l => k_is); (case c => k_is); (case k => k_is))
    (case G35 =>
      refine' L2.methAt_mk (fun _ _ _ _ _ _ us hl => match us, hl with | [_, _], _ => rfl) ?a ?i ?l ?c ?k
      (case a => k_is); (case i => k_is); (case l => k_is); (case c => k_is); (case k => k_is))
    (case G36 =>
      refine' L2.defAt_mk KX G (fun _ _ _ _ _ _ us hl => match us, hl with | [_, _], _ => rfl) ?a ?l ?c ?k
      (case a => k_is); (case l => k_is); (case c => k_is); (case k => k_is))
    (case G37 =>
      refine' L2.defAt_mk KX G (fun _ _ _ _ _ _ us hl => match us, hl with | [_, _], _ => rfl) ?a ?l ?c ?k
      (case a => k_is); (case l => k_is); (case c => k_is); (case k => k_is))
    (case G38 =>
      refine' L2.defAt_mk KX G (fun _ _ _ _ _ _ us hl => match us, hl with | [_, _], _ => rfl) ?a ?l ?c ?k
      (case a => k_is); (case l => k_is); (case c => k_is); (case k => k_is))
    (case G39 =>
      refine' L2.defAt_mk KX G (fun _ _ _ _ _ _ us hl => match us, hl with | [_, _, _], _ => rfl) ?a ?l ?c ?k
      (case a => k_is); (case l => k_is); (case c => k_is); (case k => k_is))
    (case G40 =>
      refine' L2.defAt_mk KX G (fun _ _ _ _ _ _ us hl => match us, hl with | [_, _], _ => rfl) ?a ?l ?c ?k
      (case a => k_is); (case l => k_is); (case c => k_is); (case k => k_is))
    (case G41 =>
      refine' L2.defAt_mk KX G (fun _ _ _ _ _ _ us hl => match us, hl with | [_], _ => rfl) ?a ?l ?c ?k
      (case a => k_is); (case l => k_is); (case c => k_is); (case k => k_is))
    (case G42 =>
      refine' L2.defAt_mk KX G (fun _ _ _ _ _ _ us hl => match us, hl with | [_, _], _ => rfl) ?a ?l ?c ?k
      (case a => k_is); (case l => k_is); (case c => k_is); (case k => k_is))
    (case G43 =>
      refine' L2.defAt_mk KX G (fun _ _ _ _ _ _ us hl => match us, hl with | [_, _], _ => rfl) ?a ?l ?c ?k
      (case a => k_is); (case l => k_is); (case c => k_is); (case k => k_is))
    (case G44 =>
      refine' L2.defAt_mk KX G (fun _ _ _ _ _ _ us hl => match us, hl with | [_, _, _], _ => rfl) ?a ?l ?c ?k
      (case a => k_is); (case l => k_is); (case c => k_is); (case k => k_is))
    (case G45 =>
      refine' L2.defAt_mk KX G (fun _ _ _ _ _ _ us hl => match us, hl with | [_, _, _], _ => rfl) ?a ?l ?c ?k
      (case a => k_is); (case l => k_is); (case c => k_is); (case k => k_is))
    (case G46 =>
      refine' L2.defAt_mk KX G (fun _ _ _ _ _ _ us hl => match us, hl with | [_, _, _], _ => rfl) ?a ?l ?c ?k
      (case a => k_is); (case l => k_is); (case c => k_is); (case k => k_is))
    (case G47 =>
      refine' L2.defAt_mk KX G (fun _ _ _ _ _ _ us hl => match us, hl with | [_, _, _], _ => rfl) ?a ?l ?c ?k
      (case a => k_is); (case l => k_is); (case c => k_is); (case k => k_is))
    (case G48 =>
      refine' L2.defAt_mk KX G (fun _ _ _ _ _ _ us hl => match us, hl with | [_, _, _], _ => rfl) ?a ?l ?c ?k
      (case a => k_is); (case l => k_is); (case c => k_is); (case k => k_is))
    (case G49 =>
      refine' L2.initAt_mk KX G (fun _ _ _ _ _ _ us hl => match us, hl with | [_, _, _], _ => rfl) ?a ?i ?l ?c ?k ?nq ?mq ?pq
      (case a => k_is); (case i => k_is); (case l => k_is); (case c => k_is); (case k => k_is); (case nq => k_is); (case mq => k_is); (case pq => k_is))
    (case G50 =>
      refine' L2.defAt_mk KX G (fun _ _ _ _ _ _ us hl => match us, hl with | [_, _], _ => rfl) ?a ?l ?c ?k
      (case a => k_is); (case l => k_is); (case c => k_is); (case k => k_is))
    (case G51 =>
      refine' L2.defAt_mk KX G (fun _ _ _ _ _ _ us hl => match us, hl with | [_, _, _, _], _ => rfl) ?a ?l ?c ?k
      (case a => k_is); (case l => k_is); (case c => k_is); (case k => k_is))
    (case G52 =>
      refine' L2.defAt_mk KX G (fun _ _ _ _ _ _ us hl => match us, hl with | [_, _], _ => rfl) ?a ?l ?c ?k
      (case a => k_is); (case l => k_is); (case c => k_is); (case k => k_is))
    (case G53 =>
      refine' L2.defAt_mk KX G (fun _ _ _ _ _ _ us hl => match us, hl with | [_], _ => rfl) ?a ?l ?c ?k
      (case a => k_is); (case l => k_is); (case c => k_is); (case k => k_is))
    (case G54 =>
      refine' L2.defAt_mk KX G (fun _ _ _ _ _ _ us hl => match us, hl with | [_, _, _], _ => rfl) ?a ?l ?c ?k
      (case a => k_is); (case l => k_is); (case c => k_is); (case k => k_is))
    (case G55 =>
      refine' L2.methAt_mk (fun _ _ _ _ _ _ us hl => match us, hl with | [_, _, _], _ => rfl) ?a ?i ?l ?c ?k
      (case a => k_is); (case i => k_is); (case l => k_is); (case c => k_is); (case k => k_is))
    (case G56 =>
      refine' L2.defAt_mk KX G (fun _ _ _ _ _ _ us hl => match us, hl with | [_, _, _], _ => rfl) ?a ?l ?c ?k
      (case a => k_is); (case l => k_is); (case c => k_is); (case k => k_is))
    (case G57 =>
      refine' L2.defAt_mk KX G (fun _ _ _ _ _ _ us hl => match us, hl with | [_, _], _ => rfl) ?a ?l ?c ?k
      (case a => k_is); (case l => k_is); (case c => k_is); (case k => k_is))
    (case G58 =>
      refine' L2.defAt_mk KX G (fun _ _ _ _ _ _ us hl => match us, hl with | [_, _], _ => rfl) ?a ?l ?c ?k
      (case a => k_is); (case l => k_is); (case c => k_is); (case k => k_is))
    (case G59 =>
      refine' L2.defAt_mk KX G (fun _ _ _ _ _ _ us hl => match us, hl with | [_, _], _ => rfl) ?a ?l ?c ?k
      (case a => k_is); (case l => k_is); (case c => k_is); (case k => k_is))
    (case G60 =>
      refine' L2.defAt_mk KX G (fun _ _ _ _ _ _ us hl => match us, hl with | [_, _], _ => rfl) ?a ?l ?c ?k
      (case a => k_is); (case l => k_is); (case c => k_is); (case k => k_is))
    (case G61 =>
      refine' L2.defAt_mk KX G (fun _ _ _ _ _ _ us hl => match us, hl with | [_, _], _ => rfl) ?a ?l ?c ?k
      (case a => k_is); (case l => k_is); (case c => k_is); (case k => k_is))
    (case G62 =>
      refine' L2.initAt_mk KX G (fun _ _ _ _ _ _ us hl => match us, hl with | [_, _], _ => rfl) ?a ?i ?l ?c ?k ?nq ?mq ?pq
      (case a => k_is); (case i => k_is); (case l => k_is); (case c => k_is); (case k => k_is); (case nq => k_is); (case mq => k_is); (case pq => k_is))
    (case G63 =>
      refine' L2.defAt_mk KX G (fun _ _ _ _ _ _ us hl => match us, hl with | [_, _], _ => rfl) ?a ?l ?c ?k
      (case a => k_is); (case l => k_is); (case c => k_is); (case k => k_is))
    (case G64 =>
      refine' L2.defAt_mk KX G (fun _ _ _ _ _ _ us hl => match us, hl with | [_, _], _ => rfl) ?a ?l ?c ?k
      (case a => k_is); (case l => k_is); (case c => k_is); (case k => k_is))
    (case G65 =>
      refine' L2.defAt_mk KX G (fun _ _ _ _ _ _ us hl => match us, hl with | [_, _], _ => rfl) ?a ?l ?c ?k
      (case a => k_is); (case l => k_is); (case c => k_is); (case k => k_is))
    (case G66 =>
      refine' L2.defAt_mk KX G (fun _ _ _ _ _ _ us hl => match us, hl with | [_, _], _ => rfl) ?a ?l ?c ?k
      (case a => k_is); (case l => k_is); (case c => k_is); (case k => k_is))
    (case G67 =>
      refine' L2.defAt_mk KX G (fun _ _ _ _ _ _ us hl => match us, hl with | [_, _, _], _ => rfl) ?a ?l ?c ?k
      (case a => k_is); (case l => k_is); (case c => k_is); (case k => k_is))
    (case G68 =>
      refine' L2.defAt_mk KX G (fun _ _ _ _ _ _ us hl => match us, hl with | [_], _ => rfl) ?a ?l ?c ?k
      (case a => k_is); (case l => k_is); (case c => k_is); (case k => k_is))
    (case G69 =>
      refine' L2.defAt_mk KX G (fun _ _ _ _ _ _ us hl => match us, hl with | [_], _ => rfl) ?a ?l ?c ?k
      (case a => k_is); (case l => k_is); (case c => k_is); (case k => k_is))
    (case G70 =>
      refine' L2.defAt_mk KX G (fun _ _ _ _ _ _ us hl => match us, hl with | [_, _], _ => rfl) ?a ?l ?c ?k
      (case a => k_is); (case l => k_is); (case c => k_is); (case k => k_is))
    (case G71 =>
      refine' L2.defAt_mk KX G (fun _ _ _ _ _ _ us hl => match us, hl with | [_], _ => rfl) ?a ?l ?c ?k
      (case a => k_is); (case l => k_is); (case c => k_is); (case k => k_is))
    (case G72 =>
      refine' L2.defAt_mk KX G (fun _ _ _ _ _ _ us hl => match us, hl with | [_, _, _], _ => rfl) ?a ?l ?c ?k
      (case a => k_is); (case l => k_is); (case c => k_is); (case k => k_is))
    (case G73 =>
      refine' L2.methAt_mk (fun _ _ _ _ _ _ us hl => match us, hl with | [_, _, _], _ => rfl) ?a ?i ?l ?c ?k
      (case a => k_is); (case i => k_is); (case l => k_is); (case c => k_is); (case k => k_is))
    (case G74 =>
      refine' L2.defAt_mk KX G (fun _ _ _ _ _ _ us hl => match us, hl with | [_, _, _], _ => rfl) ?a ?l ?c ?k
      (case a => k_is); (case l => k_is); (case c => k_is); (case k => k_is))
    (case G75 =>
      refine' L2.initAt_mk KX G (fun _ _ _ _ _ _ us hl => match us, hl with | [_, _, _], _ => rfl) ?a ?i ?l ?c ?k ?nq ?mq ?pq
      (case a => k_is); (case i => k_is); (case l => k_is); (case c => k_is); (case k => k_is); (case nq => k_is); (case mq => k_is); (case pq => k_is))
    (case G76 =>
      refine' L2.defAt_mk KX G (fun _ _ _ _ _ _ us hl => match us, hl with | [_], _ => rfl) ?a ?l ?c ?k
      (case a => k_is); (case l => k_is); (case c => k_is); (case k => k_is))
    (case G77 =>
      refine' L2.defAt_mk KX G (fun _ _ _ _ _ _ us hl => match us, hl with | [_, _], _ => rfl) ?a ?l ?c ?k
      (case a => k_is); (case l => k_is); (case c => k_is); (case k => k_is))
    (case G78 =>
      refine' L2.methAt_mk (fun _ _ _ _ _ _ us hl => match us, hl with | [_, _, _], _ => rfl) ?a ?i ?l ?c ?k
      (case a => k_is); (case i => k_is); (case l => k_is); (case c => k_is); (case k => k_is))
    (case G79 =>
      refine' L2.initAt_mk KX G (fun _ _ _ _ _ _ us hl => match us, hl with | [_, _, _], _ => rfl) ?a ?i ?l ?c ?k ?nq ?mq ?pq
      (case a => k_is); (case i => k_is); (case l => k_is); (case c => k_is); (case k => k_is); (case nq => k_is); (case mq => k_is); (case pq => k_is))
    (case G80 =>
      refine' L2.methAt_mk (fun _ _ _ _ _ _ us hl => match us, hl with | [_, _, _], _ => rfl) ?a ?i ?l ?c ?k
      (case a => k_is); (case i => k_is); (case l => k_is); (case c => k_is); (case k => k_is))
    (case G81 =>
      refine' L2.defAt_mk KX G (fun _ _ _ _ _ _ us hl => match us, hl with | [_, _], _ => rfl) ?a ?l ?c ?k
      (case a => k_is); (case l => k_is); (case c => k_is); (case k => k_is))
    (case G82 =>
      refine' L2.defAt_mk KX G (fun _ _ _ _ _ _ us hl => match us, hl with | [], _ => rfl) ?a ?l ?c ?k
      (case a => k_is); (case l => k_is); (case c => k_is); (case k => k_is))
    (case bnM =>
      refine' ⟨PySem.W.mg_none_of KX G ?z0, PySem.W.mg_none_of KX G ?z1, PySem.W.mg_none_of KX G ?z2, PySem.W.mg_none_of KX G ?z3, PySem.W.mg_none_of KX G ?z4, PySem.W.mg_none_of KX G ?z5, PySem.W.mg_none_of KX G ?z6, PySem.W.mg_none_of KX G ?z7, PySem.W.mg_none_of KX G ?z8, PySem.W.mg_none_of KX G ?z9, PySem.W.mg_none_of KX G ?z10, PySem.W.mg_none_of KX G ?z11, PySem.W.mg_none_of KX G ?z12, PySem.W.mg_none_of KX G ?z13, PySem.W.mg_none_of KX G ?z14, PySem.W.mg_none_of KX G ?z15, PySem.W.mg_none_of KX G ?z16⟩
      (case z0 => k_is); (case z1 => k_is); (case z2 => k_is); (case z3 => k_is); (case z4 => k_is); (case z5 => k_is); (case z6 => k_is); (case z7 => k_is); (case z8 => k_is); (case z9 => k_is); (case z10 => k_is); (case z11 => k_is); (case z12 => k_is); (case z13 => k_is); (case z14 => k_is); (case z15 => k_is); (case z16 => k_is))
#print axioms PySem.Challenge.cw_uprow_k07_answers_by_hand_holds
