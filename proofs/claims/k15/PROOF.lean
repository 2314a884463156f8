import PyProof.Rows.All
import Wide.All
import OpenK.AllK
import Wide.FinOn
import Lean
import PyProof.EqAt
import PyProof.EqKinds
import PyProof.TupleCall
import PySem.Challenge.RW_spanways_k15_times_of_single_ways
set_option Elab.async false
set_option linter.all false
set_option maxRecDepth 100000
/-! THE HAND LAYER, for ints, bools, texts, own classes, LISTS and tuples (index, slices, in, append, pop ..), calls, loops. Paste it whole ahead of your own text; what your proof does not reach may be deleted. -/
namespace L2
open PySem PySem.Spec PyProof.Rows

abbrev Key := Sum Int Str
def keyIs : Key → Value → Bool
  | .inl k, v => Value.isInt k v
  | .inr x, v => Value.isStrOf x v
def keyH (w : World) : Key → Int
  | .inl k => hashInt k
  | .inr x => hashStr w x
theorem keyIs_shape : ∀ {k : Key} {v : Value}, keyIs k v = true → (∃ i t, k = Sum.inl i ∧ v = Value.int i t) ∨ (∃ x t, k = Sum.inr x ∧ v = Value.str x t)
  | .inl i, v, h => by
    obtain ⟨t, e⟩ := Value.isInt_shape (k := i) (v := v) h
    exact .inl ⟨i, t, rfl, e⟩
  | .inr x, v, h => by
    obtain ⟨t, e⟩ := Value.isStrOf_shape (x := x) (v := v) h
    exact .inr ⟨x, t, rfl, e⟩
theorem keyIs_int (i : Int) (t : Tok) : keyIs (.inl i) (.int i t) = true := by simp [keyIs, Value.isInt]
theorem keyIs_str (x : Str) (t : Tok) : keyIs (.inr x) (.str x t) = true := by simp [keyIs, Value.isStrOf]
theorem key_ll (a b : Int) : decide ((Sum.inl a : Key) = Sum.inl b) = (a == b) := by
  by_cases e : a = b
  · subst e; simp
  · have h : ¬ (Sum.inl a : Key) = Sum.inl b := fun q => e (Sum.inl.inj q)
    rw [decide_eq_false h]
    exact (beq_eq_false_iff_ne.mpr e).symm
theorem key_rr (a b : Str) : decide ((Sum.inr a : Key) = Sum.inr b) = decide (a = b) := by
  by_cases e : a = b
  · subst e; simp
  · have h : ¬ (Sum.inr a : Key) = Sum.inr b := fun q => e (Sum.inr.inj q)
    rw [decide_eq_false h, decide_eq_false e]
theorem key_lr (a : Int) (b : Str) : decide ((Sum.inl a : Key) = Sum.inr b) = false := decide_eq_false (fun q => nomatch q)
theorem key_rl (a : Str) (b : Int) : decide ((Sum.inr a : Key) = Sum.inl b) = false := decide_eq_false (fun q => nomatch q)

def mixKind (prog : Program) (w : World) : PySem.KeyKind prog w Key where
  is := keyIs
  hash := keyH w
  inj := fun v a b ha hb => by
    rcases keyIs_shape ha with ⟨i, t, rfl, rfl⟩ | ⟨x, t, rfl, rfl⟩
    · rcases keyIs_shape hb with ⟨j, u, rfl, e⟩ | ⟨y, u, rfl, e⟩
      · injection e with e1 _; rw [e1]
      · exact nomatch e
    · rcases keyIs_shape hb with ⟨j, u, rfl, e⟩ | ⟨y, u, rfl, e⟩
      · exact nomatch e
      · injection e with e1 _; rw [e1]
  byValue := fun k v h => by
    rcases keyIs_shape h with ⟨i, t, rfl, rfl⟩ | ⟨x, t, rfl, rfl⟩ <;> rfl
  pyHash := fun hv h => by
    rcases keyIs_shape hv with ⟨i, t, rfl, rfl⟩ | ⟨x, t, rfl, rfl⟩
    · exact wpAny_pyHash_int h
    · exact wpAny_pyHash_str h
  eqBool := fun hu hv h => by
    rcases keyIs_shape hu with ⟨i, t, rfl, rfl⟩ | ⟨x, t, rfl, rfl⟩
    · rcases keyIs_shape hv with ⟨j, u, rfl, rfl⟩ | ⟨y, u, rfl, rfl⟩
      · rw [key_ll] at h; exact wpAny_eqBool_int h
      · rw [key_lr] at h; exact SeqAt.EqAt.int_str i t y u _ _ _ _ h
    · rcases keyIs_shape hv with ⟨j, u, rfl, rfl⟩ | ⟨y, u, rfl, rfl⟩
      · rw [key_rl] at h; exact SeqAt.EqAt.str_int x t j u _ _ _ _ h
      · rw [key_rr] at h; exact wpAny_eqBool_str h
  «strs» := fun k x t v h => by
    rcases keyIs_shape h with ⟨i, u, rfl, e⟩ | ⟨y, u, rfl, e⟩
    · exact nomatch e
    · injection e with e1 _
      subst e1
      cases v <;> rfl

theorem mixKind_int (prog : Program) (w : World) (i : Int) (t : Tok) : (mixKind prog w).is (.inl i) (.int i t) = true := keyIs_int i t
theorem mixKind_str (prog : Program) (w : World) (x : Str) (t : Tok) : (mixKind prog w).is (.inr x) (.str x t) = true := keyIs_str x t
end L2

namespace L2
open PySem PySem.Spec PyProof.Rows

inductive V where
  | non | bl (b : Bool) | int (i : Int) | str (x : Str) | byt (b : Array UInt8) | flt (b : UInt64) | ref (a : Addr) | ty (n : String)
  deriving DecidableEq

def RelV : V → Value → Prop
  | .non, u => u = Value.none
  | .bl b, u => u = Value.bool b
  | .int i, u => ∃ t, u = Value.int i t
  | .str x, u => ∃ t, u = Value.str x t
  | .byt b, u => ∃ t, u = Value.bytes b t
  | .flt b, u => ∃ t, u = Value.float b t
  | .ref a, u => u = Value.ref a
  | .ty n, u => u = Value.type n

abbrev Vals : List V → List Value → Prop := Paired RelV
theorem Vals.length {xs : List V} {us : List Value} (r : Vals xs us) : xs.length = us.length := Paired.length r
theorem Vals.get : ∀ {xs : List V} {us : List Value} {i : Nat} {x : V}, Vals xs us → xs[i]? = some x → ∃ u, us[i]? = some u ∧ RelV x u
  | _, _, _, _, .nil, e => by simp at e
  | _, _, 0, _, .cons r _, e => by simp at e; subst e; exact ⟨_, rfl, r⟩
  | _, _, i + 1, x, .cons _ t, e => by
    obtain ⟨u, h1, h2⟩ := Vals.get (i := i) (x := x) t (by simpa using e)
    exact ⟨u, by simpa using h1, h2⟩
theorem Vals.set {x : V} {u : Value} (r : RelV x u) : ∀ {xs : List V} {us : List Value} (i : Nat), Vals xs us → Vals (xs.set i x) (us.set i u)
  | _, _, _, .nil => .nil
  | _, _, 0, .cons _ t => .cons r t
  | _, _, i + 1, .cons q t => .cons q (Vals.set r i t)
theorem Vals.append : ∀ {xs ys : List V} {us ws : List Value}, Vals xs us → Vals ys ws → Vals (xs ++ ys) (us ++ ws)
  | _, _, _, _, .nil, s => s
  | _, _, _, _, .cons r t, s => .cons r (Vals.append t s)
theorem Vals.take : ∀ {xs : List V} {us : List Value} (n : Nat), Vals xs us → Vals (xs.take n) (us.take n)
  | _, _, 0, _ => .nil
  | _, _, _ + 1, .nil => .nil
  | _, _, n + 1, .cons r t => .cons r (Vals.take n t)
theorem Vals.drop : ∀ {xs : List V} {us : List Value} (n : Nat), Vals xs us → Vals (xs.drop n) (us.drop n)
  | _, _, 0, r => r
  | _, _, _ + 1, .nil => .nil
  | _, _, n + 1, .cons _ t => Vals.drop n t

def RelO : Option V → Option Value → Prop
  | some v, some u => RelV v u
  | none, none => True
  | _, _ => False
def KV {κ : Type} : List (κ × V) → List (κ × Value) → Prop := Paired fun (p : κ × V) (q : κ × Value) => p.1 = q.1 ∧ RelV p.2 q.2

def kV : Key → V
  | .inl i => .int i
  | .inr x => .str x

inductive HO where
  /-- a list -/
  | lst (xs : List V)
  /-- a tuple (never changes) -/
  | tup (xs : List V)
  /-- a dict whose keys are ints and texts; one whose keys are tuples of ints and texts (the empty one is both) -/
  | dK (kvs : List (Key × V)) | dT (kvs : List (List Key × V))
  /-- a set of ints: its members, its size -/
  | set (S : Int → Bool) (n : Nat)
  /-- an instance of the class at C, its dict at dx, its attributes -/
  | ins (C dx : Addr) (fs : List (Str × V))
  /-- the dict of the instance at x -/
  | own (x : Addr)
  /-- the dict of an exception -/
  | xd (fs : List (Str × V))
  /-- a bound method, f of x -/
  | met (f x : Addr)
  /-- a range object lo, lo + 1, .. below hi -/
  | rng (lo hi : Int)
  /-- a thing that is known to the object (the script; a dict while a loop walks it): read, never written while it is so -/
  | frz (o : Obj) (u : HO)
  /-- a code object's table -/
  | tbl (ps : Array Value)
  /-- any other thing, by what is true of its one object (a def of one's own: SetO a S n := HO.ext fun h => ..) -/
  | ext (φ : Heap → Prop)

abbrev Hp := Addr → Option HO
def upd (H : Hp) (a : Addr) (o : HO) : Hp := fun b => if b = a then some o else H b
theorem upd_same {H : Hp} {a : Addr} {o : HO} : upd H a o a = some o := by unfold upd; rw [if_pos rfl]
theorem upd_ne {H : Hp} {a b : Addr} {o : HO} (h : b ≠ a) : upd H a o b = H b := by unfold upd; rw [if_neg h]
theorem ne_of {H : Hp} {a b : Addr} {o u : HO} (h : H a = some o) (h' : H b = some u) (d : o ≠ u) : a ≠ b := by
  intro e; subst e; rw [h] at h'; exact d (Option.some.inj h')
theorem ne_of_none {H : Hp} {a b : Addr} {o : HO} (h : H a = some o) (h' : H b = none) : a ≠ b := by
  intro e; subst e; rw [h] at h'; cases h'

section
variable (P : Program) (w : World)
def ObjOk (H : Hp) (h : Heap) (a : Addr) : HO → Prop
  | .lst xs => xs.length ≤ sizeLine ∧ ∃ (its : List Value) (n : Nat), Vals xs its ∧ h.get? a = some { cls := .type "list", data := .seq its.toArray n }
  | .tup xs => xs.length ≤ sizeLine ∧ ∃ its : List Value, Vals xs its ∧ IsTup h a its.toArray
  | .dK kvs => kvs.length ≤ sizeLine ∧ (a == sysModules) = false ∧ ∃ vs, KV kvs vs ∧ h.DictOf (mixKind P w) a vs
  | .dT kvs => kvs.length ≤ sizeLine ∧ (a == sysModules) = false ∧ ∃ xs : List (List Key × Addr × Value),
      Paired (fun (p : List Key × V) (q : List Key × Addr × Value) => p.1 = q.1 ∧ H q.2.1 = some (.tup (p.1.map kV)) ∧ RelV p.2 q.2.2) kvs xs ∧
      ∃ o es ep, h.get? a = some o ∧ o.ExactDict ∧ o.data = .dict es ep ∧ es.toList = xs.map (entryOfKey (tupleKind (mixKind P w))) ∧ (xs.map (·.1)).Nodup
  | .set S n => h.SetOf (intKind P w) a S n
  | .ins C dx fs => H dx = some (.own a) ∧ fs.length ≤ 1000 ∧ dx ≠ a ∧ h.get? a = some (PySem.W.instObj C dx) ∧
      ∃ mA, h.Ns1 dx mA ∧ (∀ f, RelO (fs.lookup f) (mA f)) ∧ PySem.Within mA (fs.map (·.1))
  | .own _ => ∃ o, h.get? a = some o
  | .xd fs => ∃ mA, h.Ns1 a mA ∧ ∀ f, RelO (fs.lookup f) (mA f)
  | .rng lo hi => ∃ t u v, h.get? a = some { cls := .type "range", data := .fields #[.int lo t, .int hi u, .int 1 v] }
  | .frz o u => h.get? a = some o ∧ ObjOk H h a u
  | .tbl ps => h.get? a = some { cls := .none, data := .fields ps }
  | .met f x => h.get? a = some (PySem.W.methodObj (.ref f) (.ref x))
  | .ext φ => φ h ∧ (∃ o, h.get? a = some o) ∧ ∀ h1 h2 : Heap, φ h1 → (∀ o, h1.get? a = some o → h2.get? a = some o) → φ h2
def HOk (H : Hp) (h : Heap) : Prop := ∀ a o, H a = some o → ObjOk P w H h a o
end

section
variable {P : Program} {w : World} {H H' : Hp} {h h' : Heap} {a : Addr} {o : HO}
theorem ObjOk.lt (x : ObjOk P w H h a o) : a < h.objs.size := by
  cases o with
  | lst xs => obtain ⟨_, _, _, _, e⟩ := x; exact Heap.lt_size e
  | tup xs => obtain ⟨_, _, _, p⟩ := x; exact p.lt
  | dK kvs => obtain ⟨_, _, _, _, o, _, _, e, _⟩ := x; exact Heap.lt_size e
  | dT kvs => obtain ⟨_, _, _, _, o, _, _, e, _⟩ := x; exact Heap.lt_size e
  | set S n => obtain ⟨o, _, _, _, e, _⟩ := x; exact Heap.lt_size e
  | ins C dx fs => obtain ⟨_, _, _, e, _⟩ := x; exact Heap.lt_size e
  | own y => obtain ⟨_, e⟩ := x; exact Heap.lt_size e
  | xd fs => obtain ⟨_, ⟨_, _, _, e, _⟩, _⟩ := x; exact Heap.lt_size e
  | rng lo hi => obtain ⟨_, _, _, e⟩ := x; exact Heap.lt_size e
  | frz ob u => obtain ⟨e, _⟩ := x; exact Heap.lt_size e
  | tbl ps => exact Heap.lt_size (show h.get? a = some _ from x)
  | met f y => exact Heap.lt_size (show h.get? a = some _ from x)
  | ext φ => obtain ⟨_, ⟨_, e⟩, _⟩ := x; exact Heap.lt_size e
theorem Paired.mapP {α β : Type} {F G : α → β → Prop} : ∀ {l₁ : List α} {l₂ : List β}, Paired F l₁ l₂ → (∀ a b, F a b → G a b) → Paired G l₁ l₂
  | _, _, .nil, _ => .nil
  | _, _, .cons r t, f => .cons (f _ _ r) (Paired.mapP t f)
theorem ObjOk.stay (x : ObjOk P w H h a o) (k : ∀ b u, (b = a ∨ H b = some (.own a)) → h.get? b = some u → h'.get? b = some u)
    (ho : ∀ b, H b = some (.own a) → H' b = some (.own a)) (ht : ∀ b xs, H b = some (.tup xs) → H' b = some (.tup xs)) : ObjOk P w H' h' a o := by
  induction o with
  | lst xs => obtain ⟨z, its, n, r, e⟩ := x; exact ⟨z, its, n, r, k _ _ (.inl rfl) e⟩
  | tup xs => obtain ⟨z, its, r, ob, e, c⟩ := x; exact ⟨z, its, r, ob, k _ _ (.inl rfl) e, c⟩
  | dK kvs => obtain ⟨z, y, vs, r, ob, es, ep, e, c⟩ := x; exact ⟨z, y, vs, r, ob, es, ep, k _ _ (.inl rfl) e, c⟩
  | dT kvs =>
    obtain ⟨z, y, xs, r, ob, es, ep, e, c⟩ := x
    exact ⟨z, y, xs, Paired.mapP r fun p q z => ⟨z.1, ht _ _ z.2.1, z.2.2⟩, ob, es, ep, k _ _ (.inl rfl) e, c⟩
  | set S n => obtain ⟨ob, es, ep, t, e, c⟩ := x; exact ⟨ob, es, ep, t, k _ _ (.inl rfl) e, c⟩
  | ins C dx fs =>
    obtain ⟨d, z, ne, e, mA, ⟨od, es, ep, e2, c⟩, r⟩ := x
    exact ⟨ho _ d, z, ne, k _ _ (.inl rfl) e, mA, ⟨od, es, ep, k _ _ (.inr d) e2, c⟩, r⟩
  | own y => obtain ⟨ob, e⟩ := x; exact ⟨ob, k _ _ (.inl rfl) e⟩
  | xd fs => obtain ⟨mA, ⟨od, es, ep, e, c⟩, r⟩ := x; exact ⟨mA, ⟨od, es, ep, k _ _ (.inl rfl) e, c⟩, r⟩
  | rng lo hi => obtain ⟨t, u, v, e⟩ := x; exact ⟨t, u, v, k _ _ (.inl rfl) e⟩
  | frz ob u ih => obtain ⟨e, q⟩ := x; exact ⟨k _ _ (.inl rfl) e, ih q⟩
  | tbl ps =>
    have e : h.get? a = some { cls := .none, data := .fields ps } := x
    show h'.get? a = some { cls := .none, data := .fields ps }
    exact k a _ (.inl rfl) e
  | met f y =>
    have e : h.get? a = some (PySem.W.methodObj (.ref f) (.ref y)) := x
    show h'.get? a = some (PySem.W.methodObj (.ref f) (.ref y))
    exact k a _ (.inl rfl) e
  | ext φ => obtain ⟨p, ⟨o, e⟩, st⟩ := x; exact ⟨st _ _ p fun o q => k _ _ (.inl rfl) q, ⟨o, k _ _ (.inl rfl) e⟩, st⟩
theorem HOk.lt (x : HOk P w H h) (e : H a = some o) : a < h.objs.size := (x a o e).lt
theorem HOk.fresh (x : HOk P w H h) (e : h.objs.size ≤ a) : H a = none := by
  cases q : H a with
  | none => rfl
  | some u => exact absurd (Nat.lt_of_lt_of_le (x.lt q) e) (Nat.lt_irrefl _)
theorem HOk.kept (x : HOk P w H h) (k : ∀ b u, h.get? b = some u → h'.get? b = some u) : HOk P w H h' := fun a o e =>
  (x a o e).stay (fun b u _ q => k b u q) (fun _ q => q) fun _ _ q => q
theorem HOk.laid (x : HOk P w H h) (k : ∀ b u, h.get? b = some u → h'.get? b = some u) (hp : h.objs.size ≤ a) (new : ObjOk P w (upd H a o) h' a o) : HOk P w (upd H a o) h' := fun b u e => by
  have hn := x.fresh hp
  by_cases hb : b = a
  · subst hb; rw [upd_same] at e; cases e; exact new
  · rw [upd_ne hb] at e
    exact (x b u e).stay (fun c v _ q => k c v q) (fun c q => by rw [upd_ne (ne_of_none q hn)]; exact q) fun c xs q => by rw [upd_ne (ne_of_none q hn)]; exact q
end

def Rd (H : Hp) (a : Addr) (u : HO) : Prop := H a = some u ∨ ∃ o, H a = some (.frz o u)
theorem Rd.of {H : Hp} {a : Addr} {u : HO} (h : H a = some u) : Rd H a u := .inl h
theorem Rd.ok {P : Program} {w : World} {H : Hp} {h : Heap} {a : Addr} {u : HO} (r : Rd H a u) (x : HOk P w H h) : ObjOk P w H h a u := by
  rcases r with r | ⟨o, r⟩
  · exact x a u r
  · obtain ⟨_, q⟩ := x a _ r
    exact q
def Mut : Option HO → Prop
  | some (.lst _) => True
  | some (.dK _) => True
  | some (.dT _) => True
  | some (.set _ _) => True
  | some (.ins _ _ _) => True
  | some (.ext _) => True
  | _ => False
section
variable {P : Program} {w : World} {H : Hp} {h h' : Heap} {x e : Addr} {o' : HO}
theorem HOk.write (ok : HOk P w H h) (mu : Mut (H x)) (he : e = x ∨ H e = some (.own x)) (k : ∀ b u, b ≠ e → h.get? b = some u → h'.get? b = some u) (heo : ∃ u, h'.get? e = some u)
    (new : ObjOk P w (upd H x o') h' x o') : HOk P w (upd H x o') h' := fun b u q => by
  have nown : ∀ c y, H c = some (.own y) → c ≠ x := fun c y r z => by subst z; rw [r] at mu; exact mu
  have ntup : ∀ c xs, H c = some (.tup xs) → c ≠ x := fun c xs r z => by subst z; rw [r] at mu; exact mu
  by_cases hb : b = x
  · subst hb; rw [upd_same] at q; cases q; exact new
  · rw [upd_ne hb] at q
    by_cases hbe : b = e
    · have q' : H b = some (.own x) := by
        rcases he with z | z
        · exact absurd (hbe.trans z) hb
        · rw [hbe]; exact z
      rw [q] at q'; cases q'
      obtain ⟨v, hv⟩ := heo
      exact ⟨v, by rw [hbe]; exact hv⟩
    · refine (ok b u q).stay (fun c v hc r => k c v ?_ r) (fun c r => by rw [upd_ne (nown c b r)]; exact r) fun c xs r => by rw [upd_ne (ntup c xs r)]; exact r
      rcases hc with rfl | hc
      · exact hbe
      · rintro rfl
        rcases he with z | z
        · exact nown c b hc z
        · rw [hc] at z; cases z; exact hb rfl
end

/-! ### kept unless tracked; of the frames at fs (the callers') the slots may change (an exception that passes writes there); of the records at ex (iterators) nothing is said -/
structure Un (fs ex : List Addr) (H H' : Hp) (h h' : Heap) : Prop where
  keep : ∀ b o, h.get? b = some o → H b = none → b ∉ fs → b ∉ ex → h'.get? b = some o
  slot : ∀ b o, h.get? b = some o → H b = none → b ∈ fs → b ∉ ex → ∃ sl, h'.get? b = some { o with slots := sl }
  free : ∀ b o, h.get? b = some o → H b = none → b ∉ ex → H' b = none
  there : ∀ b o, h.get? b = some o → b ∉ ex → ∃ o', h'.get? b = some o'
  tups : ∀ b xs, H b = some (.tup xs) → H' b = some (.tup xs)
  frzs : ∀ b o u, H b = some (.frz o u) → H' b = some (.frz o u)
  tbls : ∀ b ps, H b = some (.tbl ps) → ∃ more, H' b = some (.tbl (ps ++ more))
section
variable {fs fs' ex ex' : List Addr} {H H1 H2 : Hp} {h h1 h2 h' : Heap} {a x e : Addr} {o : HO}
theorem Un.any (u : Un fs ex H H1 h h1) {b : Addr} {ob : Obj} (q : h.get? b = some ob) (n : H b = none) (hx : b ∉ ex) : ∃ sl, h1.get? b = some { ob with slots := sl } := by
  by_cases hb : b ∈ fs
  · exact u.slot b ob q n hb hx
  · exact ⟨ob.slots, u.keep b ob q n hb hx⟩
theorem Un.trans (a : Un fs ex H H1 h h1) (b : Un fs ex H1 H2 h1 h2) : Un fs ex H H2 h h2 where
  keep := fun c ob q n hc hx => b.keep c ob (a.keep c ob q n hc hx) (a.free c ob q n hx) hc hx
  slot := fun c ob q n hc hx => by
    obtain ⟨sl, e1⟩ := a.slot c ob q n hc hx
    obtain ⟨sl', e2⟩ := b.slot c _ e1 (a.free c ob q n hx) hc hx
    exact ⟨sl', e2⟩
  free := fun c ob q n hx => by
    obtain ⟨o', e1⟩ := a.there c ob q hx
    exact b.free c o' e1 (a.free c ob q n hx) hx
  there := fun c ob q hx => by
    obtain ⟨o', e1⟩ := a.there c ob q hx
    exact b.there c o' e1 hx
  tups := fun c xs q => b.tups c xs (a.tups c xs q)
  frzs := fun c ob xs q => b.frzs c ob xs (a.frzs c ob xs q)
  tbls := fun c ps q => by
    obtain ⟨m1, e1⟩ := a.tbls c ps q
    obtain ⟨m2, e2⟩ := b.tbls c _ e1
    exact ⟨m1 ++ m2, by rw [e2, Array.append_assoc]⟩
theorem Un.kept (k : ∀ b u, h.get? b = some u → h'.get? b = some u) : Un fs ex H H h h' :=
  ⟨fun b ob q _ _ _ => k b ob q, fun b ob q _ _ _ => ⟨ob.slots, k b ob q⟩, fun _ _ _ n _ => n, fun b ob q _ => ⟨ob, k b ob q⟩, fun _ _ q => q, fun _ _ _ q => q, fun _ ps q => ⟨#[], by rw [q]; simp⟩⟩
theorem Un.refl : Un fs ex H H h h := Un.kept fun _ _ q => q
theorem Un.laid (k : ∀ b u, h.get? b = some u → h'.get? b = some u) (hp : h.objs.size ≤ a) (hn : H a = none) : Un fs ex H (upd H a o) h h' where
  keep := fun b u q _ _ _ => k b u q
  slot := fun b u q _ _ _ => ⟨u.slots, k b u q⟩
  free := fun b u q n _ => by rw [upd_ne (Nat.ne_of_lt (Nat.lt_of_lt_of_le (Heap.lt_size q) hp))]; exact n
  there := fun b u q _ => ⟨u, k b u q⟩
  tups := fun b xs q => by rw [upd_ne (ne_of_none q hn)]; exact q
  frzs := fun b u xs q => by rw [upd_ne (ne_of_none q hn)]; exact q
  tbls := fun b ps q => ⟨#[], by rw [upd_ne (ne_of_none q hn), q]; simp⟩
theorem Un.write (mu : Mut (H x)) (he : e = x ∨ H e = some (.own x)) (k : ∀ b u, b ≠ e → h.get? b = some u → h'.get? b = some u) (heo : ∃ u, h'.get? e = some u) : Un fs ex H (upd H x o) h h' := by
  have hx : ∀ b, H b = none → b ≠ x := fun b n z => by subst z; rw [n] at mu; exact mu
  have hb : ∀ b, H b = none → b ≠ e := fun b n z => by
    subst z
    rcases he with r | r
    · exact hx b n r
    · rw [n] at r; cases r
  have hm : ∀ b u, H b = some u → ¬ Mut (some u) → b ≠ x := fun b u q nm z => by subst z; rw [q] at mu; exact nm mu
  refine ⟨fun b u q n _ _ => k b u (hb b n) q, fun b u q n _ _ => ⟨u.slots, k b u (hb b n) q⟩, fun b u q n _ => by rw [upd_ne (hx b n)]; exact n, fun b u q _ => ?_,
    fun b xs q => by rw [upd_ne (hm b _ q fun z => z)]; exact q, fun b u xs q => by rw [upd_ne (hm b _ q fun z => z)]; exact q, fun b ps q => ⟨#[], by rw [upd_ne (hm b _ q fun z => z), q]; simp⟩⟩
  by_cases hbe : b = e
  · subst hbe; exact heo
  · exact ⟨u, k b u hbe q⟩
theorem Un.mono (u : Un fs ex H H1 h h1) (hs : ∀ b ∈ fs, b ∈ fs') (hx : ∀ b ∈ ex, b ∈ ex') : Un fs' ex' H H1 h h1 :=
  ⟨fun b ob q n hb he => u.keep b ob q n (fun z => hb (hs b z)) fun z => he (hx b z), fun _ _ q n _ he => u.any q n fun z => he (hx _ z), fun b ob q n he => u.free b ob q n fun z => he (hx b z), fun b ob q he => u.there b ob q fun z => he (hx b z), u.tups, u.frzs, u.tbls⟩
end

/-! ### the heap without what is tracked -/
def trk (h : Heap) (H : Hp) : List Addr := (List.range h.objs.size).filter fun a => (H a).isSome
def hidT (h : Heap) (H : Hp) : Heap := PySem.W.hideAll h (trk h H)
theorem hidT_size (h : Heap) (H : Hp) : (hidT h H).objs.size = h.objs.size := PySem.W.hideAll_size _ _
theorem hidT_get {h : Heap} {H : Hp} {b : Addr} {o : Obj} (e : h.get? b = some o) (n : H b = none) : (hidT h H).get? b = some o :=
  PySem.W.hideAll_get _ e fun hm => by
    have q : (H b).isSome = true := (List.mem_filter.mp hm).2
    rw [n] at q; simp at q
theorem of_hidT {h : Heap} {H : Hp} {b : Addr} {o : Obj} (e : (hidT h H).get? b = some o) : h.get? b = some o ∧ H b = none := by
  have e' : h.get? b = some o := PySem.W.of_hideAll (trk h H) e
  refine ⟨e', ?_⟩
  cases q : H b with
  | none => rfl
  | some x =>
    have hm : b ∈ trk h H := List.mem_filter.mpr ⟨List.mem_range.mpr (Heap.lt_size e'), by simp [q]⟩
    have z : (hidT h H).get? b = none := PySem.W.hideAll_none (trk h H) hm
    rw [z] at e; cases e

/-! ### OpenK's ledger, filled with every new object but one -/
def allNews (g h : Heap) (L : Addr) : List (Addr × Obj) := (List.range h.objs.size).filterMap fun a => if a = L ∨ (g.get? a).isSome = true then none else (h.get? a).map fun o => (a, o)
def rest (g h : Heap) (L d : Addr) : List (Addr × Obj) := (allNews g h L).filter fun p => decide (p.1 ≠ d)
end L2

namespace L2
open PySem PySem.Spec PyProof.Rows

structure Mod (K : PySem.W.Frag) (mg : Str → Option Value) (base : Heap) : Prop where
  kin : K.In base
  glob : base.Ns mainGlobals mg
  blt : ∃ mb, base.Ns builtinsNs mb ∧ ∀ x : Str, x ≠ "__name__" → mb x = bootBuiltins x
  nolimit : base.NoLimit

structure Cx where
  prog : Program
  w : World
  K : PySem.W.Frag
  mg : Str → Option Value
  base : Heap
  A : Around
  N : List Str
  s₀ : Shared
  H₀ : Hp
  env : Env
  outer : List Env
  stack : List Env
  ex : List Addr
  fn : Str → Bool
  calm : Bool
  pn : List (Addr × Obj)
  xe : Value → Shared → Prop
def frs (l : List Env) : List Addr := l.filterMap (·.frame)
abbrev Cx.fs (X : Cx) : List Addr := frs X.outer

def Vis (sc : Scope) (x : Str) : Prop := sc.names.lookup x = some .local ∨ sc.names.lookup x = some .cell ∨ sc.names.lookup x = some .free
def Loc (sc : Scope) (x : Str) : Prop := sc.names.lookup x = some .local ∨ sc.names.lookup x = some .cell
def Look (env : Env) (h : Heap) (m : Str → Option Value) (x : Str) (u : Value) : Prop :=
  (env.kindOf x = some .local ∧ m x = some u) ∨ ((env.kindOf x = some .cell ∨ env.kindOf x = some .free) ∧ ∃ c, env.cells.lookup x = some c ∧ h.IsCell c (some u))

structure Cx.Ok (X : Cx) : Prop where
  mod : Mod X.K X.mg X.base
  kind : X.env.scope.kind = .function
  glob : X.env.globals = mainGlobals
  blt : X.env.builtins = builtinsNs
  above : X.s₀.heap.objs.size ≤ X.env.locals
  inj : ∀ x y c, X.env.cells.lookup x = some c → X.env.cells.lookup y = some c → x = y
  has : ∀ x, (X.env.kindOf x = some .cell ∨ X.env.kindOf x = some .free) → ∃ c, X.env.cells.lookup x = some c
  cab : ∀ x c, X.fn x = true → X.env.cells.lookup x = some c → X.s₀.heap.objs.size ≤ c
  hd : X.calm = true → X.A.handled = none
  frames : X.A.frames = some X.stack
  stk : X.stack = X.outer ∨ (X.stack = X.env :: X.outer ∧ X.env.frame = some X.env.locals)
  exf : ∀ b ∈ X.ex, b ≠ X.env.locals ∧ ∀ x c, X.env.cells.lookup x = some c → c ≠ b
  bs : ∀ b o, X.base.get? b = some o → X.s₀.heap.get? b = some o ∧ X.H₀ b = none
  bsz : X.base.objs.size ≤ X.s₀.heap.objs.size
  noex : ∀ b o, X.base.get? b = some o → b ∉ X.ex
  exfs : ∀ b ∈ X.ex, b ∉ X.fs
  funs : X.s₀.heap.FunFrames X.base X.outer
  frf : ∀ b ∈ X.fs, X.H₀ b = none

structure Inv (X : Cx) (pins : List (Addr × Obj)) (σ : List (Option V)) (H : Hp) (s : Shared) : Prop where
  ok : X.Ok
  os : s.os = X.s₀.os
  bare : AllBare s.gens
  base : Un X.fs X.ex X.H₀ H X.s₀.heap s.heap
  loc : ∃ m, s.heap.Ns X.env.locals m ∧ ∀ (i : Nat) (x : Str) (v : V), X.N[i]? = some x → σ[i]? = some (some v) → Vis X.env.scope x → ∃ u, RelV v u ∧ Look X.env s.heap m x u
  cell : ∀ x c, X.env.cells.lookup x = some c → ∃ v, s.heap.IsCell c v
  free : H X.env.locals = none
  freeC : ∀ x c, X.env.cells.lookup x = some c → H c = none
  pin : ∀ p ∈ X.pn ++ pins, s.heap.get? p.1 = some p.2 ∧ H p.1 = none ∧ p.1 ≠ X.env.locals ∧ p.1 ∉ X.fs ∧ ∀ v, p.2.data ≠ .cell v
  hok : HOk X.prog X.w H s.heap
  len : σ.length = X.N.length

section
variable {X : Cx} {pins : List (Addr × Obj)} {σ : List (Option V)} {H H' : Hp} {s : Shared} {h' : Heap}

theorem Cx.Ok.nofr (ok : X.Ok) {b : Addr} {o : Obj} (e : X.base.get? b = some o) : b ∉ X.fs := fun hb => by
  have := (ok.funs.mem hb).1
  rw [e] at this; cases this
theorem Inv.bs (I : Inv X pins σ H s) : ∀ b o, X.base.get? b = some o → s.heap.get? b = some o ∧ H b = none := fun b o e =>
  ⟨I.base.keep b o (I.ok.bs b o e).1 (I.ok.bs b o e).2 (I.ok.nofr e) (I.ok.noex b o e), I.base.free b o (I.ok.bs b o e).1 (I.ok.bs b o e).2 (I.ok.noex b o e)⟩
theorem Inv.bk (I : Inv X pins σ H s) : ∀ b o, X.base.get? b = some o → s.heap.get? b = some o := fun b o e => (I.bs b o e).1
theorem Inv.mod (I : Inv X pins σ H s) : Mod X.K X.mg X.base := I.ok.mod
theorem Inv.kIn (I : Inv X pins σ H s) : X.K.In s.heap := I.ok.mod.kin.keeps I.bk
theorem Inv.nolimit (I : Inv X pins σ H s) : s.heap.NoLimit := I.ok.mod.nolimit.keeps I.bk
theorem Inv.fr (I : Inv X pins σ H s) : ∃ m, Fr X.base X.env.locals s.heap m :=
  let ⟨m, hn, _⟩ := I.loc
  ⟨m, hn, I.bk, Nat.le_trans I.ok.bsz I.ok.above⟩
theorem Inv.lt (I : Inv X pins σ H s) : X.env.locals < s.heap.objs.size := let ⟨_, hn, _⟩ := I.loc; hn.lt
theorem Inv.sz (I : Inv X pins σ H s) : X.s₀.heap.objs.size ≤ s.heap.objs.size := Nat.le_trans I.ok.above (Nat.le_of_lt I.lt)
theorem Inv.nofs (I : Inv X pins σ H s) {a : Addr} (h : s.heap.objs.size ≤ a) : a ∉ X.fs := fun hb => by
  obtain ⟨_, o, ho, _⟩ := I.ok.funs.mem hb
  exact absurd (Nat.lt_of_lt_of_le (Heap.lt_size ho) (Nat.le_trans I.sz h)) (Nat.lt_irrefl _)
theorem Inv.cne (I : Inv X pins σ H s) : ∀ x c, X.env.cells.lookup x = some c → c ≠ X.env.locals := fun x c e z => by
  obtain ⟨v, o, ho, hd⟩ := I.cell x c e
  obtain ⟨m, ⟨o', es, ep, ho', hd', _⟩, _⟩ := I.loc
  rw [z, ho'] at ho; cases ho; rw [hd'] at hd; cases hd
theorem Inv.funs (I : Inv X pins σ H s) : s.heap.FunFrames X.base X.outer := by
  have all : ∀ (l : List Env), (∀ b ∈ frs l, b ∈ X.fs) → X.s₀.heap.FunFrames X.base l → s.heap.FunFrames X.base l := by
    intro l
    induction l with
    | nil => intro _ _; trivial
    | cons env r ih =>
      intro hs hl
      obtain ⟨hk, ⟨L, o, hf, hn, ho, hd⟩, hr⟩ := hl
      have hL : L ∈ X.fs := hs L (by unfold frs; rw [List.filterMap_cons, hf]; exact List.mem_cons_self)
      obtain ⟨sl, e⟩ := I.base.slot L o ho (I.ok.frf L hL) hL fun z => I.ok.exfs L z hL
      exact ⟨hk, ⟨L, _, hf, hn, e, hd⟩, ih (fun b hb => hs b (by unfold frs; rw [List.filterMap_cons, hf]; exact List.mem_cons_of_mem _ hb)) hr⟩
  exact all X.outer (fun _ hb => hb) I.ok.funs

theorem Inv.stack (I : Inv X pins σ H s) : s.heap.FunFrames X.base X.stack := by
  rcases I.ok.stk with e | ⟨e, hf⟩
  · rw [e]; exact I.funs
  · rw [e]
    obtain ⟨m, hn, _⟩ := I.loc
    refine .cons (by rw [I.ok.kind]; decide) hf hn ?_ I.funs
    exact Heap.get?_none_of_le (Nat.le_trans I.ok.bsz I.ok.above)
theorem Inv.stkSub (I : Inv X pins σ H s) : ∀ b ∈ frs X.stack, b ∈ X.env.locals :: X.fs := fun b hb => by
  rcases I.ok.stk with e | ⟨e, hf⟩
  · rw [e] at hb; exact List.mem_cons_of_mem _ hb
  · rw [e] at hb
    unfold frs at hb
    rw [List.filterMap_cons, hf] at hb
    exact hb
theorem Inv.stkFree (I : Inv X pins σ H s) : ∀ b ∈ frs X.stack, H b = none := fun b hb => by
  rcases List.mem_cons.mp (I.stkSub b hb) with e | hb
  · rw [e]; exact I.free
  · obtain ⟨_, o, ho, _⟩ := I.ok.funs.mem hb
    exact I.base.free b o ho (I.ok.frf b hb) fun z => I.ok.exfs b z hb

theorem Inv.step {g' : Array GenState} {t' : Nat} {d' : Drawn} {ch : List Addr} (I : Inv X pins σ H s)
    (hch : ∀ b ∈ ch, (b ∈ X.ex ∨ X.s₀.heap.objs.size ≤ b) ∧ b ≠ X.env.locals ∧ (∀ x c, X.env.cells.lookup x = some c → c ≠ b) ∧ ∀ p ∈ X.pn ++ pins, p.1 ≠ b)
    (keep : ∀ b o, b ≠ X.env.locals → b ∉ X.fs → b ∉ ch → s.heap.get? b = some o → H b = none → h'.get? b = some o)
    (slot : ∀ b o, b ≠ X.env.locals → b ∈ X.fs → b ∉ ch → s.heap.get? b = some o → H b = none → ∃ sl, h'.get? b = some { o with slots := sl }) (free : ∀ b o, b ∉ ch → s.heap.get? b = some o → H b = none → H' b = none)
    (there : ∀ b o, b ∉ ch → s.heap.get? b = some o → ∃ o', h'.get? b = some o')
    (tups : ∀ b xs, H b = some (.tup xs) → H' b = some (.tup xs)) (frzs : ∀ b o u, H b = some (.frz o u) → H' b = some (.frz o u)) (tbls : ∀ b ps, H b = some (.tbl ps) → ∃ more, H' b = some (.tbl (ps ++ more)))
    (ns : ∀ m, s.heap.Ns X.env.locals m → h'.Ns X.env.locals m) (hok : HOk X.prog X.w H' h') (hg : AllBare g') :
    Inv X pins σ H' { s with heap := h', gens := g', drawn := d', toks := t' } := by
  have neL : ∀ b o, X.s₀.heap.get? b = some o → b ≠ X.env.locals := fun b o e => Nat.ne_of_lt (Nat.lt_of_lt_of_le (Heap.lt_size e) I.ok.above)
  have neC : ∀ b o, X.s₀.heap.get? b = some o → b ∉ X.ex → b ∉ ch := fun b o e hx hb => by
    rcases (hch b hb).1 with z | z
    · exact hx z
    · exact absurd (Nat.lt_of_lt_of_le (Heap.lt_size e) z) (Nat.lt_irrefl _)
  have cellK : ∀ x c, X.env.cells.lookup x = some c → ∀ v, s.heap.IsCell c v → h'.IsCell c v := fun x c e v ⟨o, ho, hd⟩ => by
    have nch : c ∉ ch := fun z => (hch c z).2.2.1 x c e rfl
    by_cases hc : c ∈ X.fs
    · obtain ⟨sl, q⟩ := slot c o (I.cne x c e) hc nch ho (I.freeC x c e)
      exact ⟨_, q, hd⟩
    · exact ⟨o, keep c o (I.cne x c e) hc nch ho (I.freeC x c e), hd⟩
  refine ⟨I.ok, I.os, hg, ⟨fun b o e n hb hx => ?_, fun b o e n hb hx => ?_, fun b o e n hx => ?_, fun b o e hx => ?_, fun b xs e => tups b xs (I.base.tups b xs e), fun b o xs e => frzs b o xs (I.base.frzs b o xs e), fun b ps e => ?_⟩, ?_, fun x c e => ?_, ?_, fun x c e => ?_, fun p hp => ?_, hok, I.len⟩
  · exact keep b o (neL b o e) hb (neC b o e hx) (I.base.keep b o e n hb hx) (I.base.free b o e n hx)
  · obtain ⟨sl, e1⟩ := I.base.slot b o e n hb hx
    obtain ⟨sl', e2⟩ := slot b _ (neL b o e) hb (neC b o e hx) e1 (I.base.free b o e n hx)
    exact ⟨sl', e2⟩
  · obtain ⟨o', e1⟩ := I.base.there b o e hx
    exact free b o' (neC b o e hx) e1 (I.base.free b o e n hx)
  · obtain ⟨o', e1⟩ := I.base.there b o e hx
    exact there b o' (neC b o e hx) e1
  · obtain ⟨m1, e1⟩ := I.base.tbls b ps e
    obtain ⟨m2, e2⟩ := tbls b _ e1
    exact ⟨m1 ++ m2, by rw [e2, Array.append_assoc]⟩
  · obtain ⟨m, hn, hl⟩ := I.loc
    refine ⟨m, ns m hn, fun i x v e1 e2 e3 => ?_⟩
    obtain ⟨u, r, l⟩ := hl i x v e1 e2 e3
    refine ⟨u, r, ?_⟩
    rcases l with l | ⟨k, c, e, z⟩
    · exact .inl l
    · exact .inr ⟨k, c, e, cellK x c e _ z⟩
  · obtain ⟨v, z⟩ := I.cell x c e
    exact ⟨v, cellK x c e v z⟩
  · obtain ⟨m, ⟨o, _, _, ho, _⟩, _⟩ := I.loc
    exact free _ o (fun z => (hch _ z).2.1 rfl) ho I.free
  · obtain ⟨v, o, ho, hd⟩ := I.cell x c e
    exact free c o (fun z => (hch c z).2.2.1 x c e rfl) ho (I.freeC x c e)
  · obtain ⟨e, n, ne, nf, d⟩ := I.pin p hp
    have nch : p.1 ∉ ch := fun z => (hch p.1 z).2.2.2 p hp rfl
    exact ⟨keep p.1 p.2 ne nf nch e n, free p.1 p.2 nch e n, ne, nf, d⟩
theorem Inv.un {t' : Nat} (I : Inv X pins σ H s) (u : Un X.fs [] H H' s.heap h') (hok : HOk X.prog X.w H' h') : Inv X pins σ H' { s with heap := h', toks := t' } := by
  obtain ⟨m, ⟨o, es, ep, ho, r⟩, _⟩ := id I.loc
  obtain ⟨sl, hL⟩ := u.any ho I.free (by simp)
  exact I.step (g' := s.gens) (d' := s.drawn) (ch := []) (fun _ z => nomatch z) (fun b o _ hb _ e n => u.keep b o e n hb (by simp)) (fun b o _ hb _ e n => u.slot b o e n hb (by simp)) (fun b o _ e n => u.free b o e n (by simp)) (fun b o _ e => u.there b o e (by simp)) u.tups u.frzs u.tbls (fun m' hm => by
    obtain ⟨o', es', ep', ho', r'⟩ := hm
    rw [ho] at ho'; cases ho'
    exact ⟨_, es', ep', hL, r'⟩) hok I.bare
theorem Inv.call {g' : Array GenState} {t' : Nat} {d' : Drawn} {ch : List Addr} (I : Inv X pins σ H s) (u : Un (frs X.stack) ch H H' s.heap h') (hok : HOk X.prog X.w H' h') (hg : AllBare g')
    (hch : ∀ b ∈ ch, (b ∈ X.ex ∨ X.s₀.heap.objs.size ≤ b) ∧ b ≠ X.env.locals ∧ (∀ x c, X.env.cells.lookup x = some c → c ≠ b) ∧ ∀ p ∈ X.pn ++ pins, p.1 ≠ b) :
    Inv X pins σ H' { s with heap := h', gens := g', drawn := d', toks := t' } := by
  obtain ⟨m, ⟨o, es, ep, ho, r⟩, _⟩ := id I.loc
  obtain ⟨sl, hL⟩ := u.any ho I.free fun z => (hch _ z).2.1 rfl
  exact I.step (ch := ch) hch (fun b o hL hb hc e n => u.keep b o e n (fun z => (List.mem_cons.mp (I.stkSub b z)).elim hL hb) hc) (fun b o _ _ hc e n => u.any e n hc) (fun b o hc e n => u.free b o e n hc) (fun b o hc e => u.there b o e hc) u.tups u.frzs u.tbls (fun m' hm => by
    obtain ⟨o', es', ep', ho', r'⟩ := hm
    rw [ho] at ho'; cases ho'
    exact ⟨_, es', ep', hL, r'⟩) hok hg
theorem Inv.turned {t' : Nat} {it : Addr} (I : Inv X pins σ H s) (k : ∀ b o, b ≠ it → s.heap.get? b = some o → h'.get? b = some o) (hn : H it = none) (hL : it ≠ X.env.locals)
    (h1 : it ∈ X.ex ∨ X.s₀.heap.objs.size ≤ it) (h2 : ∀ x c, X.env.cells.lookup x = some c → c ≠ it) (h3 : ∀ p ∈ X.pn ++ pins, p.1 ≠ it) : Inv X pins σ H { s with heap := h', toks := t' } := by
  have nit : ∀ b u, H b = some u → b ≠ it := fun b u e z => by rw [z, hn] at e; cases e
  refine I.step (g' := s.gens) (d' := s.drawn) (ch := [it]) (fun b hb => ?_) (fun b o _ _ hc e _ => k b o (fun z => hc (by simp [z])) e) (fun b o _ _ hc e _ => ⟨o.slots, k b o (fun z => hc (by simp [z])) e⟩) (fun _ _ _ _ n => n)
    (fun b o hc e => ⟨o, k b o (fun z => hc (by simp [z])) e⟩) (fun _ _ e => e) (fun _ _ _ e => e) (fun b ps e => ⟨#[], by rw [e]; simp⟩) (fun m hm => ?_) (fun b u e => ?_) I.bare
  · have e : b = it := by simpa using hb
    subst e
    exact ⟨h1, hL, h2, h3⟩
  · obtain ⟨o, es, ep, ho, r⟩ := hm
    exact ⟨o, es, ep, k _ o (Ne.symm hL) ho, r⟩
  · refine (I.hok b u e).stay (fun c v hc q => k c v ?_ q) (fun _ q => q) fun _ _ q => q
    rcases hc with z | z
    · rw [z]; exact nit b u e
    · exact nit c _ z
theorem Inv.tok (I : Inv X pins σ H s) (t : Nat) : Inv X pins σ H { s with toks := t } := I.un (h' := s.heap) (t' := t) Un.refl I.hok
theorem Inv.kept {t' : Nat} (I : Inv X pins σ H s) (k : ∀ b u, s.heap.get? b = some u → h'.get? b = some u) : Inv X pins σ H { s with heap := h', toks := t' } := I.un (Un.kept k) (I.hok.kept k)
theorem Inv.laid {a : Addr} {o : HO} {t' : Nat} (I : Inv X pins σ H s) (k : ∀ b u, s.heap.get? b = some u → h'.get? b = some u) (hp : s.heap.objs.size ≤ a) (new : ObjOk X.prog X.w (upd H a o) h' a o) :
    Inv X pins σ (upd H a o) { s with heap := h', toks := t' } := I.un (Un.laid k hp (I.hok.fresh hp)) (I.hok.laid k hp new)
theorem Inv.write {x e : Addr} {o : HO} {t' : Nat} (I : Inv X pins σ H s) (mu : Mut (H x)) (he : e = x ∨ H e = some (.own x)) (k : ∀ b u, b ≠ e → s.heap.get? b = some u → h'.get? b = some u) (heo : ∃ u, h'.get? e = some u)
    (new : ObjOk X.prog X.w (upd H x o) h' x o) : Inv X pins σ (upd H x o) { s with heap := h', toks := t' } := I.un (Un.write mu he k heo) (I.hok.write mu he k heo new)
theorem Inv.pins_of {pins' : List (Addr × Obj)} (I : Inv X pins σ H s) (h : ∀ p ∈ pins', s.heap.get? p.1 = some p.2 ∧ H p.1 = none ∧ p.1 ≠ X.env.locals ∧ p.1 ∉ X.fs ∧ ∀ v, p.2.data ≠ .cell v) : Inv X pins' σ H s :=
  ⟨I.ok, I.os, I.bare, I.base, I.loc, I.cell, I.free, I.freeC, fun p hp => (List.mem_append.mp hp).elim (fun z => I.pin p (List.mem_append_left _ z)) (h p), I.hok, I.len⟩

theorem nodup_ix {N : List Str} (hN : N.Nodup) {i j : Nat} {x : Str} (a : N[i]? = some x) (b : N[j]? = some x) : i = j := by
  obtain ⟨h1, e1⟩ := List.getElem?_eq_some_iff.mp a
  obtain ⟨h2, e2⟩ := List.getElem?_eq_some_iff.mp b
  exact (List.getElem_inj hN).mp (e1.trans e2.symm)

theorem store_ok2 {M : Model} {A : Around} {E : Value → Shared → Prop} {i : Nat} {x : Str} {v : V} {u : Value} {Q : Unit → Shared → Prop} (I : Inv X pins σ H s) (hN : X.N.Nodup) (hi : X.N[i]? = some x) (hx : Loc X.env.scope x) (r : RelV v u)
    (h : ∀ s', Inv X pins (σ.set i (some v)) H s' → (∃ a, Heap.SameBut a s.heap s'.heap ∧ (a = X.env.locals ∨ X.env.cells.lookup x = some a)) → Q () s') (hf : X.fn x = true ∨ X.env.scope.names.lookup x = some .local := by first | exact .inl rfl | exact .inr rfl | assumption) : wpAny M A (storeName X.env x u) Q E s := by
  obtain ⟨m, hn, hl⟩ := id I.loc
  have hcls : (X.env.scope.kind == .class || (X.env.scope.kind == .module && X.env.locals != X.env.globals)) = false := by rw [I.ok.kind]; rfl
  have hiσ : i < σ.length := by rw [I.len]; exact (List.getElem?_eq_some_iff.mp hi).1
  have cne := I.cne
  have tracked : ∀ {a : Addr} {h' : Heap}, (∃ o, s.heap.get? a = some o ∧ H a = none) → Heap.SameBut a s.heap h' → HOk X.prog X.w H h' := fun {a h'} ha hs b ob e => by
    obtain ⟨_, _, hfree⟩ := ha
    refine (I.hok b ob e).stay (fun c w' hc q => (hs.2 c ?_).trans q) (fun _ q => q) fun _ _ q => q
    rintro rfl
    rcases hc with rfl | hc
    · rw [hfree] at e; cases e
    · rw [hfree] at hc; cases hc
  rcases hx with hk | hk
  · refine wpAny_storeName_local hk hn (fun h' hn' hs => ?_) hcls
    obtain ⟨oL, _, _, hoL, _⟩ := id hn
    refine h _ ⟨I.ok, I.os, I.bare, ⟨fun b o e n hb hx => ?_, fun b o e n hb hx => ?_, I.base.free, fun b o e hx => ?_, I.base.tups, I.base.frzs, I.base.tbls⟩, ⟨_, hn', fun j y v' e1 e2 e3 => ?_⟩, fun y c e => ?_, I.free, I.freeC, fun p hp => ?_, tracked ⟨oL, hoL, I.free⟩ hs, by simpa using I.len⟩ ⟨_, hs, .inl rfl⟩
    · exact (hs.2 b (Nat.ne_of_lt (Nat.lt_of_lt_of_le (Heap.lt_size e) I.ok.above))).trans (I.base.keep b o e n hb hx)
    · obtain ⟨sl, e1⟩ := I.base.slot b o e n hb hx
      exact ⟨sl, (hs.2 b (Nat.ne_of_lt (Nat.lt_of_lt_of_le (Heap.lt_size e) I.ok.above))).trans e1⟩
    · obtain ⟨o', e1⟩ := I.base.there b o e hx
      exact ⟨o', (hs.2 b (Nat.ne_of_lt (Nat.lt_of_lt_of_le (Heap.lt_size e) I.ok.above))).trans e1⟩
    · by_cases hj : j = i
      · subst hj
        rw [hi] at e1; cases e1
        rw [List.getElem?_set_self hiσ] at e2
        cases e2
        exact ⟨u, r, .inl ⟨hk, by simp⟩⟩
      · rw [List.getElem?_set_ne (Ne.symm hj)] at e2
        obtain ⟨u', r', q⟩ := hl j y v' e1 e2 e3
        refine ⟨u', r', ?_⟩
        rcases q with ⟨k, e⟩ | ⟨k, c, e, z⟩
        · refine .inl ⟨k, ?_⟩
          have : y ≠ x := fun e => hj (nodup_ix hN e1 (e ▸ hi))
          simp [this, e]
        · exact .inr ⟨k, c, e, z.sameBut hs (cne y c e)⟩
    · obtain ⟨w', z⟩ := I.cell y c e
      exact ⟨w', z.sameBut hs (cne y c e)⟩
    · obtain ⟨e, n, ne, nf, d⟩ := I.pin p hp
      exact ⟨(hs.2 p.1 ne).trans e, n, ne, nf, d⟩
  · have hfn : X.fn x = true := by
      rcases hf with z | z
      · exact z
      · rw [z] at hk; cases hk
    obtain ⟨c, hc⟩ := I.ok.has x (.inl hk)
    obtain ⟨w', z⟩ := I.cell x c hc
    refine wpAny_storeName_cell I.ok.kind hk hc z (fun h' hc' hs => ?_)
    obtain ⟨oc, hoc, hocd⟩ := id z
    refine h { s with heap := h' } ⟨I.ok, I.os, I.bare, ⟨fun b o e n hb hx => ?_, fun b o e n hb hx => ?_, I.base.free, fun b o e hx => ?_, I.base.tups, I.base.frzs, I.base.tbls⟩, ⟨m, hn.sameBut hs (Ne.symm (cne x c hc)), fun j y v' e1 e2 e3 => ?_⟩, fun y c' e => ?_, I.free, I.freeC, fun p hp => ?_, tracked ⟨oc, hoc, I.freeC x c hc⟩ hs, by simpa using I.len⟩ ⟨c, hs, .inr hc⟩
    · exact (hs.2 b (Nat.ne_of_lt (Nat.lt_of_lt_of_le (Heap.lt_size e) (I.ok.cab x c hfn hc)))).trans (I.base.keep b o e n hb hx)
    · obtain ⟨sl, e1⟩ := I.base.slot b o e n hb hx
      exact ⟨sl, (hs.2 b (Nat.ne_of_lt (Nat.lt_of_lt_of_le (Heap.lt_size e) (I.ok.cab x c hfn hc)))).trans e1⟩
    · obtain ⟨o', e1⟩ := I.base.there b o e hx
      exact ⟨o', (hs.2 b (Nat.ne_of_lt (Nat.lt_of_lt_of_le (Heap.lt_size e) (I.ok.cab x c hfn hc)))).trans e1⟩
    · by_cases hj : j = i
      · subst hj
        rw [hi] at e1; cases e1
        rw [List.getElem?_set_self hiσ] at e2
        cases e2
        exact ⟨u, r, .inr ⟨.inl hk, c, hc, hc'⟩⟩
      · rw [List.getElem?_set_ne (Ne.symm hj)] at e2
        obtain ⟨u', r', q⟩ := hl j y v' e1 e2 e3
        refine ⟨u', r', ?_⟩
        rcases q with q | ⟨k, c', e, z'⟩
        · exact .inl q
        · refine .inr ⟨k, c', e, z'.sameBut hs ?_⟩
          rintro rfl
          exact hj (nodup_ix hN e1 (I.ok.inj _ _ _ e hc ▸ hi))
    · by_cases hcc : c' = c
      · subst hcc; exact ⟨_, hc'⟩
      · obtain ⟨w2, z2⟩ := I.cell y c' e
        exact ⟨w2, z2.sameBut hs hcc⟩
    · obtain ⟨e, n, ne, nf, d⟩ := I.pin p hp
      refine ⟨(hs.2 p.1 ?_).trans e, n, ne, nf, d⟩
      intro q
      rw [q, hoc] at e
      have q' : oc = p.2 := Option.some.inj e
      exact d w' (by rw [← q']; exact hocd)
theorem store_ok {M : Model} {A : Around} {E : Value → Shared → Prop} {i : Nat} {x : Str} {v : V} {u : Value} {Q : Unit → Shared → Prop} (I : Inv X pins σ H s) (hN : X.N.Nodup) (hi : X.N[i]? = some x) (hx : Loc X.env.scope x) (r : RelV v u)
    (h : ∀ s', Inv X pins (σ.set i (some v)) H s' → Q () s') (hf : X.fn x = true ∨ X.env.scope.names.lookup x = some .local := by first | exact .inl rfl | exact .inr rfl | assumption) : wpAny M A (storeName X.env x u) Q E s :=
  store_ok2 I hN hi hx r (fun s' I' _ => h s' I') hf
theorem Inv.call' {s' : Shared} {ch : List Addr} (I : Inv X pins σ H s) (ho : s'.os = s.os) (u : Un (frs X.stack) ch H H' s.heap s'.heap) (hok : HOk X.prog X.w H' s'.heap) (hg : AllBare s'.gens)
    (hch : ∀ b ∈ ch, (b ∈ X.ex ∨ X.s₀.heap.objs.size ≤ b) ∧ b ≠ X.env.locals ∧ (∀ x c, X.env.cells.lookup x = some c → c ≠ b) ∧ ∀ p ∈ X.pn ++ pins, p.1 ≠ b) : Inv X pins σ H' s' := by
  obtain ⟨h', g', d', t', o'⟩ := s'
  have e : o' = s.os := ho
  subst e
  exact I.call (g' := g') (t' := t') (d' := d') u hok hg hch
end

/-! ### the judgements -/
abbrev XK := Value → Option Addr → Hp → Prop
abbrev St := List (Option V)
abbrev VK := V → Hp → Prop
abbrev TE := St → Hp → VK → Prop
abbrev TT := St → Hp → (Bool → Hp → Prop) → Prop
abbrev TA := St → Hp → (List V → Hp → Prop) → Prop
structure Ends where
  nx : St → Hp → Prop
  rt : VK
  bk : St → Hp → Prop := fun _ _ => False
  ct : St → Hp → Prop := fun _ _ => False
abbrev TS := Ends → St → Hp → Prop

def EP (X : Cx) (pins : List (Addr × Obj)) (σ : St) (Q : VK) (u : Value) (s' : Shared) : Prop := ∃ v H', Inv X pins σ H' s' ∧ RelV v u ∧ Q v H'
def TP (X : Cx) (pins : List (Addr × Obj)) (σ : St) (Q : Bool → Hp → Prop) (b : Bool) (s' : Shared) : Prop := ∃ H', Inv X pins σ H' s' ∧ Q b H'
def AP (X : Cx) (pins : List (Addr × Obj)) (σ : St) (Q : List V → Hp → Prop) (us : List Value) (s' : Shared) : Prop := ∃ vs H', Inv X pins σ H' s' ∧ Vals vs us ∧ Q vs H'
def SP (X : Cx) (pins : List (Addr × Obj)) (D : Ends) (f : Flow) (s' : Shared) : Prop :=
  match f with
  | .next => ∃ σ' H', Inv X pins σ' H' s' ∧ D.nx σ' H'
  | .brk => ∃ σ' H', Inv X pins σ' H' s' ∧ D.bk σ' H'
  | .cont => ∃ σ' H', Inv X pins σ' H' s' ∧ D.ct σ' H'
  | .ret u => ∃ v σ' H', Inv X pins σ' H' s' ∧ RelV v u ∧ D.rt v H'

def PE (X : Cx) (e : Expr) (t : TE) : Prop :=
  ∀ (pins : List (Addr × Obj)) (s : Shared) (σ : St) (H : Hp) (Q : VK), Inv X pins σ H s → t σ H Q → wpAny (model X.prog X.w) X.A (eval e X.env) (EP X pins σ Q) X.xe s
def PT (X : Cx) (e : Expr) (t : TT) : Prop :=
  ∀ (pins : List (Addr × Obj)) (s : Shared) (σ : St) (H : Hp) (Q : Bool → Hp → Prop), Inv X pins σ H s → t σ H Q → wpAny (model X.prog X.w) X.A (isTrue e X.env (eval e X.env)) (TP X pins σ Q) X.xe s
def PW (X : Cx) (e : Expr) (t : TT) : Prop :=
  ∀ (whole : Sem Value) (pins : List (Addr × Obj)) (s : Shared) (σ : St) (H : Hp) (Q : Bool → Hp → Prop), Inv X pins σ H s → t σ H Q → wpAny (model X.prog X.w) X.A (isTrue e X.env whole) (TP X pins σ Q) X.xe s
theorem PW.pt {X : Cx} {e : Expr} {t : TT} (h : PW X e t) : PT X e t := h _
def PA (X : Cx) (es : List Expr) (t : TA) : Prop :=
  ∀ (pos : Pos) (pins : List (Addr × Obj)) (s : Shared) (σ : St) (H : Hp) (Q : List V → Hp → Prop), Inv X pins σ H s → t σ H Q → wpAny (model X.prog X.w) X.A (spliced (backTo pos (starEach es X.env))) (AP X pins σ Q) X.xe s
def PS (X : Cx) (st : Stmt) (t : TS) : Prop :=
  ∀ (pins : List (Addr × Obj)) (s : Shared) (σ : St) (H : Hp) (D : Ends), Inv X pins σ H s → t D σ H → wpAny (model X.prog X.w) X.A (exec st X.env) (SP X pins D) X.xe s
def PSs (X : Cx) (st : List Stmt) (t : TS) : Prop :=
  ∀ (pins : List (Addr × Obj)) (s : Shared) (σ : St) (H : Hp) (D : Ends), Inv X pins σ H s → t D σ H → wpAny (model X.prog X.w) X.A (execs st X.env) (SP X pins D) X.xe s
theorem thn {α : Type} {t : Sem α} {Q Q' : α → Shared → Prop} {M : Model} {A : Around} {E : Value → Shared → Prop} {s : Shared} (h : wpAny M A t Q E s) (hQ : ∀ a s, Q a s → Q' a s) : wpAny M A t Q' E s := wpAny_mono h hQ fun _ _ x => x
end L2

namespace L2
open PySem PySem.Spec PyProof.Rows
section
variable {X : Cx}


/-! ### names and constants -/
def tVar (i : Nat) : TE := fun σ H Q => ∃ v, σ[i]? = some (some v) ∧ Q v H
def tC (v : V) : TE := fun _ H Q => Q v H
theorem pe_var {i : Nat} {x : Str} {pos : Pos} (hN : X.N[i]? = some x) (hv : Vis X.env.scope x) (hd : (x == ("__debug__" : Str)) = false := by decide) (hcd : (x == ("__classdict__" : Str)) = false := by decide) : PE X (.Name x pos) (tVar i) := by
  intro pins s σ H Q I h
  obtain ⟨v, e, h⟩ := h
  obtain ⟨m, hn, hl⟩ := I.loc
  obtain ⟨u, r, l⟩ := hl i x v hN e hv
  have fin : EP X pins σ Q u s := ⟨v, H, I, r, h⟩
  rcases l with ⟨hk, hm⟩ | ⟨hk, c, hc, hcell⟩
  · exact wpAny_Name (wpAny_loadName_local I.ok.kind hk hn hm fin) hd
  · rcases hk with hk | hk
    · exact wpAny_Name (wpAny_loadName_cell I.ok.kind hk hc hcell fin) hd
    · exact wpAny_Name (wpAny_loadName_free I.ok.kind hk hc hcell fin hcd) hd
theorem pe_int {i j pos} : PE X (.Constant (.int i) j pos) (tC (.int i)) := fun _ _ _ H _ I h => wpAny_Constant_int ⟨.int i, H, I.tok _, ⟨_, rfl⟩, h⟩
theorem pe_bl {b j pos} : PE X (.Constant (.bool b) j pos) (tC (.bl b)) := fun _ _ _ H _ I h => Constant_bool ⟨.bl b, H, I, rfl, h⟩
theorem pe_non {j pos} : PE X (.Constant .none j pos) (tC .non) := fun _ _ _ H _ I h => Constant_none ⟨.non, H, I, rfl, h⟩
theorem pe_str {x j pos} : PE X (.Constant (.str x) j pos) (tC (.str x)) := fun _ _ _ H _ I h => Calls.Constant_str ⟨.str x, H, I.tok _, ⟨_, rfl⟩, h⟩

def Gl (X : Cx) (x : Str) : Prop := X.env.kindOf x = some .globalImplicit
theorem ld_glob {E : Value → Shared → Prop} {pins : List (Addr × Obj)} {s : Shared} {σ : St} {H : Hp} {x : Str} {u : Value} {pos : Pos} {Q : Value → Shared → Prop} (I : Inv X pins σ H s) (hg : Gl X x) (hm : X.mg x = some u) (h : Q u s)
    (hd : (x == ("__debug__" : Str)) = false := by decide) : wpAny (model X.prog X.w) X.A (eval (.Name x pos) X.env) Q E s :=
  Calls.Name_function_global I.ok.kind hg (Calls.loadGlobal_global (by rw [I.ok.glob]; exact I.mod.glob.keeps I.bk) hm h) hd
theorem ld_blt {E : Value → Shared → Prop} {pins : List (Addr × Obj)} {s : Shared} {σ : St} {H : Hp} {x : Str} {u : Value} {pos : Pos} {Q : Value → Shared → Prop} (I : Inv X pins σ H s) (hg : Gl X x) (hm : X.mg x = none) (hv : bootBuiltins x = some u) (h : Q u s)
    (hn : x ≠ "__name__" := by decide) (hd : (x == ("__debug__" : Str)) = false := by decide) : wpAny (model X.prog X.w) X.A (eval (.Name x pos) X.env) Q E s := by
  obtain ⟨mb, h1, h2⟩ := I.mod.blt
  exact Calls.Name_function_global I.ok.kind hg (Calls.loadGlobal_builtin (by rw [I.ok.glob]; exact I.mod.glob.keeps I.bk) hm (by rw [I.ok.blt]; exact h1.keeps I.bk) ((h2 x hn).trans hv) h) hd
theorem pe_glob {x : Str} {v : V} {u : Value} {pos : Pos} (hg : Gl X x) (hm : X.mg x = some u) (r : RelV v u) (hd : (x == ("__debug__" : Str)) = false := by decide) : PE X (.Name x pos) (tC v) :=
  fun _ _ _ H _ I h => ld_glob I hg hm ⟨v, H, I, r, h⟩ hd
theorem pe_bltn {x : Str} {v : V} {u : Value} {pos : Pos} (hg : Gl X x) (hm : X.mg x = none) (hv : bootBuiltins x = some u) (r : RelV v u) (hn : x ≠ "__name__" := by decide) (hd : (x == ("__debug__" : Str)) = false := by decide) : PE X (.Name x pos) (tC v) :=
  fun _ _ _ H _ I h => ld_blt I hg hm hv ⟨v, H, I, r, h⟩ hn hd

/-! ### arithmetic -/
variable {a b : Expr} {ta tb : TE} {pos : Pos}

/-! ### comparisons -/
def tB (t : TE) : TT := fun σ H Q => t σ H fun x H1 => ∃ c, x = .bl c ∧ Q c H1
theorem pt_val {e : Expr} {t : TE} (h : PE X e t) (he : ∀ whole, isTrue e X.env whole = (do let v ← whole; standAt e.pos; holding [v] (truthy v)) := by intro _; rfl) : PT X e (tB t) := by
  intro pins s σ H Q I hw
  refine isTrue_plain (thn (h pins s σ H _ I hw) fun v s1 ⟨x, H1, I1, r1, q1⟩ => ?_) (he _)
  obtain ⟨d, rfl, q⟩ := q1
  cases r1
  exact wpAny_truthy_bool ⟨H1, I1, q⟩

/-! ### and, or, not -/
variable {tA tB' : TT} {rest : List Expr}
def tOr (t u : TT) : TT := fun σ H Q => t σ H fun c H1 => if c = true then Q true H1 else u σ H1 Q
def tNot (t : TT) : TT := fun σ H Q => t σ H fun c H1 => Q (!c) H1
theorem pw_or1 (ha : PT X a tA) : PW X (.BoolOp .Or [a] pos) tA := by
  intro wh pins s σ H Q I h
  refine isTrue_or (thn (ha pins s σ H Q I h) fun c s1 e => ?_)
  cases c with
  | false => exact isTrue_or_nil e
  | true => exact e
theorem pw_or (ha : PT X a tA) (hb : PW X (.BoolOp .Or (b :: rest) pos) tB') : PW X (.BoolOp .Or (a :: b :: rest) pos) (tOr tA tB') := by
  intro wh pins s σ H Q I h
  refine isTrue_or (thn (ha pins s σ H _ I h) fun c s1 ⟨H1, I1, q1⟩ => ?_)
  cases c with
  | true => exact ⟨H1, I1, q1⟩
  | false => exact hb wh pins s1 σ H1 Q I1 q1
theorem pt_not (ha : PT X a tA) : PT X (.UnaryOp .Not a pos) (tNot tA) := by
  intro pins s σ H Q I h
  exact isTrue_not (ha pins s σ H (fun c H1 => Q (!c) H1) I h)
def tAndV (ta tb : TE) : TE := fun σ H Q => ta σ H fun x H1 => ∃ c, x = .bl c ∧ if c = true then tb σ H1 Q else Q (.bl false) H1
def tNotV (ta : TE) : TE := fun σ H Q => ta σ H fun x H1 => ∃ c, x = .bl c ∧ Q (.bl (!c)) H1
theorem pe_one {op} {t : TE} (h : PE X a t) : PE X (.BoolOp op [a] pos) t := fun pins s σ H Q I hw => BoolOp_one (h pins s σ H Q I hw)
theorem pe_and (ha : PE X a ta) (hb : PE X (.BoolOp .And (b :: rest) pos) tb) : PE X (.BoolOp .And (a :: b :: rest) pos) (tAndV ta tb) := by
  intro pins s σ H Q I h
  refine BoolOp_and (thn (ha pins s σ H _ I h) fun v s1 ⟨x, H1, I1, r1, q1⟩ => ?_)
  obtain ⟨c, rfl, q1⟩ := q1
  cases r1
  refine wpAny_truthy_bool ?_
  cases c with
  | true => exact hb pins s1 σ H1 Q I1 q1
  | false => exact ⟨.bl false, H1, I1, rfl, q1⟩
theorem pe_not (ha : PE X a ta) : PE X (.UnaryOp .Not a pos) (tNotV ta) := by
  intro pins s σ H Q I h
  refine UnaryOp_ (thn (ha pins s σ H _ I h) fun v s1 ⟨x, H1, I1, r1, q1⟩ => ?_)
  obtain ⟨c, rfl, q1⟩ := q1
  cases r1
  exact not_of (wpAny_truthy_bool ⟨.bl (!c), H1, I1, rfl, q1⟩)
def tIf (t : TT) (ta tb : TE) : TE := fun σ H Q => t σ H fun c H1 => if c = true then ta σ H1 Q else tb σ H1 Q
theorem pe_ifExp {c : Expr} (hc : PT X c tA) (ha : PE X a ta) (hb : PE X b tb) : PE X (.IfExp c a b pos) (tIf tA ta tb) := by
  intro pins s σ H Q I h
  refine wpAny_IfExp (thn (hc pins s σ H _ I h) fun d s1 ⟨H1, I1, q1⟩ => ?_)
  cases d with
  | true => exact ha pins s1 σ H1 Q I1 q1
  | false => exact hb pins s1 σ H1 Q I1 q1
end
end L2

namespace L2
open PySem PySem.Spec PyProof.Rows

/-! ### a list, a tuple that is read: tracked, frozen, or an object of the module -/
def SqL (K : PySem.W.Frag) (H : Hp) (a : Addr) (xs : List V) : Prop :=
  Rd H a (.lst xs) ∨
    ∃ (o : Obj) (its : Array Value) (n : Nat), K.lookup a = some o ∧ o.cls = .type "list" ∧ o.dict = none ∧ o.data = .seq its n ∧ its.size ≤ sizeLine ∧ Vals xs its.toList
def SqT (K : PySem.W.Frag) (H : Hp) (a : Addr) (xs : List V) : Prop :=
  Rd H a (.tup xs) ∨
    ∃ (o : Obj) (its : Array Value) (n : Nat), K.lookup a = some o ∧ o.cls = .type "tuple" ∧ o.data = .seq its n ∧ its.size ≤ sizeLine ∧ Vals xs its.toList
def absV : Value → Option V
  | .none => some .non
  | .bool b => some (.bl b)
  | .int i _ => some (.int i)
  | .str x _ => some (.str x)
  | .bytes b _ => some (.byt b)
  | .float b _ => some (.flt b)
  | .ref a => some (.ref a)
  | .type n => some (.ty n)
  | _ => none
theorem RelV.abs {x : V} {u : Value} (r : RelV x u) : absV u = some x := by
  cases x with
  | non => cases r; rfl
  | bl _ => cases r; rfl
  | int _ => obtain ⟨t, rfl⟩ := r; rfl
  | str _ => obtain ⟨t, rfl⟩ := r; rfl
  | byt _ => obtain ⟨t, rfl⟩ := r; rfl
  | flt _ => obtain ⟨t, rfl⟩ := r; rfl
  | ref _ => cases r; rfl
  | ty _ => cases r; rfl
theorem RelV.inj {x y : V} {u : Value} (r : RelV x u) (q : RelV y u) : x = y := Option.some.inj (r.abs.symm.trans q.abs)
theorem Vals.inj : ∀ {xs ys : List V} {us : List Value}, Vals xs us → Vals ys us → xs = ys
  | _, _, _, .nil, .nil => rfl
  | _, _, _, .cons r t, .cons r' t' => by rw [r.inj r', Vals.inj t t']
section
variable {X : Cx} {pins : List (Addr × Obj)} {σ : St} {H : Hp} {s : Shared} {a : Addr} {xs ys : List V}
theorem SqL.of {K : PySem.W.Frag} (h : H a = some (.lst xs)) : SqL K H a xs := .inl (.inl h)
theorem SqT.of {K : PySem.W.Frag} (h : H a = some (.tup xs)) : SqT K H a xs := .inl (.inl h)
theorem Inv.list (I : Inv X pins σ H s) (h : SqL X.K H a xs) : ∃ its : List Value, Vals xs its ∧ PlainL s.heap a its.toArray ∧ xs.length ≤ sizeLine := by
  rcases h with h | ⟨o, its, n, hk, hc, hd, hs, hz, r⟩
  · obtain ⟨z, its, n, r, e⟩ := h.ok I.hok
    exact ⟨its, r, ⟨_, n, e, rfl, rfl, rfl⟩, z⟩
  · refine ⟨its.toList, r, ⟨o, n, I.kIn a o hk, hc, hd, by simpa using hs⟩, ?_⟩
    have e := r.length
    simp only [Array.length_toList] at e
    omega
theorem Inv.tuple (I : Inv X pins σ H s) (h : SqT X.K H a xs) : ∃ its : List Value, Vals xs its ∧ IsTup s.heap a its.toArray ∧ xs.length ≤ sizeLine := by
  rcases h with h | ⟨o, its, n, hk, hc, hs, hz, r⟩
  · obtain ⟨z, its, r, p⟩ := h.ok I.hok
    exact ⟨its, r, p, z⟩
  · refine ⟨its.toList, r, ⟨o, I.kIn a o hk, hc, n, by simpa using hs⟩, ?_⟩
    have e := r.length
    simp only [Array.length_toList] at e
    omega
theorem Inv.list_inj (I : Inv X pins σ H s) (h : SqL X.K H a xs) (h' : SqL X.K H a ys) : xs = ys := by
  obtain ⟨its, r, ⟨o, n, e, _, _, d⟩, _⟩ := I.list h
  obtain ⟨its', r', ⟨o', n', e', _, _, d'⟩, _⟩ := I.list h'
  rw [e] at e'; cases e'
  rw [d] at d'
  injection d' with d1 _
  have : its = its' := by simpa using congrArg Array.toList d1
  subst this
  exact r.inj r'
theorem Inv.tuple_inj (I : Inv X pins σ H s) (h : SqT X.K H a xs) (h' : SqT X.K H a ys) : xs = ys := by
  obtain ⟨its, r, ⟨o, e, _, n, d⟩, _⟩ := I.tuple h
  obtain ⟨its', r', ⟨o', e', _, n', d'⟩, _⟩ := I.tuple h'
  rw [e] at e'; cases e'
  rw [d] at d'
  injection d' with d1 _
  have : its = its' := by simpa using congrArg Array.toList d1
  subst this
  exact r.inj r'
end

/-! ### another wish about exceptions -/
abbrev Cx.wish (X : Cx) (E : Value → Shared → Prop) : Cx := { X with xe := E }
abbrev Cx.nox (X : Cx) : Cx := X.wish fun _ _ => False
theorem Cx.Ok.wish {X : Cx} (ok : X.Ok) (E : Value → Shared → Prop) : (X.wish E).Ok :=
  ⟨ok.mod, ok.kind, ok.glob, ok.blt, ok.above, ok.inj, ok.has, ok.cab, ok.hd, ok.frames, ok.stk, ok.exf, ok.bs, ok.bsz, ok.noex, ok.exfs, ok.funs, ok.frf⟩
theorem Cx.Ok.unwish {X : Cx} {E : Value → Shared → Prop} (ok : (X.wish E).Ok) : X.Ok :=
  ⟨ok.mod, ok.kind, ok.glob, ok.blt, ok.above, ok.inj, ok.has, ok.cab, ok.hd, ok.frames, ok.stk, ok.exf, ok.bs, ok.bsz, ok.noex, ok.exfs, ok.funs, ok.frf⟩
section
variable {X : Cx} {pins : List (Addr × Obj)} {σ : St} {H : Hp} {s : Shared} {E : Value → Shared → Prop}
theorem Inv.wish (I : Inv X pins σ H s) (E : Value → Shared → Prop) : Inv (X.wish E) pins σ H s := ⟨I.ok.wish E, I.os, I.bare, I.base, I.loc, I.cell, I.free, I.freeC, I.pin, I.hok, I.len⟩
theorem Inv.unwish (I : Inv (X.wish E) pins σ H s) : Inv X pins σ H s := ⟨I.ok.unwish, I.os, I.bare, I.base, I.loc, I.cell, I.free, I.freeC, I.pin, I.hok, I.len⟩
theorem SP.unwish {D : Ends} {f : Flow} {s' : Shared} (h : SP (X.wish E) pins D f s') : SP X pins D f s' := by
  cases f with
  | next => obtain ⟨σ', H', I, q⟩ := h; exact ⟨σ', H', I.unwish, q⟩
  | brk => obtain ⟨σ', H', I, q⟩ := h; exact ⟨σ', H', I.unwish, q⟩
  | cont => obtain ⟨σ', H', I, q⟩ := h; exact ⟨σ', H', I.unwish, q⟩
  | ret u => obtain ⟨v, σ', H', I, r, q⟩ := h; exact ⟨v, σ', H', I.unwish, r, q⟩
theorem PE.nox {e : Expr} {t : TE} (h : PE X.nox e t) : PE X e t := fun pins s σ H Q I hw =>
  wpAny_mono (h pins s σ H Q (I.wish _) hw) (fun _ _ ⟨v, H', I', r, q⟩ => ⟨v, H', I'.unwish, r, q⟩) fun _ _ z => False.elim z
theorem PT.nox {e : Expr} {t : TT} (h : PT X.nox e t) : PT X e t := fun pins s σ H Q I hw =>
  wpAny_mono (h pins s σ H Q (I.wish _) hw) (fun _ _ ⟨H', I', q⟩ => ⟨H', I'.unwish, q⟩) fun _ _ z => False.elim z
theorem PSs.nox {st : List Stmt} {t : TS} (h : PSs X.nox st t) : PSs X st t := fun pins s σ H D I hw =>
  wpAny_mono (h pins s σ H D (I.wish _) hw) (fun _ _ q => q.unwish) fun _ _ z => False.elim z
end

/-! ### blocks and small statements -/
section
variable {X : Cx} {st : Stmt} {rest : List Stmt} {t u : TS} {e : Expr} {te : TE} {pos : Pos}
def tNext : TS := fun D σ H => D.nx σ H
def tSeq (t u : TS) : TS := fun D σ H => t { D with nx := u D } σ H
theorem pss_nil : PSs X [] tNext := fun _ _ σ H _ I h => wpAny_execs_nil ⟨σ, H, I, h⟩
theorem pss_cons (h1 : PS X st t) (h2 : PSs X rest u) : PSs X (st :: rest) (tSeq t u) := by
  intro pins s σ H D I h
  refine wpAny_execs_cons (thn (h1 pins s σ H { D with nx := u D } I h) fun f s1 q => ?_)
  cases f with
  | next =>
    obtain ⟨σ', H', I', q⟩ := q
    exact h2 pins s1 σ' H' D I' q
  | ret v => exact q
  | brk => exact q
  | cont => exact q
theorem pss_one (h1 : PS X st t) : PSs X [st] t := by
  intro pins s σ H D I h
  refine wpAny_execs_cons (thn (h1 pins s σ H D I h) fun f s1 q => ?_)
  cases f with
  | next => exact wpAny_execs_nil q
  | ret v => exact q
  | brk => exact q
  | cont => exact q
theorem Inv.quiet {pins : List (Addr × Obj)} {σ : St} {H : Hp} {s : Shared} (I : Inv X pins σ H s) : interactive X.env = false := by simp [interactive, I.ok.kind]
def tDrop (te : TE) : TS := fun D σ H => te σ H fun _ H1 => D.nx σ H1
theorem ps_expr (he : PE X e te) (hs : swapsWith e none pos.line X.env = pure false := by rfl) : PS X (.Expr e pos) (tDrop te) := by
  intro pins s σ H D I h
  exact wpAny_Expr_any (thn (he pins s σ H _ I h) fun v s1 ⟨x, H1, I1, r1, q1⟩ => ⟨σ, H1, I1, q1⟩) I.quiet hs
def tRet (te : TE) : TS := fun D σ H => te σ H D.rt
theorem ps_ret (he : PE X e te) : PS X (.Return (some e) pos) (tRet te) := by
  intro pins s σ H D I h
  exact wpAny_Return_some (thn (he pins s σ H _ I h) fun v s1 ⟨x, H1, I1, r1, q1⟩ => ⟨x, σ, H1, I1, r1, q1⟩)
def tIfS (c : TT) (t u : TS) : TS := fun D σ H => c σ H fun b H1 => if b = true then t D σ H1 else u D σ H1
theorem ps_if {c : Expr} {a b : List Stmt} {tc : TT} (hc : PT X c tc) (ha : PSs X a t) (hb : PSs X b u) : PS X (.If c a b pos) (tIfS tc t u) := by
  intro pins s σ H D I h
  refine wpAny_If (thn (hc pins s σ H _ I h) fun d s1 ⟨H1, I1, q1⟩ => ?_)
  cases d with
  | true => exact ha pins s1 σ H1 D I1 q1
  | false => exact hb pins s1 σ H1 D I1 q1
end

/-! ### targets -/
abbrev TG := V → St → Hp → (St → Hp → Prop) → Prop
abbrev TGs := List V → St → Hp → (St → Hp → Prop) → Prop
def PG (X : Cx) (target : Expr) (t : TG) : Prop :=
  ∀ (pins : List (Addr × Obj)) (s : Shared) (σ : St) (H : Hp) (v : V) (u : Value) (Q : St → Hp → Prop), Inv X pins σ H s → RelV v u → t v σ H Q →
    wpAny (model X.prog X.w) X.A (assign target X.env u) (fun _ s' => ∃ σ' H', Inv X pins σ' H' s' ∧ Q σ' H') X.xe s
def PGs (X : Cx) (ts : List Expr) (t : TGs) : Prop :=
  ∀ (pins : List (Addr × Obj)) (s : Shared) (σ : St) (H : Hp) (vs : List V) (us : List Value) (Q : St → Hp → Prop), Inv X pins σ H s → Vals vs us → t vs σ H Q →
    wpAny (model X.prog X.w) X.A (assignInOrder ((assignEach ts X.env).map (·.2)) us) (fun _ s' => ∃ σ' H', Inv X pins σ' H' s' ∧ Q σ' H') X.xe s
abbrev TSet := V → V → V → Hp → (Hp → Prop) → Prop
def PSet (X : Cx) (t : TSet) : Prop :=
  ∀ (pins : List (Addr × Obj)) (s : Shared) (σ : St) (H : Hp) (o i v : V) (ov iv u : Value) (Q : Hp → Prop), Inv X pins σ H s → RelV o ov → RelV i iv → RelV v u → t o i v H Q →
    wpAny (model X.prog X.w) X.A (setItem ov iv u) (fun _ s' => ∃ H', Inv X pins σ H' s' ∧ Q H') X.xe s
section
variable {X : Cx} {pos : Pos}
def gName (i : Nat) : TG := fun v σ H Q => Q (σ.set i (some v)) H
theorem pg_name {i : Nat} {x : Str} (hN : X.N.Nodup) (hi : X.N[i]? = some x) (hx : Loc X.env.scope x) (hf : X.fn x = true ∨ X.env.scope.names.lookup x = some .local := by first | exact .inl rfl | exact .inr rfl | assumption) : PG X (.Name x pos) (gName i) := by
  intro pins s σ H v u Q I r h
  exact wpAny_assign_Name (store_ok I hN hi hx r (fun s' I' => ⟨_, H, I', h⟩) hf)
def gNil : TGs := fun vs σ H Q => vs = [] ∧ Q σ H
def gCons (t : TG) (u : TGs) : TGs := fun vs σ H Q => ∃ v r, vs = v :: r ∧ t v σ H fun σ' H' => u r σ' H' Q
theorem pgs_nil : PGs X [] gNil := by
  intro pins s σ H vs us Q I r h
  obtain ⟨e, h⟩ := h
  subst e
  cases r
  exact assignInOrder_nil ⟨σ, H, I, h⟩
theorem pgs_cons {e : Expr} {es : List Expr} {t : TG} {u : TGs} (h1 : PG X e t) (h2 : PGs X es u)
    (hs : (assignEach (e :: es) X.env).map (·.2) = assign e X.env :: (assignEach es X.env).map (·.2) := by rfl) : PGs X (e :: es) (gCons t u) := by
  intro pins s σ H vs us Q I r h
  obtain ⟨v, vr, e1, h⟩ := h
  subst e1
  cases r with
  | cons r rr =>
    rw [hs]
    refine assignInOrder_cons (thn (h1 pins s σ H _ _ _ I r h) fun _ s1 ⟨σ1, H1, I1, q1⟩ => ?_)
    exact h2 pins s1 σ1 H1 _ _ Q I1 rr q1
def gTup (K : PySem.W.Frag) (n : Nat) (t : TGs) : TG := fun v σ H Q => ∃ a xs, v = .ref a ∧ SqT K H a xs ∧ xs.length = n ∧ t xs σ H Q
theorem pg_tup {es : List Expr} {k : Nat} {t : TGs} {n : Nat} (hc : X.calm = true) (h : PGs X es t)
    (hn : (assignEach es X.env).length = n := by rfl) (hst : (assignEach es X.env).findIdx? (·.1) = none := by rfl) : PG X (.Tuple es k pos) (gTup X.K n t) := by
  intro pins s σ H v u Q I r hw
  obtain ⟨a, xs, e1, hq, hl, hw⟩ := hw
  subst e1
  cases r
  obtain ⟨its, rv, ht, hz⟩ := I.tuple hq
  refine assign_Tuple_tuple (I.ok.hd hc) ht (by simp [hn, ← hl, rv.length]) hst fun h' hx => ?_
  have I1 : Inv X pins σ H { s with heap := h' } := I.kept (t' := s.toks) fun b o e => hx b o (Nat.ne_of_lt (Heap.lt_size e)) e
  exact h pins _ σ H xs _ Q I1 (by simpa using rv) hw
def gSub (to ti : TE) (t : TSet) : TG := fun v σ H Q => to σ H fun o H1 => ti σ H1 fun i H2 => t o i v H2 fun H3 => Q σ H3
theorem pg_sub {o i : Expr} {to ti : TE} {t : TSet} (ho : PE X o to) (hi : PE X i ti) (hs : PSet X t)
    (ha : ∀ v, assign (.Subscript o i pos) X.env v = (do
      let ov ← holding [v] (eval o X.env)
      let iv ← holding [v, ov] (eval i X.env)
      standAt pos
      holding [v, ov, iv] (setItem ov iv v)
      release [v, ov, iv] []) := by intro _; rfl) : PG X (.Subscript o i pos) (gSub to ti t) := by
  intro pins s σ H v u Q I r h
  rw [ha]
  refine wpAny_bind (wpAny_holding (thn (ho pins s σ H _ I h) fun ov s1 ⟨x, H1, I1, r1, q1⟩ => ?_))
  refine wpAny_bind (wpAny_holding (thn (hi pins s1 σ H1 _ I1 q1) fun iv s2 ⟨y, H2, I2, r2, q2⟩ => ?_))
  refine wpAny_bind (wpAny_standAt (wpAny_bind (wpAny_holding (thn (hs pins s2 σ H2 x y v ov iv u _ I2 r1 r2 r q2) fun _ s3 ⟨H3, I3, q3⟩ => ?_))))
  exact wpAny_release ⟨σ, H3, I3, q3⟩
def tAsg (te : TE) (g : TG) : TS := fun D σ H => te σ H fun x H1 => g x σ H1 D.nx
theorem ps_asg {tg e : Expr} {te : TE} {g : TG} (he : PE X e te) (hg : PG X tg g) (hs : swapsWithSole [tg] e pos.line X.env = pure false := by rfl) (hw : swappedStores [tg] e X.env = pure none := by rfl)
    (h1 : (assignEach [tg] X.env).map (·.2) = [assign tg X.env] := by rfl) : PS X (.Assign [tg] e pos) (tAsg te g) := by
  intro pins s σ H D I h
  refine wpAny_Assign_stores (thn (he pins s σ H _ I h) fun v s1 ⟨x, H1, I1, r1, q1⟩ => ?_) hs hw
  rw [h1]
  exact thn (hg pins s1 σ H1 x v _ I1 r1 q1) fun _ s2 q => q
theorem ps_set {i : Nat} {x : Str} {e : Expr} {te : TE} {pos' : Pos} (hN : X.N.Nodup) (hi : X.N[i]? = some x) (hx : Loc X.env.scope x) (he : PE X e te) (hs : swapsWith e (some (.Name x pos')) pos.line X.env = pure false := by rfl) (hf : X.fn x = true ∨ X.env.scope.names.lookup x = some .local := by first | exact .inl rfl | exact .inr rfl | assumption) :
    PS X (.Assign [.Name x pos'] e pos) (tAsg te (gName i)) := by
  intro pins s σ H D I h
  refine wpAny_Assign_Name (thn (he pins s σ H _ I h) fun v s1 ⟨y, H1, I1, r1, q1⟩ => ?_) hs
  exact store_ok I1 hN hi hx r1 (fun s2 I2 => ⟨_, H1, I2, q1⟩) hf
end

/-! ### while -/
section
variable {X : Cx} {pos : Pos}
def tWhile (c : TT) (tb : TS) : TS := fun D σ H => ∃ W : Nat → St → Hp → Prop, (∃ m, W m σ H) ∧ ∀ m σ H, W m σ H →
  c σ H fun b H1 => if b = true then ∃ N : St → Hp → Prop, (∀ σ' H', N σ' H' → ∃ m', m' < m ∧ W m' σ' H') ∧ tb { D with nx := N, ct := N, bk := D.nx } σ H1 else D.nx σ H1
theorem ps_while {c : Expr} {body : List Stmt} {tc : TT} {tb : TS} (hp : PassesOwn (model X.prog X.w) X.A X.env X.xe) (hc : PT X c tc) (hb : PSs X body tb) : PS X (.While c body [] pos) (tWhile tc tb) := by
  intro pins s σ H D I h
  obtain ⟨W, ⟨m0, w0⟩, turn⟩ := h
  refine wpAny_While (codeAny_whileLoop (fun n s' => ∃ σ' H', Inv X pins σ' H' s' ∧ W n σ' H') ?_ m0 ⟨σ, H, I, w0⟩)
  rintro n s1 ⟨σ1, H1, I1, w1⟩
  refine wpAny_passesOwn hp (thn (hc pins s1 σ1 H1 _ I1 (turn n σ1 H1 w1)) fun b s2 ⟨H2, I2, q2⟩ => ?_)
  cases b with
  | true =>
    obtain ⟨N, hN, q2⟩ := q2
    rw [if_pos rfl]
    refine wpAny_passesOwn hp (thn (hb pins s2 σ1 H2 _ I2 q2) fun f s3 q3 => ?_)
    cases f with
    | next =>
      obtain ⟨σ3, H3, I3, n3⟩ := q3
      obtain ⟨m', hm, w3⟩ := hN σ3 H3 n3
      exact ⟨m', hm, σ3, H3, I3, w3⟩
    | cont =>
      obtain ⟨σ3, H3, I3, n3⟩ := q3
      obtain ⟨m', hm, w3⟩ := hN σ3 H3 n3
      exact ⟨m', hm, σ3, H3, I3, w3⟩
    | brk => exact q3
    | ret v => exact q3
  | false =>
    rw [if_neg Bool.false_ne_true]
    exact wpAny_execs_nil ⟨σ1, H2, I2, q2⟩
end

/-! ### what a loop or a comprehension walks -/
structure It where
  go : Nat → Hp → Prop
  yld : Nat → Hp → V → Hp → Prop
  stop : Nat → Hp → Prop
def FpOk (X : Cx) (pins : List (Addr × Obj)) (H : Hp) (b : Addr) : Prop :=
  H b = none ∧ b ≠ X.env.locals ∧ b ∉ X.fs ∧ (b ∈ X.ex ∨ X.s₀.heap.objs.size ≤ b) ∧ (∀ x c, X.env.cells.lookup x = some c → c ≠ b) ∧ ∀ p ∈ X.pn ++ pins, p.1 ≠ b
theorem Inv.fpOk {X : Cx} {pins : List (Addr × Obj)} {σ : St} {H H' : Hp} {s : Shared} {b : Addr} (I : Inv X pins σ H s) (hb : s.heap.objs.size ≤ b) (hn : H' b = none) : FpOk X pins H' b := by
  refine ⟨hn, Nat.ne_of_gt (Nat.lt_of_lt_of_le I.lt hb), I.nofs hb, .inr (Nat.le_trans I.sz hb), fun x c e z => ?_, fun p hp z => ?_⟩
  · obtain ⟨v, q⟩ := I.cell x c e
    exact absurd (Nat.lt_of_lt_of_le q.lt (by rw [z]; exact hb)) (Nat.lt_irrefl _)
  · exact absurd (Nat.lt_of_lt_of_le (Heap.lt_size (I.pin p hp).1) (by rw [z]; exact hb)) (Nat.lt_irrefl _)
structure Turn (P : Program) (w : World) (K : PySem.W.Frag) (tg : Expr) (J : It) (fp : List Addr) (it : Addr) (tn : Nat → Heap → Prop) : Prop where
  mem : it ∈ fp
  obj : ∀ i h, tn i h → ∀ b ∈ fp, ∃ o, h.get? b = some o ∧ ∀ v, o.data ≠ .cell v
  keep : ∀ i h h', tn i h → (∀ b ∈ fp, ∀ o, h.get? b = some o → h'.get? b = some o) → tn i h'
  item : ∀ (X : Cx), X.prog = P → X.w = w → X.K = K → X.calm = true → ∀ (i : Nat) (pins : List (Addr × Obj)) (s : Shared) (σ : St) (H : Hp) (E : Value → Shared → Prop), Inv X pins σ H s → (∀ b ∈ fp, FpOk X pins H b) → tn i s.heap → J.go i H →
    wpAny (model P w) X.A (pyNext (.ref it)) (fun r s1 => ∃ u, r = some u ∧
      wpAny (model P w) X.A (letOwnedTupleGo tg (.ref it) u) (fun _ s2 => ∃ x H', Inv X pins σ H' s2 ∧ RelV x u ∧ J.yld i H x H' ∧ tn (i + 1) s2.heap ∧ ∀ b ∈ fp, H' b = none) E s1) E s
  done : ∀ (X : Cx), X.prog = P → X.w = w → X.K = K → X.calm = true → ∀ (i : Nat) (pins : List (Addr × Obj)) (s : Shared) (σ : St) (H : Hp) (E : Value → Shared → Prop), Inv X pins σ H s → (∀ b ∈ fp, FpOk X pins H b) → tn i s.heap → J.stop i H →
    wpAny (model P w) X.A (pyNext (.ref it)) (fun r s1 => r = none ∧ Inv X pins σ H s1) E s
  self : ∀ (A : Around) (i : Nat) (s : Shared) (Q : Value → Shared → Prop) (E : Value → Shared → Prop), tn i s.heap → Q (.ref it) s → wpAny (model P w) A (pyIter (.ref it)) Q E s
abbrev TI := St → Hp → (It → Hp → Prop) → Prop
def PIE (X : Cx) (pins : List (Addr × Obj)) (σ : St) (tg : Expr) (R : It → Hp → Prop) (itv : Value) (s2 : Shared) : Prop :=
  ∃ (it : Addr) (fp : List Addr) (tn : Nat → Heap → Prop) (J : It) (H' : Hp), itv = .ref it ∧ Inv X pins σ H' s2 ∧ Turn X.prog X.w X.K tg J fp it tn ∧ tn 0 s2.heap ∧ (∀ b ∈ fp, FpOk X pins H' b) ∧ R J H'
def PI (X : Cx) (tg iter : Expr) (wi : TI) : Prop :=
  ∀ (pins : List (Addr × Obj)) (s : Shared) (σ : St) (H : Hp) (R : It → Hp → Prop), Inv X pins σ H s → wi σ H R →
    wpAny (model X.prog X.w) X.A (eval iter X.env) (fun v s1 => wpAny (model X.prog X.w) X.A (pyIter v) (PIE X pins σ tg R) X.xe s1) X.xe s

theorem go_of {M : Model} {A : Around} {E : Value → Shared → Prop} {s : Shared} {tg : Expr} {it : Addr} {u : Value} {o : Obj} {n : String} {vs : Array Value} {Q : Unit → Shared → Prop} (ho : s.heap.get? it = some o) (hc : o.cls = .type n) (hd : o.data = .fields vs)
    (hn : ["enumerate", "zip", "dict_itemiterator", "dict_reverseitemiterator", "odict_iterator", "itertools.zip_longest", "itertools.pairwise"].contains n = false) (hQ : Q () s) : wpAny M A (letOwnedTupleGo tg (.ref it) u) Q E s := by
  unfold letOwnedTupleGo
  cases tg <;> first
    | exact wpAny_pure hQ
    | (cases u <;> first
        | exact wpAny_pure hQ
        | (refine wpAny_bind (wpAny_load ho ?_)
           rw [hc, hd]
           show wpAny M A (if (["enumerate", "zip", "dict_itemiterator", "dict_reverseitemiterator", "odict_iterator", "itertools.zip_longest", "itertools.pairwise"].contains n && vs[0]? == some (rawInt _)) = true then _ else _) Q E s
           rw [if_neg (by intro h; rw [hn, Bool.false_and] at h; cases h)]
           exact wpAny_pure hQ))

def Itl (K : PySem.W.Frag) (a : Addr) : It :=
  ⟨fun i H => ∃ xs x, SqL K H a xs ∧ xs[i]? = some x, fun i H x H' => H' = H ∧ ∀ xs, SqL K H a xs → xs[i]? = some x, fun i H => ∃ xs, SqL K H a xs ∧ xs.length ≤ i⟩
def Itr (lo : Int) (n : Nat) : It := ⟨fun i _ => i < n, fun i H x H' => H' = H ∧ x = .int (lo + i), fun i _ => n ≤ i⟩
theorem turn_list {P : Program} {w : World} {K : PySem.W.Frag} {tg : Expr} (a it : Addr) : Turn P w K tg (Itl K a) [it] it (fun i h => h.IsListIter it a i) where
  mem := by simp
  obj := fun i h st b hb => by
    have e : b = it := by simpa using hb
    subst e
    obtain ⟨o, e, c, d⟩ := st
    exact ⟨o, e, fun v z => by rw [d] at z; cases z⟩
  keep := fun i h h' st k => st.at fun o e => k it (by simp) o e
  item := by
    intro X hP hw hK hc i pins s σ H E I hf st hg
    subst hP hw hK
    obtain ⟨xs, x, hq, hx⟩ := hg
    obtain ⟨its, rv, p, hz⟩ := I.list hq
    obtain ⟨u, hu, ru⟩ := rv.get hx
    obtain ⟨f0, f1, f2, f3, f4, f5⟩ := hf it (by simp)
    refine wpAny_pyNext_list_item st p.isList (x := u) (by simpa using hu) fun h' st' sb => ?_
    have I1 : Inv X pins σ H { s with heap := h' } := I.turned (t' := s.toks) (fun b o hb e => (sb.2 b hb).trans e) f0 f1 f3 f4 f5
    obtain ⟨o, e, c, d⟩ := id st'
    exact ⟨u, rfl, go_of (s := { s with heap := h' }) e c d (by decide) ⟨x, H, I1, ru, ⟨rfl, fun ys hy => by rw [I.list_inj hy hq]; exact hx⟩, st', fun b hb => (hf b hb).1⟩⟩
  done := by
    intro X hP hw hK hc i pins s σ H E I hf st hg
    subst hP hw hK
    obtain ⟨xs, hq, hx⟩ := hg
    obtain ⟨its, rv, p, hz⟩ := I.list hq
    obtain ⟨f0, f1, f2, f3, f4, f5⟩ := hf it (by simp)
    have hl := rv.length
    exact wpAny_pyNext_list_end (I.ok.hd hc) st p.isList (by simp; omega) fun h' eb => ⟨rfl, I.turned (t' := s.toks) (fun b o hb e => eb b o hb e) f0 f1 f3 f4 f5⟩
  self := fun _ _ _ _ _ st h => wpAny_pyIter_listiter st h
theorem turn_range {P : Program} {w : World} {K : PySem.W.Frag} {tg : Expr} (it : Addr) (lo : Int) (n : Nat) : Turn P w K tg (Itr lo n) [it] it (fun i h => IsRangeIter h it (lo + (i : Nat) * 1) ((n : Int) - (i : Nat)) 1) where
  mem := by simp
  obj := fun i h st b hb => by
    have e : b = it := by simpa using hb
    subst e
    exact ⟨_, st, fun v z => by
      have z' : Data.fields _ = Data.cell v := z
      cases z'⟩
  keep := fun i h h' st k => k it (by simp) _ st
  item := by
    intro X hP hw hK hc i pins s σ H E I hf st hg
    subst hP hw hK
    obtain ⟨f0, f1, f2, f3, f4, f5⟩ := hf it (by simp)
    have W := Walks.range (prog := X.prog) (w := X.w) (I.ok.hd hc) it lo 1 n
    refine W.item i s _ _ hg st fun v h' tk hv st' kk => ?_
    obtain ⟨t, rfl⟩ := hv
    have I1 : Inv X pins σ H { s with heap := h', toks := tk } := I.turned (fun b o hb e => kk b o (by simpa using hb) e) f0 f1 f3 f4 f5
    refine ⟨_, rfl, go_of (s := { s with heap := h', toks := tk }) (n := "range_iterator") st' rfl rfl (by decide) ⟨.int (lo + i), H, I1, ⟨t, ?_⟩, ⟨rfl, rfl⟩, st', fun b hb => (hf b hb).1⟩⟩
    rw [Int.mul_one]
  done := by
    intro X hP hw hK hc i pins s σ H E I hf st hg
    subst hP hw hK
    obtain ⟨f0, f1, f2, f3, f4, f5⟩ := hf it (by simp)
    exact wpAny_pyNext_range_end (I.ok.hd hc) st (by have : n ≤ i := hg; omega) fun h' eb => ⟨rfl, I.turned (t' := s.toks) (fun b o hb e => eb b o hb e) f0 f1 f3 f4 f5⟩
  self := fun _ _ _ _ _ st h => wpAny_pyIter_rangeiter st h
end L2

namespace L2
open PySem PySem.Spec PyProof.Rows
section
variable {X : Cx} {tg : Expr}
def iList (K : PySem.W.Frag) (tl : TE) : TI := fun σ H R => tl σ H fun x H1 => ∃ a, x = .ref a ∧ (∃ xs, SqL K H1 a xs) ∧ R (Itl K a) H1
theorem pi_list {l : Expr} {tl : TE} (hl : PE X l tl) : PI X tg l (iList X.K tl) := by
  intro pins s σ H R I h
  refine thn (hl pins s σ H _ I h) fun v s1 ⟨x, H1, I1, r1, q1⟩ => ?_
  obtain ⟨a, e, ⟨xs, hq⟩, q⟩ := q1
  subst e
  cases r1
  obtain ⟨its, rv, p, hz⟩ := I1.list hq
  refine wpAny_pyIter_list p.isList ?_
  refine ⟨s1.heap.objs.size, [s1.heap.objs.size], _, _, H1, rfl, I1.kept (t' := s1.toks) fun b o e => Heap.get?_push_of_some _ e, turn_list a _, ⟨_, Heap.get?_push_size _ rfl, rfl, rfl⟩, fun b hb => ?_, q⟩
  have e : b = s1.heap.objs.size := by simpa using hb
  subst e
  exact I1.fpOk (Nat.le_refl _) (I1.hok.fresh (Nat.le_refl _))
theorem range_it {pins : List (Addr × Obj)} {σ : St} {H : Hp} {s : Shared} {R : It → Hp → Prop} {E : Value → Shared → Prop} {lo hi : Int} {t u v : Tok} {tk : Nat} (I : Inv X pins σ H s) (h1 : -(2 ^ 62) ≤ lo) (h2 : lo < 2 ^ 62) (h3 : -(2 ^ 62) ≤ hi) (h4 : hi < 2 ^ 62)
    (q : R (Itr lo (hi - lo).toNat) H) : wpAny (model X.prog X.w) X.A (pyIter (.ref s.heap.objs.size)) (PIE X pins σ tg R) E { s with heap := s.heap.push { cls := .type "range", data := .fields #[.int lo t, .int hi u, .int 1 v] }, toks := tk } := by
  refine wpAny_pyIter_range (IsRange.new ..) (small_one h1 h2 h3 h4) ?_
  have I1 : Inv X pins σ H { s with heap := s.heap.push { cls := .type "range", data := .fields #[.int lo t, .int hi u, .int 1 v] }, toks := tk } := I.kept fun b o e => Heap.get?_push_of_some _ e
  refine ⟨(s.heap.push { cls := .type "range", data := .fields #[.int lo t, .int hi u, .int 1 v] }).objs.size, [(s.heap.push { cls := .type "range", data := .fields #[.int lo t, .int hi u, .int 1 v] }).objs.size], _, _, H, rfl,
    I1.kept (t' := tk) fun b o e => Heap.get?_push_of_some _ e, turn_range _ lo (hi - lo).toNat, ?_, fun b hb => ?_, q⟩
  · have e1 : lo + ((0 : Nat) : Int) * 1 = lo := by simp
    have e2 : (((hi - lo).toNat : Nat) : Int) - ((0 : Nat) : Int) = Builtin.Range.rangeSize lo hi 1 := by rw [rangeSize_one]; split <;> omega
    show IsRangeIter _ _ (lo + ((0 : Nat) : Int) * 1) ((((hi - lo).toNat : Nat) : Int) - ((0 : Nat) : Int)) 1
    rw [e1, e2]
    exact Heap.get?_push_size _ rfl
  · have e : b = (s.heap.push { cls := .type "range", data := .fields #[.int lo t, .int hi u, .int 1 v] }).objs.size := by simpa using hb
    subst e
    exact I1.fpOk (Nat.le_refl _) (I1.hok.fresh (Nat.le_refl _))
def iRng1 (ta : TA) : TI := fun σ H R => ta σ H fun vs H1 => ∃ j : Int, vs = [.int j] ∧ -(2 ^ 62) ≤ j ∧ j < 2 ^ 62 ∧ R (Itr 0 j.toNat) H1
def iRng2 (ta : TA) : TI := fun σ H R => ta σ H fun vs H1 => ∃ i j : Int, vs = [.int i, .int j] ∧ (-(2 ^ 62) ≤ i ∧ i < 2 ^ 62 ∧ -(2 ^ 62) ≤ j ∧ j < 2 ^ 62) ∧ R (Itr i (j - i).toNat) H1
theorem pi_range1 {a : Expr} {ta : TA} {p pos : Pos} (hg : Gl X "range") (hm : X.mg "range" = none) (ha : PA X [a] ta) (hs : starEach [a] X.env = [(false, eval a X.env)] := by rfl) : PI X tg (.Call (.Name "range" p) [a] [] pos) (iRng1 ta) := by
  intro pins s σ H R I h
  refine Call_ (ld_blt I hg hm boot_range (PyProof.Rows.callWith_type1 (thn (ha pos pins s σ H _ I h) fun us s1 ⟨vs, H1, I1, r1, q1⟩ => ?_) hs rfl))
  obtain ⟨j, e, q1, q2, q⟩ := q1
  subst e
  cases r1 with
  | cons r rr =>
    cases rr
    obtain ⟨t, rfl⟩ := r
    exact call_range_1 (range_it I1 (by omega) (by omega) q1 q2 (by simpa using q))
theorem pi_range2 {a b : Expr} {ta : TA} {p pos : Pos} (hg : Gl X "range") (hm : X.mg "range" = none) (ha : PA X [a, b] ta) (hs : starEach [a, b] X.env = [(false, eval a X.env), (false, eval b X.env)] := by rfl) (hs2 : starEach [b] X.env = [(false, eval b X.env)] := by rfl) :
    PI X tg (.Call (.Name "range" p) [a, b] [] pos) (iRng2 ta) := by
  intro pins s σ H R I h
  refine Call_ (ld_blt I hg hm boot_range (PyProof.Rows.callWith_type1 (thn (ha pos pins s σ H _ I h) fun us s1 ⟨vs, H1, I1, r1, q1⟩ => ?_) (by rw [hs, hs2]) (by rw [hs2]; rfl)))
  obtain ⟨i, j, e, ⟨q1, q2, q3, q4⟩, q⟩ := q1
  subst e
  cases r1 with
  | cons r rr =>
    cases rr with
    | cons r' rr =>
      cases rr
      obtain ⟨t, rfl⟩ := r
      obtain ⟨t', rfl⟩ := r'
      exact call_range_2 (range_it I1 q1 q2 q3 q4 q)

/-! ### for -/
def tFor (wi : TI) (g : TG) (tb : TS) : TS := fun D σ H => wi σ H fun J H1 => ∃ W : Nat → Nat → St → Hp → Prop, (∃ m, W 0 m σ H1) ∧ ∀ i m σ H, W i m σ H →
  (J.stop i H ∧ D.nx σ H) ∨ (J.go i H ∧ ∃ N : St → Hp → Prop, (∀ σ' H', N σ' H' → ∃ m', m' < m ∧ W (i + 1) m' σ' H') ∧ ∀ x H', J.yld i H x H' → g x σ H' fun σ2 H2 => tb { D with nx := N, ct := N, bk := D.nx } σ2 H2)
def pinsAt (fp : List Addr) (h : Heap) : List (Addr × Obj) := fp.filterMap fun b => (h.get? b).map fun o => (b, o)
theorem mem_pinsAt {fp : List Addr} {h : Heap} {b : Addr} {o : Obj} (hb : b ∈ fp) (e : h.get? b = some o) : (b, o) ∈ pinsAt fp h := List.mem_filterMap.mpr ⟨b, hb, by rw [e]; rfl⟩
theorem of_pinsAt {fp : List Addr} {h : Heap} {p : Addr × Obj} (hp : p ∈ pinsAt fp h) : p.1 ∈ fp ∧ h.get? p.1 = some p.2 := by
  obtain ⟨b, hb, e⟩ := List.mem_filterMap.mp hp
  cases q : h.get? b with
  | none => rw [q] at e; cases e
  | some o =>
    rw [q] at e
    have e' : (b, o) = p := Option.some.inj e
    subst e'
    exact ⟨hb, q⟩
theorem Inv.pinned {pins : List (Addr × Obj)} {σ : St} {H : Hp} {s : Shared} {fp : List Addr} (I : Inv X pins σ H s) (hf : ∀ b ∈ fp, FpOk X pins H b) (ho : ∀ b ∈ fp, ∃ o, s.heap.get? b = some o ∧ ∀ v, o.data ≠ .cell v) : Inv X (pins ++ pinsAt fp s.heap) σ H s :=
  I.pins_of fun p hp => (List.mem_append.mp hp).elim (fun z => I.pin p (List.mem_append_right _ z)) fun z => by
    obtain ⟨hb, e⟩ := of_pinsAt z
    obtain ⟨f0, f1, f2, _⟩ := hf p.1 hb
    obtain ⟨o, e', d⟩ := ho p.1 hb
    rw [e] at e'; cases e'
    exact ⟨e, f0, f1, f2, d⟩
theorem Inv.unpinned {pins pl : List (Addr × Obj)} {σ : St} {H : Hp} {s : Shared} (I : Inv X (pins ++ pl) σ H s) : Inv X pins σ H s := I.pins_of fun p hp => I.pin p (List.mem_append_right _ (List.mem_append_left _ hp))
theorem ps_for {iter : Expr} {body : List Stmt} {wi : TI} {g : TG} {tb : TS} {pos : Pos} (hp : PassesOwn (model X.prog X.w) X.A X.env X.xe) (hc : X.calm = true) (hi : PI X tg iter wi) (hg : PG X tg g) (hb : PSs X body tb)
    (hs : ∀ x, foldedSetIterable iter X.env x = pure x := by intro _; rfl) : PS X (.For tg iter body [] pos) (tFor wi g tb) := by
  intro pins s σ H D I h
  refine wpAny_For (thn (hi pins s σ H _ I h) fun v s1 h1 => thn h1 fun itv s2 h2 => ?_) hs
  obtain ⟨it, fp, tn, J, H2, e, I2, T, st2, f2, W, ⟨m0, w0⟩, turn⟩ := h2
  subst e
  -- what stays true of the iterator's objects through the loop
  have stat : ∀ {H' : Hp}, (∀ b ∈ fp, H' b = none) → ∀ b ∈ fp, FpOk X pins H' b := fun hn b hb => ⟨hn b hb, (f2 b hb).2⟩
  refine codeAny_forLoop_any (fun n s' => ∃ i σ' H', Inv X pins σ' H' s' ∧ tn i s'.heap ∧ (∀ b ∈ fp, H' b = none) ∧ W i n σ' H') ?_ m0 ⟨0, σ, H2, I2, st2, fun b hb => (f2 b hb).1, w0⟩
  rintro n s3 ⟨i, σ3, H3, I3, st3, fr3, w3⟩
  rcases turn i n σ3 H3 w3 with ⟨stop, qn⟩ | ⟨go, N, hN, step⟩
  · refine wpAny_passesOwn hp (thn (T.done X rfl rfl rfl hc i pins s3 σ3 H3 X.xe I3 (stat fr3) st3 stop) fun r s4 ⟨hr, I4⟩ => ?_)
    subst hr
    exact wpAny_execs_nil ⟨σ3, H3, I4, qn⟩
  · refine wpAny_passesOwn hp (thn (T.item X rfl rfl rfl hc i pins s3 σ3 H3 X.xe I3 (stat fr3) st3 go) fun r s4 ⟨u, hr, h4⟩ => ?_)
    subst hr
    refine wpAny_passesOwn hp (thn h4 fun _ s5 ⟨x, H5, I5, r5, y5, st5, fr5⟩ => ?_)
    have I5' := I5.pinned (stat fr5) (T.obj _ _ st5)
    refine wpAny_passesOwn hp (thn (hg _ s5 σ3 H5 x u _ I5' r5 (step x H5 y5)) fun _ s6 ⟨σ6, H6, I6, q6⟩ => ?_)
    refine wpAny_passesOwn hp (thn (hb _ s6 σ6 H6 _ I6 q6) fun f s7 q7 => ?_)
    have again : ∀ {σ7 : St} {H7 : Hp}, Inv X (pins ++ pinsAt fp s5.heap) σ7 H7 s7 → N σ7 H7 → ∃ m, m < n ∧ ∃ i σ' H', Inv X pins σ' H' s7 ∧ tn i s7.heap ∧ (∀ b ∈ fp, H' b = none) ∧ W i m σ' H' := fun {σ7 H7} I7 n7 => by
      obtain ⟨m', hm, w7⟩ := hN σ7 H7 n7
      refine ⟨m', hm, i + 1, σ7, H7, I7.unpinned, T.keep _ _ _ st5 fun b hb o e => (I7.pin (b, o) (List.mem_append_right _ (List.mem_append_right _ (mem_pinsAt hb e)))).1, fun b hb => ?_, w7⟩
      obtain ⟨o, e, d⟩ := T.obj _ _ st5 b hb
      exact (I7.pin (b, o) (List.mem_append_right _ (List.mem_append_right _ (mem_pinsAt hb e)))).2.1
    cases f with
    | next => obtain ⟨σ7, H7, I7, n7⟩ := q7; exact again I7 n7
    | cont => obtain ⟨σ7, H7, I7, n7⟩ := q7; exact again I7 n7
    | brk => obtain ⟨σ7, H7, I7, q7⟩ := q7; exact ⟨σ7, H7, I7.unpinned, q7⟩
    | ret v => obtain ⟨x7, σ7, H7, I7, r7, q7⟩ := q7; exact ⟨x7, σ7, H7, I7.unpinned, r7, q7⟩
end

/-! ### the forms one uses -/
end L2

namespace L2
open PySem PySem.Spec PyProof.Rows

abbrev R2 := V → V → Hp → VK → Prop
def OpR (X : Cx) (f : Value → Value → Sem Value) (r : R2) : Prop :=
  ∀ (pins : List (Addr × Obj)) (s : Shared) (σ : St) (H : Hp) (x y : V) (v u : Value) (Q : VK), Inv X pins σ H s → RelV x v → RelV y u → r x y H Q →
    wpAny (model X.prog X.w) X.A (f v u) (EP X pins σ Q) X.xe s
def UnR (X : Cx) (f : Value → Sem Value) (r : V → Hp → VK → Prop) : Prop :=
  ∀ (pins : List (Addr × Obj)) (s : Shared) (σ : St) (H : Hp) (x : V) (v : Value) (Q : VK), Inv X pins σ H s → RelV x v → r x H Q →
    wpAny (model X.prog X.w) X.A (f v) (EP X pins σ Q) X.xe s
def CallR (X : Cx) (f : Value) (r : List V → Hp → VK → Prop) : Prop :=
  ∀ (pins : List (Addr × Obj)) (s : Shared) (σ : St) (H : Hp) (xs : List V) (us : List Value) (Q : VK), Inv X pins σ H s → Vals xs us → r xs H Q →
    wpAny (model X.prog X.w) X.A (call f us) (EP X pins σ Q) X.xe s

def tOp (r : R2) (ta tb : TE) : TE := fun σ H Q => ta σ H fun x H1 => tb σ H1 fun y H2 => r x y H2 Q
def tUn (r : V → Hp → VK → Prop) (ta : TE) : TE := fun σ H Q => ta σ H fun x H1 => r x H1 Q
def rI (C : Int → Int → Prop) (g : Int → Int → V) : R2 := fun x y H Q => ∃ i j, x = .int i ∧ y = .int j ∧ C i j ∧ Q (g i j) H
def rI0 (g : Int → Int → V) : R2 := fun x y H Q => ∃ i j, x = .int i ∧ y = .int j ∧ Q (g i j) H
def rU (g : Int → V) : V → Hp → VK → Prop := fun x H Q => ∃ i, x = .int i ∧ Q (g i) H

section
variable {X : Cx} {a b c : Expr} {ta tb tc : TE} {pos : Pos}

theorem binT (ha : PE X a ta) (hb : PE X b tb) {pins : List (Addr × Obj)} {s : Shared} {σ : St} {H : Hp} {R : V → V → Hp → Prop} (I : Inv X pins σ H s)
    (h : ta σ H fun x H1 => tb σ H1 fun y H2 => R x y H2) {Q : Value → Shared → Prop} {f : Value → Value → Sem Value}
    (hf : ∀ v u s2 x y H2, Inv X pins σ H2 s2 → RelV x v → RelV y u → R x y H2 → wpAny (model X.prog X.w) X.A (f v u) Q X.xe s2) :
    wpAny (model X.prog X.w) X.A (eval a X.env) (fun v s₁ => wpAny (model X.prog X.w) X.A (eval b X.env) (fun u s₂ => wpAny (model X.prog X.w) X.A (f v u) Q X.xe s₂) X.xe s₁) X.xe s := by
  refine thn (ha pins s σ H _ I h) fun v s1 ⟨x, H1, I1, r1, q1⟩ => ?_
  refine thn (hb pins s1 σ H1 _ I1 q1) fun u s2 ⟨y, H2, I2, r2, q2⟩ => ?_
  exact hf v u s2 x y H2 I2 r1 r2 q2

theorem pe_op {op : Operator} {r : R2} (ho : OpR X (binaryOp op) r) (ha : PE X a ta) (hb : PE X b tb) : PE X (.BinOp a op b pos) (tOp r ta tb) := by
  intro pins s σ H Q I h
  exact wpAny_BinOp (binT ha hb I h fun v u s2 x y H2 I2 rx ry q => ho pins s2 σ H2 x y v u Q I2 rx ry q)
theorem pe_un {op : UnaryOp} {r : V → Hp → VK → Prop} (ho : UnR X (unaryOp op) r) (ha : PE X a ta) : PE X (.UnaryOp op a pos) (tUn r ta) := by
  intro pins s σ H Q I h
  exact UnaryOp_ (thn (ha pins s σ H _ I h) fun v s1 ⟨x, H1, I1, r1, q1⟩ => ho pins s1 σ H1 x v Q I1 r1 q1)

/-! ### ints -/
theorem opI {f : Value → Value → Sem Value} {C : Int → Int → Prop} {g : Int → Int → Int}
    (rule : ∀ (i j : Int) (t u : Tok) (s : Shared) (Q : Value → Shared → Prop) (E : Value → Shared → Prop), C i j → Q (.int (g i j) s.toks) { s with toks := s.toks + 1 } → wpAny (model X.prog X.w) X.A (f (.int i t) (.int j u)) Q E s) :
    OpR X f (rI C fun i j => .int (g i j)) := by
  intro pins s σ H x y v u Q I rx ry h
  obtain ⟨i, j, rfl, rfl, hc, q⟩ := h
  obtain ⟨t, rfl⟩ := rx
  obtain ⟨t', rfl⟩ := ry
  exact rule i j t t' s _ _ hc ⟨.int (g i j), H, I.tok _, ⟨_, rfl⟩, q⟩
theorem opI0 {f : Value → Value → Sem Value} {g : Int → Int → Int}
    (rule : ∀ (i j : Int) (t u : Tok) (s : Shared) (Q : Value → Shared → Prop) (E : Value → Shared → Prop), Q (.int (g i j) s.toks) { s with toks := s.toks + 1 } → wpAny (model X.prog X.w) X.A (f (.int i t) (.int j u)) Q E s) :
    OpR X f (rI0 fun i j => .int (g i j)) := by
  intro pins s σ H x y v u Q I rx ry h
  obtain ⟨i, j, rfl, rfl, q⟩ := h
  obtain ⟨t, rfl⟩ := rx
  obtain ⟨t', rfl⟩ := ry
  exact rule i j t t' s _ _ ⟨.int (g i j), H, I.tok _, ⟨_, rfl⟩, q⟩
theorem opB0 {f : Value → Value → Sem Value} {g : Int → Int → Bool}
    (rule : ∀ (i j : Int) (t u : Tok) (s : Shared) (Q : Value → Shared → Prop) (E : Value → Shared → Prop), Q (.bool (g i j)) s → wpAny (model X.prog X.w) X.A (f (.int i t) (.int j u)) Q E s) :
    OpR X f (rI0 fun i j => .bl (g i j)) := by
  intro pins s σ H x y v u Q I rx ry h
  obtain ⟨i, j, rfl, rfl, q⟩ := h
  obtain ⟨t, rfl⟩ := rx
  obtain ⟨t', rfl⟩ := ry
  exact rule i j t t' s _ _ ⟨.bl (g i j), H, I, rfl, q⟩

def CDiv (i j : Int) : Prop := 0 < j ∧ j < 1073741824
def CPow (i j : Int) : Prop := 0 ≤ j ∧ j ≤ 1000000 ∧ i.natAbs < 2 ^ 64
def CMul (i j : Int) : Prop := (-(2 ^ 64) < i ∧ i < 2 ^ 64) ∨ (-(2 ^ 64) < j ∧ j < 2 ^ 64)
theorem CMul.ok {i j : Int} (h : CMul i j) : IntMulOk i j := by
  rcases h with ⟨h1, h2⟩ | ⟨h1, h2⟩
  · exact .of_left (intBits_le_64 h1 h2)
  · exact .of_right (intBits_le_64 h1 h2)
theorem two_pow_nn (k : Nat) : (0 : Int) ≤ 2 ^ k := by
  rw [two_pow_cast]
  exact Int.natCast_nonneg _

theorem op_add : OpR X (binaryOp .Add) (rI0 fun i j => .int (i + j)) := opI0 fun _ _ _ _ _ _ _ q => add_int q
theorem op_sub : OpR X (binaryOp .Sub) (rI0 fun i j => .int (i - j)) := opI0 fun _ _ _ _ _ _ _ q => sub_int q
theorem op_mul : OpR X (binaryOp .Mult) (rI CMul fun i j => .int (i * j)) := opI fun _ _ _ _ _ _ _ hc q => mul_int q hc.ok
theorem op_fdiv : OpR X (binaryOp .FloorDiv) (rI CDiv fun i j => .int (i / j)) := opI fun i j _ _ _ _ _ hc q => by
  have h1 : (0 : Int) < j := hc.1
  have h2 : j < 1073741824 := hc.2
  exact floordiv_int (by omega) (by rw [Int.fdiv_eq_ediv_of_nonneg i (by omega)]; exact q) (.inl (PyProof.noPylong_small (by omega)))
theorem op_mod : OpR X (binaryOp .Mod) (rI (fun _ j => 0 < j) fun i j => .int (i % j)) := opI fun i j _ _ _ _ _ hc q => by
  have h1 : (0 : Int) < j := hc
  exact mod_int' (by omega) (by rw [Int.fmod_eq_emod_of_nonneg i (by omega)]; exact q)
theorem op_pow : OpR X (binaryOp .Pow) (rI CPow fun i j => .int (i ^ j.toNat)) := opI fun _ _ _ _ _ _ _ hc q => pow_int_small hc.1 hc.2.1 hc.2.2 q
theorem op_shl : OpR X (binaryOp .LShift) (rI CPow fun i j => .int (i * 2 ^ j.toNat)) := opI fun _ _ _ _ _ _ _ hc q => lshift_int_small hc.1 hc.2.1 hc.2.2 q
theorem op_shr : OpR X (binaryOp .RShift) (rI (fun _ j => 0 ≤ j) fun i j => .int (i / 2 ^ j.toNat)) := opI fun i j _ _ _ _ _ hc q =>
  rshift_int hc (by rw [Int.fdiv_eq_ediv_of_nonneg i (two_pow_nn _)]; exact q)
theorem op_and : OpR X (binaryOp .BitAnd) (rI0 fun i j => .int (Builtin.bitAnd i j)) := opI0 fun _ _ _ _ _ _ _ q => and_int q


theorem unI {f : Value → Sem Value} {g : Int → Int}
    (rule : ∀ (i : Int) (t : Tok) (s : Shared) (Q : Value → Shared → Prop) (E : Value → Shared → Prop), Q (.int (g i) s.toks) { s with toks := s.toks + 1 } → wpAny (model X.prog X.w) X.A (f (.int i t)) Q E s) :
    UnR X f (rU fun i => .int (g i)) := by
  intro pins s σ H x v Q I rx h
  obtain ⟨i, rfl, q⟩ := h
  obtain ⟨t, rfl⟩ := rx
  exact rule i t s _ _ ⟨.int (g i), H, I.tok _, ⟨_, rfl⟩, q⟩
theorem un_neg : UnR X (unaryOp .USub) (rU fun i => .int (-i)) := unI fun _ _ _ _ _ q => neg_int q

/-! ### bools among ints: n += (a < b) -/
end

/-! ### comparisons -/
def scal : V → V → Bool
  | .non, .non => true | .non, .int _ => true | .int _, .non => true | .non, .bl _ => true | .bl _, .non => true | .non, .str _ => true | .str _, .non => true
  | .int _, .int _ => true | .bl _, .bl _ => true | .str _, .str _ => true | .byt _, .byt _ => true
  | .int _, .str _ => true | .str _, .int _ => true | .bl _, .str _ => true | .str _, .bl _ => true
  | _, _ => false
def rEq : R2 := fun x y H Q => scal x y = true ∧ Q (.bl (decide (x = y))) H
def rNe : R2 := fun x y H Q => scal x y = true ∧ Q (.bl (!decide (x = y))) H

theorem dec_int {i j : Int} : decide (V.int i = V.int j) = (i == j) := by
  rw [Bool.eq_iff_iff]
  simp
theorem dec_bl {i j : Bool} : decide (V.bl i = V.bl j) = (i == j) := by
  rw [Bool.eq_iff_iff]
  simp
theorem dec_str {i j : Str} : decide (V.str i = V.str j) = (i == j) := by
  rw [Bool.eq_iff_iff]
  simp
theorem dec_byt {i j : Array UInt8} : decide (V.byt i = V.byt j) = (i.toList == j.toList) := by
  rw [Bool.eq_iff_iff]
  cases i
  cases j
  simp

section
variable {X : Cx} {a b c : Expr} {ta tb tc : TE} {pos : Pos}
theorem fin_bl {pins : List (Addr × Obj)} {σ : St} {H : Hp} {s : Shared} {Q : VK} {k k' : Bool} (I : Inv X pins σ H s) (q : Q (.bl k) H) (e : k = k') : EP X pins σ Q (.bool k') s := by
  subst e
  exact ⟨.bl k, H, I, rfl, q⟩
theorem op_eq : OpR X (compareOp .Eq) rEq := by
  intro pins s σ H x y v u Q I rx ry h
  obtain ⟨hs, q⟩ := h
  cases x with
  | non =>
    cases rx
    cases y with
    | non => cases ry; exact PySem.EqNone.eq_none_none (fin_bl I q (by simp))
    | bl j => cases ry; exact PySem.EqNone.eq_none_bool (fin_bl I q (by simp))
    | int j => obtain ⟨t', rfl⟩ := ry; exact PySem.EqNone.eq_none_int (fin_bl I q (by simp))
    | str j => obtain ⟨t', rfl⟩ := ry; exact PySem.EqNone.eq_none_str (fin_bl I q (by simp))
    | _ => exact absurd (show false = true from hs) Bool.false_ne_true
  | bl i =>
    cases rx
    cases y with
    | non => cases ry; exact PySem.EqNone.eq_bool_none (fin_bl I q (by simp))
    | bl j => cases ry; exact eq_bool (fin_bl I q dec_bl)
    | str j => obtain ⟨t', rfl⟩ := ry; exact PySem.EqMixed.eq_bool_str (fin_bl I q (by simp))
    | _ => exact absurd (show false = true from hs) Bool.false_ne_true
  | int i =>
    obtain ⟨t, rfl⟩ := rx
    cases y with
    | non => cases ry; exact PySem.EqNone.eq_int_none (fin_bl I q (by simp))
    | int j => obtain ⟨t', rfl⟩ := ry; exact eq_int (fin_bl I q dec_int)
    | str j => obtain ⟨t', rfl⟩ := ry; exact PySem.EqMixed.eq_int_str (fin_bl I q (by simp))
    | _ => exact absurd (show false = true from hs) Bool.false_ne_true
  | str i =>
    obtain ⟨t, rfl⟩ := rx
    cases y with
    | non => cases ry; exact PySem.EqNone.eq_str_none (fin_bl I q (by simp))
    | bl j => cases ry; exact PySem.EqMixed.eq_str_bool (fin_bl I q (by simp))
    | int j => obtain ⟨t', rfl⟩ := ry; exact PySem.EqMixed.eq_str_int (fin_bl I q (by simp))
    | str j => obtain ⟨t', rfl⟩ := ry; exact eq_str (fin_bl I q dec_str)
    | _ => exact absurd (show false = true from hs) Bool.false_ne_true
  | byt i =>
    obtain ⟨t, rfl⟩ := rx
    cases y with
    | byt j => obtain ⟨t', rfl⟩ := ry; exact PySem.W.eq_bytes (fin_bl I q dec_byt)
    | _ => exact absurd (show false = true from hs) Bool.false_ne_true
  | _ => cases y <;> exact absurd (show false = true from hs) Bool.false_ne_true
theorem op_ne : OpR X (compareOp .NotEq) rNe := by
  intro pins s σ H x y v u Q I rx ry h
  obtain ⟨hs, q⟩ := h
  cases x with
  | non =>
    cases rx
    cases y with
    | non => cases ry; exact PySem.EqNone.ne_none_none (fin_bl I q (by simp))
    | bl j => cases ry; exact PySem.EqNone.ne_none_bool (fin_bl I q (by simp))
    | int j => obtain ⟨t', rfl⟩ := ry; exact PySem.EqNone.ne_none_int (fin_bl I q (by simp))
    | str j => obtain ⟨t', rfl⟩ := ry; exact PySem.EqNone.ne_none_str (fin_bl I q (by simp))
    | _ => exact absurd (show false = true from hs) Bool.false_ne_true
  | bl i =>
    cases rx
    cases y with
    | non => cases ry; exact PySem.EqNone.ne_bool_none (fin_bl I q (by simp))
    | bl j => cases ry; exact ne_bool (fin_bl I q (congrArg not dec_bl))
    | str j => obtain ⟨t', rfl⟩ := ry; exact PySem.EqMixed.ne_bool_str (fin_bl I q (by simp))
    | _ => exact absurd (show false = true from hs) Bool.false_ne_true
  | int i =>
    obtain ⟨t, rfl⟩ := rx
    cases y with
    | non => cases ry; exact PySem.EqNone.ne_int_none (fin_bl I q (by simp))
    | int j => obtain ⟨t', rfl⟩ := ry; exact ne_int (fin_bl I q (congrArg not dec_int))
    | str j => obtain ⟨t', rfl⟩ := ry; exact PySem.EqMixed.ne_int_str (fin_bl I q (by simp))
    | _ => exact absurd (show false = true from hs) Bool.false_ne_true
  | str i =>
    obtain ⟨t, rfl⟩ := rx
    cases y with
    | non => cases ry; exact PySem.EqNone.ne_str_none (fin_bl I q (by simp))
    | bl j => cases ry; exact PySem.EqMixed.ne_str_bool (fin_bl I q (by simp))
    | int j => obtain ⟨t', rfl⟩ := ry; exact PySem.EqMixed.ne_str_int (fin_bl I q (by simp))
    | str j => obtain ⟨t', rfl⟩ := ry; exact ne_str (fin_bl I q (congrArg not dec_str))
    | _ => exact absurd (show false = true from hs) Bool.false_ne_true
  | byt i =>
    obtain ⟨t, rfl⟩ := rx
    cases y with
    | byt j => obtain ⟨t', rfl⟩ := ry; exact PySem.W.ne_bytes (fin_bl I q (congrArg not dec_byt))
    | _ => exact absurd (show false = true from hs) Bool.false_ne_true
  | _ => cases y <;> exact absurd (show false = true from hs) Bool.false_ne_true

theorem op_lt : OpR X (compareOp .Lt) (rI0 fun i j => .bl (decide (i < j))) := opB0 fun _ _ _ _ _ _ _ q => lt_int q
theorem op_le : OpR X (compareOp .LtE) (rI0 fun i j => .bl (decide (i ≤ j))) := opB0 fun _ _ _ _ _ _ _ q => le_int q
theorem op_gt : OpR X (compareOp .Gt) (rI0 fun i j => .bl (decide (j < i))) := opB0 fun _ _ _ _ _ _ _ q => gt_int q
theorem op_ge : OpR X (compareOp .GtE) (rI0 fun i j => .bl (decide (j ≤ i))) := opB0 fun _ _ _ _ _ _ _ q => ge_int q

theorem op_isN : OpR X (compareOp .Is) (fun x y H Q => y = .non ∧ Q (.bl (decide (x = .non))) H) := by
  intro pins s σ H x y v u Q I rx ry h
  obtain ⟨rfl, q⟩ := h
  cases ry
  refine is_none_gen (fin_bl I q ?_)
  cases x <;> first
    | (cases rx; rfl)
    | (obtain ⟨t, rfl⟩ := rx; rfl)


theorem OpR.or {f : Value → Value → Sem Value} {r r' : R2} (h : OpR X f r) (h' : OpR X f r') : OpR X f (fun x y H Q => r x y H Q ∨ r' x y H Q) := by
  intro pins s σ H x y v u Q I rx ry q
  rcases q with q | q
  · exact h pins s σ H x y v u Q I rx ry q
  · exact h' pins s σ H x y v u Q I rx ry q

theorem nomark (b : Expr) {op : CmpOp} (h : op ≠ .In := by decide) (h2 : op ≠ .NotIn := by decide) : behindInMarks op b = false := by
  have e1 : (op == CmpOp.In) = false := by cases op <;> first | rfl | exact absurd rfl h
  have e2 : (op == CmpOp.NotIn) = false := by cases op <;> first | rfl | exact absurd rfl h2
  cases b <;> simp [behindInMarks, e1, e2]
theorem pe_cmpR {op : CmpOp} {r : R2} (ho : OpR X (compareOp op) r) (ha : PE X a ta) (hb : PE X b tb) (hm : behindInMarks op b = false) : PE X (.Compare a [op] [b] pos) (tOp r ta tb) := by
  intro pins s σ H Q I h
  exact wpAny_Compare1 (binT ha hb I h fun v u s2 x y H2 I2 rx ry q => ho pins s2 σ H2 x y v u Q I2 rx ry q) hm
def tTest (t : TE) : TT := fun σ H Q => t σ H fun x H' => ∃ k, x = .bl k ∧ Q k H'
theorem pt_cmpR {op : CmpOp} {r : R2} (ho : OpR X (compareOp op) r) (ha : PE X a ta) (hb : PE X b tb) (hm : behindInMarks op b = false) : PT X (.Compare a [op] [b] pos) (tTest (tOp r ta tb)) := by
  intro pins s σ H Q I h
  refine wpAny_isTrue_Compare1 (thn (ha pins s σ H _ I h) fun v s1 ⟨x, H1, I1, r1, q1⟩ => thn (hb pins s1 σ H1 _ I1 q1) fun u s2 ⟨y, H2, I2, r2, q2⟩ =>
    thn (ho pins s2 σ H2 x y v u _ I2 r1 r2 q2) fun c s3 ⟨z, H3, I3, r3, k, e, q3⟩ => ?_) hm
  subst e
  cases r3
  exact wpAny_truthy_bool ⟨H3, I3, q3⟩

/-! ### truth -/
theorem line63 : (sizeLine : Nat) < 2 ^ 63 := by rw [sizeLine_eq]; decide

/-! ### strs and bytes -/


/-! ### scalar builtins, by CallR -/
theorem vals1 {x : V} {us : List Value} (r : Vals [x] us) : ∃ u, us = [u] ∧ RelV x u := by
  cases r with
  | cons r1 r2 => cases r2; exact ⟨_, rfl, r1⟩
theorem vals2 {x y : V} {us : List Value} (r : Vals [x, y] us) : ∃ u w', us = [u, w'] ∧ RelV x u ∧ RelV y w' := by
  cases r with
  | cons r1 r2 =>
    cases r2 with
    | cons r3 r4 => cases r4; exact ⟨_, _, rfl, r1, r3⟩
theorem call_max2 (hc : X.calm = true) : CallR X (.builtin "max") (fun xs H Q => ∃ i j, xs = [.int i, .int j] ∧ Q (.int (if j > i then j else i)) H) := by
  intro pins s σ H xs us Q I r h
  obtain ⟨i, j, rfl, q⟩ := h
  obtain ⟨u, w', rfl, ⟨t, rfl⟩, ⟨t', rfl⟩⟩ := vals2 r
  refine max_two_ints (I.ok.hd hc) fun h' tk k => ⟨_, H, I.kept k, ?_, q⟩
  by_cases hj : j > i
  · rw [if_pos hj, if_pos hj]; exact ⟨_, rfl⟩
  · rw [if_neg hj, if_neg hj]; exact ⟨_, rfl⟩
theorem call_min2 (hc : X.calm = true) : CallR X (.builtin "min") (fun xs H Q => ∃ i j, xs = [.int i, .int j] ∧ Q (.int (if j < i then j else i)) H) := by
  intro pins s σ H xs us Q I r h
  obtain ⟨i, j, rfl, q⟩ := h
  obtain ⟨u, w', rfl, ⟨t, rfl⟩, ⟨t', rfl⟩⟩ := vals2 r
  refine min_two_ints (I.ok.hd hc) fun h' tk k => ⟨_, H, I.kept k, ?_, q⟩
  by_cases hj : j < i
  · rw [if_pos hj, if_pos hj]; exact ⟨_, rfl⟩
  · rw [if_neg hj, if_neg hj]; exact ⟨_, rfl⟩
theorem call_int1 : CallR X (.type "int") (fun xs H Q => (∃ i, xs = [.int i] ∧ Q (.int i) H) ∨ ∃ k, xs = [.bl k] ∧ Q (.int (if k then 1 else 0)) H) := by
  intro pins s σ H xs us Q I r h
  rcases h with ⟨i, rfl, q⟩ | ⟨k, rfl, q⟩
  · obtain ⟨u, rfl, t, rfl⟩ := vals1 r
    exact call_int_int ⟨.int i, H, I, ⟨_, rfl⟩, q⟩
  · obtain ⟨u, rfl, r1⟩ := vals1 r
    cases r1
    exact call_int_bool ⟨.int (if k then 1 else 0), H, I.tok _, ⟨_, rfl⟩, q⟩
end
end L2

namespace L2
open PySem PySem.Spec PyProof.Rows

/-! ### an instance, its attributes a map -/
structure ObjM (h : Heap) (x dx C : Addr) (mA : Str → Option Value) : Prop where
  obj : h.get? x = some (PySem.W.instObj C dx)
  ns : h.Ns1 dx mA
  ne : dx ≠ x



section
variable {prog : Program} {w : World} {A : Around} {E : Value → Shared → Prop} {s : Shared} {K : PySem.W.Frag} {x dx C f : Addr} {mA : Str → Option Value} {name : Str} {v : Value}





end

/-! ### the attributes as a list of pairs -/


section
variable {P : Program} {w : World} {H H' : Hp} {h h' : Heap} {a C dx : Addr} {fs fs' : List (Str × V)}
end

/-! ### what of the text a class must have -/
structure Cls (K : PySem.W.Frag) (C : Addr) : Prop where
  pg : PySem.W.plainGet K C Str.empty = true
  hd : PySem.W.hasDictIn K C = true
  po : PySem.W.plainOver K C = true
  sa : PySem.W.findIn K (.ref C) "__setattr__" = some (some (.builtin "object.__setattr__"))
theorem Cls.get {K : PySem.W.Frag} {C : Addr} (c : Cls K C) (f : Str) : PySem.W.plainGet K C f = true := c.pg
def NoAttr (K : PySem.W.Frag) (C : Addr) (f : Str) : Prop := PySem.W.findIn K (.ref C) f = some none
structure Con (K : PySem.W.Frag) (C : Addr) (f : Str) (v : V) (u : Value) : Prop where
  at_ : PySem.W.findIn K (.ref C) f = some (some u)
  rel : RelV v u
  get : PySem.W.specialIn K u "__get__" = some none
  cp : PySem.W.copiedNames.contains f = false
structure Meth (K : PySem.W.Frag) (C : Addr) (m : Str) (f : Addr) : Prop where
  at_ : PySem.W.findIn K (.ref C) m = some (some (.ref f))
  fn : PySem.W.isFn K (.ref f) = true
  kp : PySem.W.keepIn K (.ref f) = true

section
variable {X : Cx} {pins : List (Addr × Obj)} {σ : St} {H : Hp} {s : Shared} {a C dx : Addr} {fs : List (Str × V)} {f : Str} {v : V} {A : Around} {E : Value → Shared → Prop}





theorem Inv.made (I : Inv X pins σ H s) : Inv X pins σ (upd (upd H s.heap.objs.size (.own (s.heap.objs.size + 1))) (s.heap.objs.size + 1) (.ins C s.heap.objs.size []))
    { s with heap := (s.heap.push PySem.W.emptyDict).push (PySem.W.instObj C s.heap.objs.size) } := by
  have e1 : (s.heap.push PySem.W.emptyDict).get? s.heap.objs.size = some PySem.W.emptyDict := Heap.get?_push_size s.heap rfl
  have e2 : ((s.heap.push PySem.W.emptyDict).push (PySem.W.instObj C s.heap.objs.size)).get? (s.heap.objs.size + 1) = some (PySem.W.instObj C s.heap.objs.size) := by
    have := Heap.get?_push_size (s.heap.push PySem.W.emptyDict) (o := PySem.W.instObj C s.heap.objs.size) rfl
    rwa [Heap.size_push] at this
  have e3 : (s.heap.push PySem.W.emptyDict).Ns s.heap.objs.size (fun _ => none) := ⟨PySem.W.emptyDict, #[], _, e1, rfl, (fun e he => absurd he (by simp)), fun _ => rfl⟩
  have I1 := I.laid (a := s.heap.objs.size) (o := .own (s.heap.objs.size + 1)) (h' := s.heap.push PySem.W.emptyDict) (t' := s.toks) (fun b u q => Heap.get?_push_of_some _ q) (Nat.le_refl _) ⟨_, e1⟩
  refine I1.laid (a := s.heap.objs.size + 1) (o := .ins C s.heap.objs.size []) (t' := s.toks) (fun b u q => Heap.get?_push_of_some _ q) (Nat.le_of_eq (Heap.size_push _ _)) ?_
  have ne : s.heap.objs.size ≠ s.heap.objs.size + 1 := Nat.ne_of_lt (Nat.lt_succ_self _)
  refine ⟨by rw [upd_ne ne, upd_same], Nat.zero_le _, ne, e2, fun _ => none, (Heap.Ns1.of_empty e3).at fun o q => Heap.get?_push_of_some _ q, fun _ => True.intro, fun y hy => absurd rfl hy⟩

end

/-! ### readings and rules -/

section
variable {X : Cx} {o e value : Expr} {f : Str} {pos pos' tpos : Pos} {ta tv : TE}

end

/-! ### isinstance -/
section
variable {X : Cx} {pins : List (Addr × Obj)} {σ : St} {H : Hp} {s : Shared} {A : Around} {E : Value → Shared → Prop} {Q : Value → Shared → Prop} {c : Value} {b : Bool}
inductive TyOf (K : PySem.W.Frag) (H : Hp) : V → Value → Prop where
  | non : TyOf K H .non (.type "NoneType")
  | bl (x : Bool) : TyOf K H (.bl x) (.type "bool")
  | int (i : Int) : TyOf K H (.int i) (.type "int")
  | str (x : Str) : TyOf K H (.str x) (.type "str")
  | flt (x : UInt64) : TyOf K H (.flt x) (.type "float")
  | lst {a : Addr} {xs : List V} (e : H a = some (.lst xs)) : TyOf K H (.ref a) (.type "list")
  | frz {a : Addr} {o : Obj} {xs : List V} (e : H a = some (.frz o (.lst xs))) : TyOf K H (.ref a) (.type "list")
  | tup {a : Addr} {xs : List V} (e : H a = some (.tup xs)) : TyOf K H (.ref a) (.type "tuple")
  | dK {a : Addr} {kvs : List (Key × V)} (e : H a = some (.dK kvs)) : TyOf K H (.ref a) (.type "dict")
  | dT {a : Addr} {kvs : List (List Key × V)} (e : H a = some (.dT kvs)) : TyOf K H (.ref a) (.type "dict")
  | ins {a C dx : Addr} {fs : List (Str × V)} (e : H a = some (.ins C dx fs)) (cl : Cls K C) (ha : PySem.W.findIn K (.ref C) "__class__" = some (some (.builtin "object.__class__")))
      (hn : PySem.W.specialIn K (.builtin "object.__class__") "__get__" = some (some (.builtin "getset_descriptor.__get__"))) (htk : PySem.W.takesIn K (.builtin "object.__class__") = some true)
      (hm : PySem.W.mroIn K C (.type "object") = some true) : TyOf K H (.ref a) (.ref C)
end
end L2

namespace L2
open PySem PySem.Spec PyProof.Rows

/-! ### room -/
structure Room (k : Nat) (A : Around) : Prop where
  hd : A.handled = none
  dp : A.depth + 3 * k + 5 < recursionLimit
  un : A.units + 16 * k + 200 < cLine
theorem Room.mono {j k : Nat} {A : Around} (r : Room k A) (h : j ≤ k) : Room j A := ⟨r.hd, by have := r.dp; omega, by have := r.un; omega⟩
theorem Room.deeper {k : Nat} {A : Around} (r : Room (k + 1) A) (env : Env) : Room k (A.deeper env) :=
  ⟨r.hd, by have := r.dp; show A.depth + 1 + 3 * k + 5 < _; omega, by have := r.un; show A.units + 3 + 16 * k + 200 < _; omega⟩
theorem Room.in1 {k : Nat} {A : Around} (r : Room (k + 1) A) : Room k A.in1 :=
  ⟨r.hd, by have := r.dp; show A.depth + 3 * k + 5 < _; omega, by have := r.un; show A.units + 1 + 16 * k + 200 < _; omega⟩
theorem Room.depth {k : Nat} {A : Around} (r : Room k A) : A.depth < recursionLimit := by have := r.dp; omega
theorem Room.units {k : Nat} {A : Around} (r : Room k A) : A.units + 64 < cLine := by have := r.un; omega

/-! ### argument lists and displays -/
def tNil : TA := fun _ H Q => Q [] H
def tCons (ta : TE) (tr : TA) : TA := fun σ H Q => ta σ H fun x H1 => tr σ H1 fun xs H2 => Q (x :: xs) H2
section
variable {X : Cx} {e : Expr} {es : List Expr} {te : TE} {t : TA} {pos : Pos}
theorem pa_nil : PA X [] tNil := fun _ _ _ _ H Q I h => Calls.spliced_nil ⟨[], H, I, .nil, h⟩
theorem pa_cons (ha : PE X e te) (hr : PA X es t) (hs : starEach (e :: es) X.env = (false, eval e X.env) :: starEach es X.env := by rfl) : PA X (e :: es) (tCons te t) := by
  intro pos pins s σ H Q I h
  rw [hs]
  show wpAny _ _ (spliced ((false, eval e X.env) :: backTo pos (starEach es X.env))) _ _ s
  refine Calls.spliced_cons (thn (ha pins s σ H _ I h) fun u s1 ⟨x, H1, I1, r1, q1⟩ => ?_)
  exact thn (hr pos pins s1 σ H1 _ I1 q1) fun us s2 ⟨xs, H2, I2, r2, q2⟩ => ⟨x :: xs, H2, I2, .cons r1 r2, q2⟩

def tTup (t : TA) : TE := fun σ H Q => t σ H fun xs H1 => xs.length ≤ sizeLine ∧ ∀ p, H1 p = none → Q (.ref p) (upd H1 p (.tup xs))
def tLst (t : TA) : TE := fun σ H Q => t σ H fun xs H1 => xs.length ≤ sizeLine ∧ ∀ p, H1 p = none → Q (.ref p) (upd H1 p (.lst xs))
theorem pe_tup {x1} (h : PA X es t) : PE X (.Tuple es x1 pos) (tTup t) := by
  intro pins s σ H Q I hq
  refine wpAny_Tuple_spliced (thn (h pos pins s σ H _ I hq) fun us s1 ⟨xs, H1, I1, r, z, q⟩ => ⟨by rw [← r.length]; exact z, ?_⟩)
  have hf : H1 s1.heap.objs.size = none := I1.hok.fresh (Nat.le_refl _)
  refine ⟨.ref s1.heap.objs.size, upd H1 s1.heap.objs.size (.tup xs), I1.laid (t' := s1.toks) (fun b u e => Heap.get?_push_of_some _ e) (Nat.le_refl _) ?_, rfl, q _ hf⟩
  exact ⟨z, us, r, ⟨_, Heap.get?_push_size _ rfl, rfl, _, rfl⟩⟩
theorem pe_lst (h : PA X es t) : PE X (.List es pos) (tLst t) := by
  intro pins s σ H Q I hq
  refine wpAny_List_spliced (thn (h pos pins s σ H _ I hq) fun us s1 ⟨xs, H1, I1, r, z, q⟩ => ⟨by rw [← r.length]; exact z, ?_⟩)
  have hf : H1 s1.heap.objs.size = none := I1.hok.fresh (Nat.le_refl _)
  refine ⟨.ref s1.heap.objs.size, upd H1 s1.heap.objs.size (.lst xs), I1.laid (t' := s1.toks) (fun b u e => Heap.get?_push_of_some _ e) (Nat.le_refl _) ?_, rfl, q _ hf⟩
  exact ⟨z, us, 0, r, Heap.get?_push_size _ rfl⟩
end

/-! ### what a def promises -/
abbrev Sp := List V → Hp → VK → XK → Prop
abbrev CXT := List Env → Hp → Shared → XK → Value → Shared → Prop

structure Env0 (P : Program) (w : World) (K : PySem.W.Frag) (mg : Str → Option Value) (base : Heap) (A : Around) (outer : List Env) (s : Shared) (H : Hp) : Prop where
  frames : A.frames = some outer
  mod : Mod K mg base
  bs : ∀ b o, base.get? b = some o → s.heap.get? b = some o ∧ H b = none
  bsz : base.objs.size ≤ s.heap.objs.size
  funs : s.heap.FunFrames base outer
  frf : ∀ b ∈ frs outer, H b = none
  hok : HOk P w H s.heap
  bare : AllBare s.gens
def CE (outer : List Env) (P : Program) (w : World) (H : Hp) (s : Shared) (Q : VK) (u : Value) (s' : Shared) : Prop :=
  ∃ v H', s'.os = s.os ∧ AllBare s'.gens ∧ Un (frs outer) [] H H' s.heap s'.heap ∧ HOk P w H' s'.heap ∧ RelV v u ∧ Q v H'
def CR (CX : CXT) (outer : List Env) (P : Program) (w : World) (H : Hp) (s : Shared) (Q : VK) (E : XK) (r : Result) (s' : Shared) : Prop :=
  match r with
  | .ok (.ret u) => CE outer P w H s Q u s'
  | .ok _ => False
  | .error e => CX outer H s E e s'
structure FnOk (P : Program) (w : World) (K : PySem.W.Frag) (mg : Str → Option Value) (base : Heap) (CX : CXT) (k : Nat) (f : Addr) (fd : FuncData) (ps : List Str) (sp : Sp) : Prop where
  len : ∀ vs H Q E, sp vs H Q E → vs.length = ps.length
  run : ∀ (A : Around) (outer : List Env) (s : Shared) (H : Hp) (args : Args) (us : List Value) (vs : List V) (Q : VK) (E : XK), Room k A → Env0 P w K mg base A outer s H → BindsTo s fd args (ps.zip us) → Vals vs us → sp vs H Q E →
    codeAny (model P w) A (.call (.ref f) args) (CR CX outer P w H s Q E) s
theorem FnOk.mono {P : Program} {w : World} {K : PySem.W.Frag} {mg : Str → Option Value} {base : Heap} {CX : CXT} {j k : Nat} {f : Addr} {fd : FuncData} {ps : List Str} {sp : Sp} (F : FnOk P w K mg base CX j f fd ps sp) (h : j ≤ k) :
    FnOk P w K mg base CX k f fd ps sp := ⟨F.len, fun A outer s H args us vs Q E hr => F.run A outer s H args us vs Q E (hr.mono h)⟩
theorem FnOk.imp {P : Program} {w : World} {K : PySem.W.Frag} {mg : Str → Option Value} {base : Heap} {CX : CXT} {k : Nat} {f : Addr} {fd : FuncData} {ps : List Str} {sp sp' : Sp} (F : FnOk P w K mg base CX k f fd ps sp)
    (h : ∀ vs H Q E, sp' vs H Q E → sp vs H Q E) : FnOk P w K mg base CX k f fd ps sp' :=
  ⟨fun vs H Q E q => F.len vs H Q E (h _ _ _ _ q), fun A outer s H args us vs Q E hr he hb hv hs => F.run A outer s H args us vs Q E hr he hb hv (h _ _ _ _ hs)⟩

theorem Env0.in1 {P : Program} {w : World} {K : PySem.W.Frag} {mg : Str → Option Value} {base : Heap} {A : Around} {outer : List Env} {s : Shared} {H : Hp} (e : Env0 P w K mg base A outer s H) :
    Env0 P w K mg base A.in1 outer s H := ⟨e.frames, e.mod, e.bs, e.bsz, e.funs, e.frf, e.hok, e.bare⟩

section
variable {X : Cx} {pins : List (Addr × Obj)} {σ : St} {H : Hp} {s s' : Shared}
theorem Inv.env0 (I : Inv X pins σ H s) : Env0 X.prog X.w X.K X.mg X.base X.A X.stack s H :=
  ⟨I.ok.frames, I.ok.mod, I.bs, Nat.le_trans I.ok.bsz I.sz, I.stack, I.stkFree, I.hok, I.bare⟩
theorem Inv.after {Q : VK} {u : Value} (I : Inv X pins σ H s) (h : CE X.stack X.prog X.w H s Q u s') : EP X pins σ Q u s' := by
  obtain ⟨v, H', os, bare, un, hok, r, q⟩ := h
  obtain ⟨hh, g, d, t, os'⟩ := s'
  obtain rfl : os' = s.os := os
  exact ⟨v, H', I.call (h' := hh) (g' := g) (d' := d) (t' := t) (ch := []) un hok bare (fun b z => absurd z (by simp)), r, q⟩
end

/-! ### calls -/
def tCall (sp : Sp) (dvs : List V) (E : XK) (t : TA) : TE := fun σ H Q => t σ H fun vs H1 => sp (vs ++ dvs) H1 Q E

def Binds (K : PySem.W.Frag) (fd : FuncData) (ps : List Str) (ds : List Value) : Prop :=
  ∀ (s : Shared) (us : List Value), K.In s.heap → (us ++ ds).length = ps.length → BindsTo s fd ⟨us, []⟩ (ps.zip (us ++ ds))
theorem Binds.all {K : PySem.W.Frag} {fd : FuncData} {ps : List Str} (h : ∀ us : List Value, us.length = ps.length → bindArgs fd ⟨us, []⟩ = pure (ps.zip us)) : Binds K fd ps [] := fun s us _ hl => by
  rw [List.append_nil] at hl ⊢
  exact .of_eq (h us hl)

def Passes (CX : CXT) (X : Cx) (E : XK) : Prop := ∀ (pins : List (Addr × Obj)) (σ : St) (H : Hp) (s : Shared) (e : Value) (s' : Shared), Inv X pins σ H s → CX X.stack H s E e s' → X.xe e s'

section
variable {X : Cx} {CX : CXT} {k : Nat} {f C : Addr} {fd : FuncData} {ps : List Str} {sp : Sp} {dvs : List V} {ds : List Value} {E : XK} {x m : Str} {p pos apos : Pos} {e o : Expr} {es : List Expr} {ta : TE} {t : TA}

theorem run_fn {pins : List (Addr × Obj)} {σ : St} {H : Hp} {s : Shared} {Q : VK} {us : List Value} {vs : List V} (F : FnOk X.prog X.w X.K X.mg X.base CX k f fd ps sp) (hr : Room k X.A) (hb : Binds X.K fd ps ds) (hd : Vals dvs ds) (hx : Passes CX X E)
    (I : Inv X pins σ H s) (r : Vals vs us) (h : sp (vs ++ dvs) H Q E) : wpAny (model X.prog X.w) X.A (call (.ref f) us) (EP X pins σ Q) X.xe s := by
  have r2 : Vals (vs ++ dvs) (us ++ ds) := r.append hd
  have hl : (us ++ ds).length = ps.length := by rw [← r2.length]; exact F.len _ _ _ _ h
  refine wpAny_call (codeAny_mono (F.run X.A X.stack s H ⟨us, []⟩ (us ++ ds) (vs ++ dvs) Q E hr I.env0 (hb s us I.kIn hl) r2 h) fun r s' hq => ?_)
  cases r with
  | error e => exact hx pins σ H s e s' I hq
  | ok fl =>
    cases fl with
    | ret u => exact I.after hq
    | next => exact False.elim hq
    | brk => exact False.elim hq
    | cont => exact False.elim hq

theorem pe_call (F : FnOk X.prog X.w X.K X.mg X.base CX k f fd ps sp) (hr : Room k X.A) (hg : Gl X x) (hm : X.mg x = some (.ref f)) (hk : PySem.W.keepIn X.K (.ref f) = true) (hb : Binds X.K fd ps ds) (hd : Vals dvs ds) (hx : Passes CX X E)
    (ha : PA X (e :: es) t) (hdb : (x == ("__debug__" : Str)) = false := by decide) (he : starEach (e :: es) X.env = (false, eval e X.env) :: starEach es X.env := by rfl) (hpl : (backTo pos (starEach es X.env)).any (·.1) = false := by rfl) :
    PE X (.Call (.Name x p) (e :: es) [] pos) (tCall sp dvs E t) := by
  intro pins s σ H Q I h
  refine wpAny_Call_Name_kw (ld_glob I hg hm ?_ hdb)
  refine PySem.W.callWith_K (h₀ := X.base) I.ok.mod.kin hk (thn (ha pos pins s σ H _ I h) fun us s1 ⟨vs, H1, I1, r, q⟩ => ⟨I1.kIn, ?_⟩) he hpl
  exact run_fn F hr hb hd hx I1 r q
theorem pe_call0 (F : FnOk X.prog X.w X.K X.mg X.base CX k f fd ps sp) (hr : Room k X.A) (hg : Gl X x) (hm : X.mg x = some (.ref f)) (hk : PySem.W.keepIn X.K (.ref f) = true) (hb : Binds X.K fd ps ds) (hd : Vals dvs ds) (hx : Passes CX X E)
    (hdb : (x == ("__debug__" : Str)) = false := by decide) : PE X (.Call (.Name x p) [] [] pos) (tCall sp dvs E tNil) := by
  intro pins s σ H Q I h
  refine wpAny_Call_Name_kw (ld_glob I hg hm ?_ hdb)
  exact PySem.W.callWith_K0 I.kIn hk (run_fn (us := []) F hr hb hd hx I .nil h)


structure Mk (K : PySem.W.Frag) (C f : Addr) : Prop where
  makes : PySem.W.makesIn K C = true
  init : PySem.W.findIn K (.ref C) "__init__" = some (some (.ref f))
  fn : PySem.W.isFn K (.ref f) = true
  kp : PySem.W.keepIn K (.ref C) = true

end

/-! ### keywords -/
section
variable {X : Cx} {CX : CXT} {k : Nat} {f C : Addr} {fd : FuncData} {ps ks : List Str} {sp : Sp} {E : XK} {x m : Str} {p pos apos kpos : Pos} {e o : Expr} {es : List Expr} {kws : List Keyword} {te ta : TE} {t tk : TA} {nm : Option Str}

structure KBinds (K : PySem.W.Frag) (fd : FuncData) (ps ks : List Str) (g : List Value → List Value → List Value) (gV : List V → List V → List V) : Prop where
  to : ∀ (s : Shared) (us ws : List Value), K.In s.heap → (g us ws).length = ps.length → BindsTo s fd ⟨us, ks.zip ws⟩ (ps.zip (g us ws))
  rel : ∀ {vs : List V} {us : List Value} {zs : List V} {ws : List Value}, Vals vs us → Vals zs ws → Vals (gV vs zs) (g us ws)
variable {g : List Value → List Value → List Value} {gV : List V → List V → List V}
end

/-! ### a def's body keeps its promise -/
structure FnScope (N P : List Str) (sc : Scope) : Prop where
  kind : sc.kind = .function
  co : sc.isCoroutine = false
  gen : sc.isGenerator = false
  nd : N.Nodup
  pre : N.take P.length = P
  par : ∀ x ∈ P, sc.names.lookup x = some .local ∨ sc.names.lookup x = some .cell
  nofree : ∀ y ∈ sc.names, y.2 ≠ .free

theorem bindL_out {kindOf : Str → Option NameKind} {x : Str} : ∀ {binds : List (Str × Value)} {m : Str → Option Value}, (∀ v, (x, v) ∉ binds) → bindL kindOf binds m x = m x
  | [], _, _ => rfl
  | (n, v) :: r, m, h => by
    unfold bindL
    rw [bindL_out fun w hw => h w (List.mem_cons_of_mem _ hw)]
    split
    · have : x ≠ n := by rintro rfl; exact h v List.mem_cons_self
      simp [this]
    · rfl
theorem bindC_out {kindOf : Str → Option NameKind} {x : Str} : ∀ {binds : List (Str × Value)} {m : Str → Option Value}, (∀ v, (x, v) ∉ binds) → bindC kindOf binds m x = m x
  | [], _, _ => rfl
  | (n, v) :: r, m, h => by
    unfold bindC
    rw [bindC_out fun w hw => h w (List.mem_cons_of_mem _ hw)]
    split
    · rfl
    · have : x ≠ n := by rintro rfl; exact h v List.mem_cons_self
      simp [this]
theorem bindL_get {kindOf : Str → Option NameKind} {x : Str} {v : Value} : ∀ {P : List Str} {vs : List Value} {i : Nat} {m : Str → Option Value}, P.Nodup → P[i]? = some x → vs[i]? = some v → kindOf x = some .local →
    bindL kindOf (P.zip vs) m x = some v
  | [], _, _, _, _, h, _, _ => by simp at h
  | _ :: _, [], _, _, _, _, h, _ => by simp at h
  | p :: P, w :: vs, 0, m, nd, h1, h2, hk => by
    simp at h1 h2; subst h1; subst h2
    show bindL kindOf ((p, w) :: P.zip vs) m p = _
    unfold bindL
    rw [bindL_out fun v hv => (List.nodup_cons.mp nd).1 (List.of_mem_zip hv).1, if_pos hk]
    simp
  | p :: P, w :: vs, i + 1, m, nd, h1, h2, hk => by
    show bindL kindOf ((p, w) :: P.zip vs) m x = _
    unfold bindL
    exact bindL_get (i := i) (List.nodup_cons.mp nd).2 (by simpa using h1) (by simpa using h2) hk
theorem bindC_get {kindOf : Str → Option NameKind} {x : Str} {v : Value} : ∀ {P : List Str} {vs : List Value} {i : Nat} {m : Str → Option Value}, P.Nodup → P[i]? = some x → vs[i]? = some v → kindOf x ≠ some .local →
    bindC kindOf (P.zip vs) m x = some v
  | [], _, _, _, _, h, _, _ => by simp at h
  | _ :: _, [], _, _, _, _, h, _ => by simp at h
  | p :: P, w :: vs, 0, m, nd, h1, h2, hk => by
    simp at h1 h2; subst h1; subst h2
    show bindC kindOf ((p, w) :: P.zip vs) m p = _
    unfold bindC
    rw [bindC_out fun v hv => (List.nodup_cons.mp nd).1 (List.of_mem_zip hv).1, if_neg hk]
    simp
  | p :: P, w :: vs, i + 1, m, nd, h1, h2, hk => by
    show bindC kindOf ((p, w) :: P.zip vs) m x = _
    unfold bindC
    exact bindC_get (i := i) (List.nodup_cons.mp nd).2 (by simpa using h1) (by simpa using h2) hk

def start (N : List Str) (vs : List V) : St := vs.map some ++ List.replicate (N.length - vs.length) none

def cxOf (CX : CXT) (P : Program) (w : World) (K : PySem.W.Frag) (mg : Str → Option Value) (base : Heap) (N : List Str) (qual : Str) (scope : Scope) (f : Addr) (cd : Value) (A : Around) (outer : List Env) (s : Shared) (H : Hp) (E : XK) : Cx where
  prog := P
  w := w
  K := K
  mg := mg
  base := base
  A := A.deeper (envOfC qual scope s.heap.objs.size f cd)
  N := N
  s₀ := s
  H₀ := H
  env := envOfC qual scope s.heap.objs.size f cd
  outer := outer
  stack := envOfC qual scope s.heap.objs.size f cd :: outer
  ex := []
  calm := true
  fn := fun _ => true
  pn := []
  xe := fun e s' => wpAny (model P w) (A.deeper (envOfC qual scope s.heap.objs.size f cd)) (leaving (envOfC qual scope s.heap.objs.size f cd) e) (fun _ s'' => CX outer H s E e s'') (fun e' s'' => CX outer H s E e' s'') s'

theorem cell_has {sc : Scope} {n : Nat} {x : Str} (h : sc.names.lookup x = some .cell) : ∃ c, (cellsFrom n sc.names []).lookup x = some c := by
  have q := PySem.W.cellsFrom_some sc.names n [] (.inl h)
  exact Option.isSome_iff_exists.mp q

theorem inv_start {CX : CXT} {P : Program} {w : World} {K : PySem.W.Frag} {mg : Str → Option Value} {base : Heap} {N ps : List Str} {qual : Str} {scope : Scope} {f : Addr} {cd : Value} {A : Around} {outer : List Env} {s s1 : Shared} {H : Hp} {E : XK} {us : List Value} {vs : List V}
    (S : FnScope N ps scope) (hd : A.handled = none) (e0 : Env0 P w K mg base A outer s H) (hl : vs.length = ps.length) (r : Vals vs us)
    (x : InCallC s s.heap.objs.size (bindL (envOfC qual scope s.heap.objs.size f cd).kindOf (ps.zip us) fun _ => none) (cellsFrom (s.heap.objs.size + 1) scope.names []) (bindC (envOfC qual scope s.heap.objs.size f cd).kindOf (ps.zip us) fun _ => none) s1) :
    Inv (cxOf CX P w K mg base N qual scope f cd A outer s H E) [] (start N vs) H s1 := by
  have hpl : ps.length ≤ N.length := by have := congrArg List.length S.pre; rw [List.length_take] at this; omega
  obtain ⟨h1, tk, rfl, hk⟩ := x.done
  have noA : ∀ b : Addr, b ∉ (cxOf CX P w K mg base N qual scope f cd A outer s H E).ex := fun b z => absurd (show b ∈ ([] : List Addr) from z) (by simp)
  refine ⟨⟨e0.mod, S.kind, rfl, rfl, Nat.le_refl _, fun y z c h1 h2 => ?_, fun y hy => ?_, fun y c _ h => ?_, fun _ => hd, Around.frames_deeper e0.frames, .inr ⟨rfl, rfl⟩, fun b z => absurd z (noA b), e0.bs, e0.bsz, fun b _ _ => noA b, fun b z => absurd z (noA b), e0.funs, e0.frf⟩,
    rfl, e0.bare, Un.kept hk, ⟨_, x.toInCall.ns, fun i y v h1 h2 h3 => ?_⟩, fun y c h => ⟨_, x.cell y c h⟩, e0.hok.fresh (Nat.le_refl _), fun y c h => ?_, fun p hp => absurd (show p ∈ ([] : List (Addr × Obj)) from hp) (by simp), e0.hok.kept hk, ?_⟩
  · exact name_of_addr x.apart (PySem.mem_of_lookup h1) (PySem.mem_of_lookup h2)
  · have hy : scope.names.lookup y = some .cell ∨ scope.names.lookup y = some .free := hy
    rcases hy with hy | hy
    · exact cell_has hy
    · exact absurd rfl (S.nofree _ (PySem.mem_of_lookup hy))
  · exact Nat.le_of_lt (x.above y c (PySem.mem_of_lookup h))
  · have hi : i < vs.length := by
      unfold start at h2
      by_cases hi : i < vs.length
      · exact hi
      · rw [List.getElem?_append_right (by simpa using hi)] at h2
        rw [List.getElem?_replicate] at h2
        split at h2 <;> cases h2
    have ha : vs[i]? = some v := by
      unfold start at h2
      rw [List.getElem?_append_left (by simpa using hi), List.getElem?_map] at h2
      cases e : vs[i]? with
      | none => rw [e] at h2; cases h2
      | some a => rw [e] at h2; cases h2; rfl
    obtain ⟨u, hu, rv⟩ := r.get ha
    have hp : ps[i]? = some y := by
      rw [← S.pre, List.getElem?_take_of_lt (by omega)]; exact h1
    have ndP : ps.Nodup := by rw [← S.pre]; exact S.nd.sublist (List.take_sublist _ _)
    refine ⟨u, rv, ?_⟩
    rcases S.par y (List.mem_of_getElem? hp) with k | k
    · exact .inl ⟨k, bindL_get ndP hp hu k⟩
    · obtain ⟨c, e⟩ := cell_has (n := s.heap.objs.size + 1) k
      refine .inr ⟨.inl k, c, e, ?_⟩
      have q := x.cell y c e
      rw [bindC_get ndP hp hu (by show scope.names.lookup y ≠ _; rw [k]; decide)] at q
      exact q
  · exact e0.hok.fresh (Nat.le_of_lt (x.above y c (PySem.mem_of_lookup h)))
  · unfold start
    show _ = N.length
    rw [List.length_append, List.length_map, List.length_replicate]
    omega

theorem fn_of {CX : CXT} {P : Program} {w : World} {K : PySem.W.Frag} {mg : Str → Option Value} {base : Heap} {k : Nat} {f : Addr} {name qual : Str} {params : Arguments} {body : List Stmt} {scope : Scope} {dV kV doc pm cdv ct oc : Value} {an od : Option Addr}
    {osl : Array (Option Value)} {N ps : List Str} {sp : Sp} (lk : K.lookup f = some ⟨oc, od, .func (PySem.W.fnOf name qual params body scope dV kV doc pm an cdv ct), osl⟩) (hcd : PySem.W.codeIn K cdv qual = true) (S : FnScope N ps scope)
    (len : ∀ vs H Q E, sp vs H Q E → vs.length = ps.length)
    (hbody : ∀ (A : Around) (outer : List Env) (s : Shared) (H : Hp) (vs : List V) (Q : VK) (E : XK), Room k (A.deeper (envOfC qual scope s.heap.objs.size f cdv)) → sp vs H Q E →
      ∃ t, PSs (cxOf CX P w K mg base N qual scope f cdv A outer s H E) body t ∧ t { nx := fun _ H' => Q .non H', rt := Q } (start N vs) H) :
    FnOk P w K mg base CX (k + 1) f (PySem.W.fnOf name qual params body scope dV kV doc pm an cdv ct) ps sp := by
  refine ⟨len, fun A outer s H args us vs Q E hr e0 hb r hsp => ?_⟩
  have hl := len _ _ _ _ hsp
  have KX : K.In s.heap := e0.mod.kin.keeps fun b o e => (e0.bs b o e).1
  have lim : s.heap.NoLimit := e0.mod.nolimit.keeps fun b o e => (e0.bs b o e).1
  have hkind : ∀ y ∈ ps.zip us, scope.names.lookup y.1 = some .local ∨ (scope.names.lookup y.1 = some .cell ∧ ((cellsFrom (s.heap.objs.size + 1) scope.names []).lookup y.1).isSome = true) := fun ⟨n, v⟩ hy => by
    rcases S.par n (List.of_mem_zip hy).1 with q | q
    · exact .inl q
    · exact .inr ⟨q, PySem.W.cellsFrom_some _ _ _ (.inl q)⟩
  refine codeAny_call_function hr.depth (KX _ _ lk) rfl S.co S.gen rfl (PySem.W.codeRec_of KX hcd) (hb _ _ _ _ ?_)
  refine wpAny_newFunctionEnv_cells S.kind hkind fun env he s1 x => ?_
  subst he
  refine ⟨lim.keeps x.toInCall.keep, codeAny_func ?_⟩
  obtain ⟨t, ht, hq⟩ := hbody A outer s H vs Q E (hr.deeper _) hsp
  have I : Inv (cxOf CX P w K mg base N qual scope f cdv A outer s H E) [] (start N vs) H s1 := inv_start S hr.hd e0 hl r x
  refine wpAny_mono (ht [] s1 (start N vs) H _ I hq) (fun fl s' hs => ?_) fun e s' hs => hs
  have fin : ∀ {σ' : St} {H' : Hp} {v : V} {u : Value}, Inv (cxOf CX P w K mg base N qual scope f cdv A outer s H E) [] σ' H' s' → RelV v u → Q v H' → CE outer P w H s Q u s' :=
    fun {σ' H' v u} J rv q => ⟨v, H', J.os, J.bare, J.base, J.hok, rv, q⟩
  cases fl with
  | ret u =>
    obtain ⟨v, σ', H', J, rv, q⟩ := hs
    exact fin J rv q
  | next =>
    obtain ⟨σ', H', J, q⟩ := hs
    exact fin (v := V.non) (u := Value.none) J rfl q
  | brk =>
    obtain ⟨_, _, _, q⟩ := hs
    exact False.elim q
  | cont =>
    obtain ⟨_, _, _, q⟩ := hs
    exact False.elim q
end L2

namespace L2
open PySem PySem.Spec PyProof.Rows
section
variable {X : Cx} {x : Str} {p pos : Pos} {e : Expr} {es : List Expr} {t : TA} {id T : String} {r : List V → Hp → VK → Prop}

def tCB (r : List V → Hp → VK → Prop) (t : TA) : TE := fun σ H Q => t σ H fun vs H1 => r vs H1 Q
theorem pe_callB (hc : CallR X (.builtin id) r) (hg : Gl X x) (hm : X.mg x = none) (hv : bootBuiltins x = some (.builtin id)) (ha : PA X (e :: es) t) (hn : x ≠ "__name__" := by decide) (hdb : (x == ("__debug__" : Str)) = false := by decide)
    (he : starEach (e :: es) X.env = (false, eval e X.env) :: starEach es X.env := by rfl) (hpl : (backTo pos (starEach es X.env)).any (·.1) = false := by rfl) : PE X (.Call (.Name x p) (e :: es) [] pos) (tCB r t) := by
  intro pins s σ H Q I h
  refine wpAny_Call_Name_kw (ld_blt I hg hm hv ?_ hn hdb)
  exact PyProof.Rows.callWith_builtin1 (thn (ha pos pins s σ H _ I h) fun us s1 ⟨vs, H1, I1, r1, q1⟩ => hc pins s1 σ H1 vs us Q I1 r1 q1) he hpl
theorem pe_callTy (hc : CallR X (.type T) r) (hg : Gl X x) (hm : X.mg x = none) (hv : bootBuiltins x = some (.type T)) (ha : PA X (e :: es) t) (hn : x ≠ "__name__" := by decide) (hdb : (x == ("__debug__" : Str)) = false := by decide)
    (he : starEach (e :: es) X.env = (false, eval e X.env) :: starEach es X.env := by rfl) (hpl : (backTo pos (starEach es X.env)).any (·.1) = false := by rfl) : PE X (.Call (.Name x p) (e :: es) [] pos) (tCB r t) := by
  intro pins s σ H Q I h
  refine wpAny_Call_Name_kw (ld_blt I hg hm hv ?_ hn hdb)
  exact PyProof.Rows.callWith_type1 (thn (ha pos pins s σ H _ I h) fun us s1 ⟨vs, H1, I1, r1, q1⟩ => hc pins s1 σ H1 vs us Q I1 r1 q1) he hpl
end
end L2

namespace HT
open PySem PyProof.Rows



section
open PySem.SeqAt
open PySem.AutoSeq1 (wpAny_loadPart')
open PySem.MeetsSeq PySem.MeetsSeq2 PySem.MeetsSeq3

end

section
variable {prog : Program} {w : World} {A : Around} {E : Value → Shared → Prop} {s : Shared}



/-! ### t[a:b], not the whole -/
def sIx (n d : Nat) : Option Int → Nat
  | none => d
  | some v => if v < 0 then (v + (n : Int)).toNat else min v.toNat n

end
end HT

namespace L2
open PySem PySem.Spec PyProof.Rows

/-! ### the parts of a slice -/
abbrev TO := St → Hp → (Option Int → Hp → Prop) → Prop
def PO (X : Cx) (e : Option Expr) (t : TO) : Prop :=
  ∀ (pins : List (Addr × Obj)) (s : Shared) (σ : St) (H : Hp) (Q : Option Int → Hp → Prop), Inv X pins σ H s → t σ H Q →
    wpAny (model X.prog X.w) X.A (evalPart e X.env) (fun u s' => ∃ o H', Inv X pins σ H' s' ∧ IsPart u o ∧ Q o H') X.xe s
def tPart (t : TE) : TO := fun σ H Q => t σ H fun x H1 => ∃ i, x = .int i ∧ Q (some i) H1

theorem intsAre_of {ns : List Int} : ∀ {us : List Value}, Vals (ns.map V.int) us → IntsAre us ns := by
  induction ns with
  | nil => intro us r; rw [List.map_nil] at r; cases r; exact .nil
  | cons n ns ih =>
    intro us r
    rw [List.map_cons] at r
    cases r with
    | cons r1 r2 =>
      obtain ⟨t, e⟩ := r1
      subst e
      exact .cons n t (ih r2)

section
variable {X : Cx} {e : Expr} {te : TE} {lo hi : Option Expr} {tl th : TO} {pos p2 : Pos}

theorem po_some (h : PE X e te) : PO X (some e) (tPart te) := by
  intro pins s σ H Q I hw
  rw [evalPart_some]
  refine thn (h pins s σ H _ I hw) fun u s1 ⟨x, H1, I1, r1, q1⟩ => ?_
  obtain ⟨i, rfl, q⟩ := q1
  obtain ⟨t, rfl⟩ := r1
  exact ⟨some i, H1, I1, .int i t, q⟩

def SlR (X : Cx) (r : V → Option Int → Option Int → Hp → VK → Prop) : Prop :=
  ∀ (pins : List (Addr × Obj)) (s : Shared) (σ : St) (H : Hp) (x : V) (v vl vu : Value) (lo hi : Option Int) (sl : Addr) (Q : VK), Inv X pins σ H s → RelV x v → s.heap.IsSliceOf sl vl vu .none → IsPart vl lo → IsPart vu hi → r x lo hi H Q →
    ∃ T id, typeLookup (.type T) "__getitem__" = pure (some (.builtin id)) ∧ s.TypeIs v T ∧ wpAny (model X.prog X.w) X.A (getItem v (.ref sl)) (EP X pins σ Q) X.xe s
theorem SlR.or {r r' : V → Option Int → Option Int → Hp → VK → Prop} (h : SlR X r) (h' : SlR X r') : SlR X (fun x lo hi H Q => r x lo hi H Q ∨ r' x lo hi H Q) := by
  intro pins s σ H x v vl vu lo hi sl Q I rx hs pl pu q
  rcases q with q | q
  · exact h pins s σ H x v vl vu lo hi sl Q I rx hs pl pu q
  · exact h' pins s σ H x v vl vu lo hi sl Q I rx hs pl pu q
def tSl (r : V → Option Int → Option Int → Hp → VK → Prop) (te : TE) (tl th : TO) : TE := fun σ H Q => te σ H fun x H1 => tl σ H1 fun l H2 => th σ H2 fun u H3 => r x l u H3 Q
theorem pe_slice {r : V → Option Int → Option Int → Hp → VK → Prop} (hr : SlR X r) (he : PE X e te) (hl : PO X lo tl) (hu : PO X hi th) : PE X (.Subscript e (.Slice lo hi none p2) pos) (tSl r te tl th) := by
  intro pins s σ H Q I h
  refine Subscript_ (thn (he pins s σ H _ I h) fun v s1 ⟨x, H1, I1, r1, q1⟩ => ?_)
  refine wpAny_Slice (thn (hl pins s1 σ H1 _ I1 q1) fun vl s2 ⟨l, H2, I2, pl, q2⟩ => thn (hu pins s2 σ H2 _ I2 q2) fun vu s3 ⟨u, H3, I3, pu, q3⟩ => ?_)
  rw [evalPart_none]
  refine wpAny_pure ?_
  have I4 : Inv X pins σ H3 { s3 with heap := s3.heap.push { cls := .type "slice", data := .fields #[vl, vu, .none] } } := I3.kept (t' := s3.toks) fun b ob q => Heap.get?_push_of_some _ q
  obtain ⟨T, id, hT, ht, hg⟩ := hr pins { s3 with heap := s3.heap.push { cls := .type "slice", data := .fields #[vl, vu, .none] } } σ H3 x v vl vu l u s3.heap.objs.size Q I4 r1 (Heap.IsSliceOf.new ..) pl pu q3
  show wpAny (model X.prog X.w) X.A (subscriptTail e (.Slice lo hi none p2) v (.ref s3.heap.objs.size)) (EP X pins σ Q) X.xe { s3 with heap := s3.heap.push { cls := .type "slice", data := .fields #[vl, vu, .none] } }
  exact tail_any (ops := [.ref s3.heap.objs.size, v]) ht hT hg (by with_unfolding_all rfl)

def cutV (xs : List V) (lo hi : Option Int) : List V := (xs.drop (HT.sIx xs.length 0 lo)).take (HT.sIx xs.length xs.length hi - HT.sIx xs.length 0 lo)
theorem cutV_length (xs : List V) (lo hi : Option Int) : (cutV xs lo hi).length ≤ xs.length := by
  unfold cutV
  rw [List.length_take, List.length_drop]
  omega

/-! ### t < u, t + u -/
end
end L2

namespace L2
open PySem PySem.Spec PyProof.Rows

/-! ### places -/
def ixN (n : Nat) (i : Int) : Option Nat := if 0 ≤ i then (if i < n then some i.toNat else none) else if -(n : Int) ≤ i then some (i + n).toNat else none
def atI {α : Type} (xs : List α) (i : Int) : Option α := (ixN xs.length i).bind fun j => xs[j]?
theorem ixN_seq {n : Nat} {i : Int} {j : Nat} (h : ixN n i = some j) : seqIndex? i n = some j ∧ j < n ∧ -(n : Int) ≤ i ∧ i < n := by
  unfold ixN at h
  by_cases h0 : 0 ≤ i
  · rw [if_pos h0] at h
    by_cases h1 : i < n
    · rw [if_pos h1] at h
      have e : i.toNat = j := Option.some.inj h
      exact ⟨by rw [seqIndex_of h0 h1, e], by omega, by omega, h1⟩
    · rw [if_neg h1] at h; cases h
  · rw [if_neg h0] at h
    by_cases h1 : -(n : Int) ≤ i
    · rw [if_pos h1] at h
      have e : (i + n).toNat = j := Option.some.inj h
      exact ⟨by rw [seqIndex_neg (by omega) h1, e], by omega, h1, by omega⟩
    · rw [if_neg h1] at h; cases h
theorem atI_get {α : Type} {xs : List α} {i : Int} {v : α} (h : atI xs i = some v) : ∃ j, seqIndex? i xs.length = some j ∧ xs[j]? = some v ∧ j < xs.length ∧ -(xs.length : Int) ≤ i ∧ i < xs.length := by
  unfold atI at h
  cases e : ixN xs.length i with
  | none => rw [e] at h; cases h
  | some j =>
    rw [e] at h
    obtain ⟨h1, h2, h3, h4⟩ := ixN_seq e
    exact ⟨j, h1, h, h2, h3, h4⟩
theorem atI_nat {α : Type} {xs : List α} {j : Nat} {v : α} (h : xs[j]? = some v) : atI xs (j : Int) = some v := by
  have hj : j < xs.length := (List.getElem?_eq_some_iff.mp h).1
  have e : ixN xs.length (j : Int) = some j := by
    unfold ixN
    rw [if_pos (by omega), if_pos (by omega)]; simp
  unfold atI; rw [e]; exact h

/-! ### what may be subscripted -/
def PlainIx (b : Expr) : Prop := ∀ o i, subscripted b false o i = operate [o, i] (getItem o i)
def IxR (X : Cx) (r : R2) : Prop :=
  ∀ (value slice : Expr) (pins : List (Addr × Obj)) (s : Shared) (σ : St) (H : Hp) (x y : V) (v u : Value) (Q : VK), Inv X pins σ H s → RelV x v → RelV y u → r x y H Q →
    subscripted slice false v u = operate [v, u] (getItem v u) → wpAny (model X.prog X.w) X.A (subscriptTail value slice v u) (EP X pins σ Q) X.xe s
def MtR (X : Cx) (id : String) (r : V → List V → Hp → VK → Prop) : Prop :=
  ∀ (pins : List (Addr × Obj)) (s : Shared) (σ : St) (H : Hp) (x : V) (xs : List V) (v : Value) (us : List Value) (Q : VK), Inv X pins σ H s → RelV x v → Vals xs us → r x xs H Q →
    wpAny (model X.prog X.w) X.A (call (.builtin id) (v :: us)) (EP X pins σ Q) X.xe s
section
variable {X : Cx} {a b : Expr} {ta tb : TE} {pos : Pos}
theorem IxR.or {r r' : R2} (h : IxR X r) (h' : IxR X r') : IxR X (fun x y H Q => r x y H Q ∨ r' x y H Q) := by
  intro value slice pins s σ H x y v u Q I rx ry q hs
  rcases q with q | q
  · exact h value slice pins s σ H x y v u Q I rx ry q hs
  · exact h' value slice pins s σ H x y v u Q I rx ry q hs
theorem MtR.or {id : String} {r r' : V → List V → Hp → VK → Prop} (h : MtR X id r) (h' : MtR X id r') : MtR X id (fun x xs H Q => r x xs H Q ∨ r' x xs H Q) := by
  intro pins s σ H x xs v us Q I rx rs q
  rcases q with q | q
  · exact h pins s σ H x xs v us Q I rx rs q
  · exact h' pins s σ H x xs v us Q I rx rs q
theorem pe_ix {r : R2} (hr : IxR X r) (ha : PE X a ta) (hb : PE X b tb) (hs : PlainIx b) : PE X (.Subscript a b pos) (tOp r ta tb) := by
  intro pins s σ H Q I h
  exact Subscript_ (binT ha hb I h fun v u s2 x y H2 I2 rx ry q => hr a b pins s2 σ H2 x y v u Q I2 rx ry q (hs _ _))

def rIxL (K : PySem.W.Frag) : R2 := fun x y H Q => ∃ p xs i v, x = .ref p ∧ y = .int i ∧ SqL K H p xs ∧ atI xs i = some v ∧ Q v H
def rIxT (K : PySem.W.Frag) : R2 := fun x y H Q => ∃ p xs i v, x = .ref p ∧ y = .int i ∧ SqT K H p xs ∧ atI xs i = some v ∧ Q v H
def rIxS : R2 := fun x y H Q => ∃ z i c, x = .str z ∧ y = .int i ∧ z.length ≤ sizeLine ∧ atI z.cps.toList i = some c ∧ Q (.str ⟨#[c]⟩) H
theorem ix_list : IxR X (rIxL X.K) := by
  intro value slice pins s σ H x y v u Q I rx ry h hs
  obtain ⟨p, xs, i, z, rfl, rfl, hq, he, q⟩ := h
  cases rx
  obtain ⟨t, rfl⟩ := ry
  obtain ⟨its, r, pl, hz⟩ := I.list hq
  obtain ⟨j, h1, h2, h3, h4, h5⟩ := atI_get he
  obtain ⟨w, ew, rw'⟩ := r.get h2
  have hl := r.length
  have hn := line63
  have fin : EP X pins σ Q w s := ⟨z, H, I, rw', q⟩
  by_cases h0 : 0 ≤ i
  · have hj : i.toNat = j := by
      rw [seqIndex_of h0 h5] at h1
      exact Option.some.inj h1
    exact item_listR pl.isList h0 (by omega) (by rw [hj]; simpa using ew) fin hs
  · have hj : (i + (its.toArray.size : Int)).toNat = j := by
      rw [seqIndex_neg (by omega) h4] at h1
      rw [List.size_toArray, ← hl]
      exact Option.some.inj h1
    exact subscriptTail_builtinR (x := w) pl.isList.typeIs slot_list_getitem.lookup
      (wpAny_getItem_list_neg (Q := fun r s' => r = w ∧ EP X pins σ Q r s') pl.isList (by omega) (by rw [List.size_toArray] <;> omega) (by omega) (by rw [hj]; simpa using ew) ⟨rfl, fin⟩) hs
theorem ix_tup : IxR X (rIxT X.K) := by
  intro value slice pins s σ H x y v u Q I rx ry h hs
  obtain ⟨p, xs, i, z, rfl, rfl, hq, he, q⟩ := h
  cases rx
  obtain ⟨t, rfl⟩ := ry
  obtain ⟨its, r, pl, hz⟩ := I.tuple hq
  obtain ⟨j, h1, h2, h3, h4, h5⟩ := atI_get he
  obtain ⟨w, ew, rw'⟩ := r.get h2
  have hl := r.length
  have hn := line63
  have fin : EP X pins σ Q w s := ⟨z, H, I, rw', q⟩
  exact subscriptTail_builtinR (x := w) pl.typeIs slot_tuple_getitem.lookup
    (getItem_tuple (j := j) (Q := fun r s' => r = w ∧ EP X pins σ Q r s') pl (by omega) (by omega) (by rw [List.size_toArray, ← hl]; exact h1) (by simpa using ew) ⟨rfl, fin⟩) hs
theorem ix_str : IxR X rIxS := by
  intro value slice pins s σ H x y v u Q I rx ry h hs
  obtain ⟨z, i, c, rfl, rfl, hz, he, q⟩ := h
  obtain ⟨t, rfl⟩ := rx
  obtain ⟨t', rfl⟩ := ry
  obtain ⟨j, h1, h2, h3, h4, h5⟩ := atI_get he
  have hl : z.cps.toList.length = z.length := by simp [Str.length]
  rw [hl] at h1 h4 h5
  have hn := line63
  exact tail_any (typeIs_str s z t) slot_str_getitem.lookup (getItem_str (c := c) (by
    have e1 : decide (i < -(2 ^ 63 : Int)) = false := decide_eq_false (by omega)
    have e2 : decide (i ≥ 2 ^ 63) = false := decide_eq_false (by omega)
    rw [e1, e2, Bool.or_false]) (by rw [h1]; simpa using h2) ⟨.str ⟨#[c]⟩, H, I.tok _, ⟨_, rfl⟩, q⟩) hs
def rIx (K : PySem.W.Frag) : R2 := fun x y H Q => rIxL K x y H Q ∨ rIxT K x y H Q ∨ rIxS x y H Q
theorem ix_seq : IxR X (rIx X.K) := ix_list.or (ix_tup.or ix_str)

/-! ### xs[i] = v, any sign -/
theorem mapSeq_set (its : List Value) (n j : Nat) (u : Value) : Obj.mapSeq (·.setIfInBounds j u) { cls := .type "list", data := .seq its.toArray n } = { cls := .type "list", data := .seq (its.set j u).toArray n } := by
  simp [Obj.mapSeq]
theorem Inv.lst {pins : List (Addr × Obj)} {σ : St} {H : Hp} {s : Shared} {p : Addr} {xs : List V} (I : Inv X pins σ H s) (h : H p = some (.lst xs)) :
    ∃ (its : List Value) (n : Nat), Vals xs its ∧ s.heap.get? p = some { cls := .type "list", data := .seq its.toArray n } ∧ xs.length ≤ sizeLine := by
  obtain ⟨z, its, n, r, e⟩ := I.hok p _ h
  exact ⟨its, n, r, e, z⟩
theorem Inv.lstUpd {pins : List (Addr × Obj)} {σ : St} {H : Hp} {s : Shared} {p : Addr} {xs ys : List V} {its its' : List Value} {n n' : Nat} {f : Obj → Obj} (I : Inv X pins σ H s) (h : H p = some (.lst xs))
    (ho : s.heap.get? p = some { cls := .type "list", data := .seq its.toArray n }) (hf : f { cls := .type "list", data := .seq its.toArray n } = { cls := .type "list", data := .seq its'.toArray n' }) (r : Vals ys its') (hz : ys.length ≤ sizeLine) (t : Nat) :
    Inv X pins σ (upd H p (.lst ys)) { s with heap := s.heap.update p f, toks := t } := by
  have e : (s.heap.update p f).get? p = some { cls := .type "list", data := .seq its'.toArray n' } := by
    rw [Heap.get?_update_self f ho (by rw [hf] <;> rfl), hf]
  refine I.write (x := p) (e := p) (by rw [h]; trivial) (.inl rfl) (fun b u hb q => (Heap.get?_update_other _ _ (Ne.symm hb)).trans q) ⟨_, e⟩ ?_
  exact ⟨hz, its', n', r, e⟩
def rSetL : V → V → V → Hp → (Hp → Prop) → Prop := fun o i v H Q => ∃ p xs k j, o = .ref p ∧ i = .int k ∧ H p = some (.lst xs) ∧ ixN xs.length k = some j ∧ Q (upd H p (.lst (xs.set j v)))
theorem set_list : PSet X rSetL := by
  intro pins s σ H o i v ov iv u Q I ro ri rv h
  obtain ⟨p, xs, k, j, rfl, rfl, hp, hj, q⟩ := h
  cases ro
  obtain ⟨t, rfl⟩ := ri
  obtain ⟨its, n, r, ho, hz⟩ := I.lst hp
  obtain ⟨h1, h2, h3, h4⟩ := ixN_seq hj
  have hl := r.length
  have hn := line63
  have I' : Inv X pins σ (upd H p (.lst (xs.set j v))) { s with heap := s.heap.update p (Obj.mapSeq (·.setIfInBounds j u)) } :=
    I.lstUpd hp ho (mapSeq_set its n j u) (r.set rv j) (by rw [List.length_set]; exact hz) s.toks
  by_cases h0 : 0 ≤ k
  · have hk : k.toNat = j := by
      rw [seqIndex_of h0 h4] at h1
      exact Option.some.inj h1
    exact PySem.W.ki_setAt ho h0 (by omega) (by rw [List.size_toArray, ← hl]; exact h4) (by rw [hk]; exact ⟨_, I', q⟩)
  · have hk : (k + (its.toArray.size : Int)).toNat = j := by
      rw [seqIndex_neg (by omega) h3] at h1
      rw [List.size_toArray, ← hl]
      exact Option.some.inj h1
    exact PySem.W.ki_setBack ho (by omega) (by rw [List.size_toArray, ← hl]; exact h3) (by omega) (by rw [hk]; exact ⟨_, I', q⟩)

/-! ### slices -/
theorem slice_bounds (lo hi : Option Int) (n : Nat) : (sliceBounds lo hi none n).1 = ((HT.sIx n 0 lo : Nat) : Int) ∧ (sliceBounds lo hi none n).2.1 = ((HT.sIx n n hi : Nat) : Int) ∧ (sliceBounds lo hi none n).2.2 = 1 := by
  refine ⟨?_, ?_, rfl⟩
  · cases lo with
    | none => simp [sliceBounds, HT.sIx]
    | some i =>
      simp only [sliceBounds, HT.sIx, Option.getD_none, show (1 : Int) > 0 by decide, if_true]
      by_cases h : i < 0
      · simp only [h, if_true] <;> omega
      · simp only [h, if_false] <;> omega
  · cases hi with
    | none => simp [sliceBounds, HT.sIx]
    | some i =>
      simp only [sliceBounds, HT.sIx, Option.getD_none, show (1 : Int) > 0 by decide, if_true]
      by_cases h : i < 0
      · simp only [h, if_true] <;> omega
      · simp only [h, if_false] <;> omega
theorem slicePick_cut (its : List Value) (lo hi : Option Int) : slicePick its.toArray lo hi none = ((its.drop (HT.sIx its.length 0 lo)).take (HT.sIx its.length its.length hi - HT.sIx its.length 0 lo)).toArray := by
  obtain ⟨h1, h2, h3⟩ := slice_bounds lo hi its.toArray.size
  unfold slicePick
  rw [h1, h2, h3]
  simp only [sliceRange_one, pick_run, List.size_toArray] <;> rfl
def rSlL (K : PySem.W.Frag) : V → Option Int → Option Int → Hp → VK → Prop := fun x lo hi H Q => ∃ a xs, x = .ref a ∧ SqL K H a xs ∧ ∀ p, H p = none → Q (.ref p) (upd H p (.lst (cutV xs lo hi)))
theorem sl_list : SlR X (rSlL X.K) := by
  intro pins s σ H x v vl vu lo hi sl Q I rx hs pl pu h
  obtain ⟨a, xs, rfl, hx, q⟩ := h
  cases rx
  obtain ⟨its, r, ht, hz⟩ := I.list hx
  have hlen := r.length
  refine ⟨"list", _, slot_list_getitem.lookup, ht.isList.typeIs, ?_⟩
  refine wpAny_getItem_list_slice ht.isList hs pl pu .none (by simp) ?_ (by rw [List.size_toArray] <;> omega)
  rw [slicePick_cut, ← hlen]
  refine ⟨.ref s.heap.objs.size, _, I.laid (t' := s.toks) (o := .lst (cutV xs lo hi)) (fun b ob q => Heap.get?_push_of_some _ q) (Nat.le_refl _) ?_, rfl, q _ (I.hok.fresh (Nat.le_refl _))⟩
  exact ⟨Nat.le_trans (cutV_length xs lo hi) hz, _, 0, (r.drop (HT.sIx xs.length 0 lo)).take (HT.sIx xs.length xs.length hi - HT.sIx xs.length 0 lo), Heap.get?_push_size _ rfl⟩

/-! ### in, not in: flat items -/

/-! ### len, list(x), tuple(x) of any list or tuple that is read -/
theorem call_len_seq : CallR X (.builtin "len") (fun xs H Q => ∃ p ys, xs = [.ref p] ∧ (SqL X.K H p ys ∨ SqT X.K H p ys) ∧ Q (.int ys.length) H) := by
  intro pins s σ H xs us Q I r h
  obtain ⟨p, ys, rfl, hq, q⟩ := h
  obtain ⟨u, rfl, rx⟩ := vals1 r
  cases rx
  have hn := line63
  rcases hq with hq | hq
  · obtain ⟨its, r', pl, hz⟩ := I.list hq
    have hlen := r'.length
    exact Calls.call_len_list pl.isList (by simp only [List.size_toArray] <;> omega) ⟨.int ys.length, H, I.tok _, ⟨s.toks + 1, by rw [List.size_toArray, hlen]⟩, q⟩
  · obtain ⟨its, r', pl, hz⟩ := I.tuple hq
    have hlen := r'.length
    exact len_tuple pl (by simp only [List.size_toArray] <;> omega) ⟨.int ys.length, H, I.tok _, ⟨s.toks + 1, by rw [List.size_toArray, hlen]⟩, q⟩
theorem call_len_str : CallR X (.builtin "len") (fun xs H Q => ∃ z, xs = [.str z] ∧ z.length ≤ sizeLine ∧ Q (.int z.length) H) := by
  intro pins s σ H xs us Q I r h
  obtain ⟨z, rfl, hz, q⟩ := h
  obtain ⟨u, rfl, t, rfl⟩ := vals1 r
  have hn := line63
  exact len_str (by omega) ⟨.int z.length, H, I.tok _, ⟨_, rfl⟩, q⟩
theorem CallR.or {f : Value} {r r' : List V → Hp → VK → Prop} (h : CallR X f r) (h' : CallR X f r') : CallR X f (fun xs H Q => r xs H Q ∨ r' xs H Q) := by
  intro pins s σ H xs us Q I rs q
  rcases q with q | q
  · exact h pins s σ H xs us Q I rs q
  · exact h' pins s σ H xs us Q I rs q

/-! ### the call of a builtin's method: o.m(..) -/
def tyV (K : PySem.W.Frag) (T : String) (x : V) (H : Hp) : Prop := match x with
  | .str _ => T = "str"
  | .int _ => T = "int"
  | .ref p => (T = "list" ∧ ∃ xs, SqL K H p xs) ∨ (T = "tuple" ∧ ∃ o, K.lookup p = some o ∧ o.cls = .type "tuple" ∧ o.dict = none) ∨
      (T = "dict" ∧ ((∃ kvs, H p = some (.dK kvs)) ∨ ∃ kvs, H p = some (.dT kvs))) ∨ (T = "set" ∧ ∃ S n, H p = some (.set S n))
  | _ => False
theorem tyV_is {pins : List (Addr × Obj)} {σ : St} {H : Hp} {s : Shared} {T : String} {x : V} {v : Value} (I : Inv X pins σ H s) (r : RelV x v) (ty : tyV X.K T x H) :
    s.TypeIs v T ∧ ∀ a, v = .ref a → ∃ ob, s.heap.get? a = some ob ∧ ob.dict = none := by
  cases x with
  | str z =>
    obtain ⟨t, rfl⟩ := r
    cases (show T = "str" from ty)
    exact ⟨typeIs_str s z t, fun _ e => nomatch e⟩
  | int i =>
    obtain ⟨t, rfl⟩ := r
    cases (show T = "int" from ty)
    exact ⟨typeIs_int s i t, fun _ e => nomatch e⟩
  | ref p =>
    cases r
    rcases ty with ⟨rfl, xs, hq⟩ | ⟨rfl, o, hk, hc, hd⟩ | ⟨rfl, hk⟩ | ⟨rfl, S, n, hk⟩
    · obtain ⟨its, _, pl, _⟩ := I.list hq
      refine ⟨pl.isList.typeIs, fun a e => ?_⟩
      cases e
      obtain ⟨o, n, e, c, hd, _⟩ := pl
      exact ⟨o, e, hd⟩
    · refine ⟨⟨o, I.kIn p o hk, hc⟩, fun a e => ?_⟩
      cases e
      exact ⟨o, I.kIn _ o hk, hd⟩
    · have z : ∃ o, s.heap.get? p = some o ∧ o.ExactDict := by
        rcases hk with ⟨kvs, hk⟩ | ⟨kvs, hk⟩
        · obtain ⟨_, _, _, _, o, _, _, e, ex, _⟩ := I.hok p _ hk
          exact ⟨o, e, ex⟩
        · obtain ⟨_, _, _, _, o, _, _, e, ex, _⟩ := I.hok p _ hk
          exact ⟨o, e, ex⟩
      obtain ⟨o, e, ex⟩ := z
      refine ⟨⟨o, e, ex.1⟩, fun a e2 => ?_⟩
      cases e2
      exact ⟨o, e, ex.2.1⟩
    · obtain ⟨o, _, _, _, e, ex, _⟩ := I.hok p _ hk
      refine ⟨⟨o, e, ex.1⟩, fun a e2 => ?_⟩
      cases e2
      exact ⟨o, e, ex.2.1⟩
  | _ => exact False.elim ty
def tBM (K : PySem.W.Frag) (T : String) (r : V → List V → Hp → VK → Prop) (to : TE) (t : TA) : TE := fun σ H Q => to σ H fun x H1 => tyV K T x H1 ∧ t σ H1 fun xs H2 => r x xs H2 Q
variable {o e : Expr} {es : List Expr} {to : TE} {t : TA} {name : Str} {apos cpos : Pos} {T id : String} {r : V → List V → Hp → VK → Prop}
theorem pe_bm (pa : PlainAttrs T) (slot : Slot T name id) (hty : typeOf (.builtin id) = pure (.type "method_descriptor")) (hm : MtR X id r) (ho : PE X o to) (ha : PA X (e :: es) t)
    (hbase : attributeBase o name X.env (eval o X.env) = eval o X.env := by rfl)
    (hfew : ((backTo cpos (starEach (e :: es) X.env)).all (fun x => !x.1) && (backToKw cpos (keywordEach [] X.env)).all (fun x => x.1.isSome)
      && decide ((e :: es).length + ([] : List Keyword).length + (if ([] : List Keyword).isEmpty then 0 else 1) < 30)) = true := by rfl)
    (hline : (apos.endLine == cpos.line) = true := by rfl) (hs : starEach (e :: es) X.env = (false, eval e X.env) :: starEach es X.env := by rfl) (hplain : (backTo cpos (starEach es X.env)).any (·.1) = false := by rfl) :
    PE X (.Call (.Attribute o name apos) (e :: es) [] cpos) (tBM X.K T r to t) := by
  intro pins s σ H Q I h
  refine wpAny_Call_method_late hbase hfew hline rfl (thn (ho pins s σ H _ I h) fun v s1 ⟨x, H1, I1, r1, ty, q1⟩ => ?_)
  obtain ⟨h1, h2⟩ := tyV_is I1 r1 ty
  refine ⟨T, id, pa, slot, hty, h1, h2, ?_⟩
  have hA := ha cpos pins s1 σ H1 _ I1 q1
  rw [hs] at hA ⊢
  refine Calls.callWith_builtin (by show (false || (backTo cpos (starEach es X.env)).any (·.1)) = false; rw [hplain] <;> rfl) (Calls.evalArgs_plain ?_)
  exact thn hA fun us s2 ⟨vs, H2, I2, r2, q2⟩ => hm pins s2 σ H2 x vs v us Q I2 r1 r2 q2
/- xs.append(e), list.index on a module's tuple .. are MtR facts of 06m -/
end
end L2

namespace L2
open PySem PySem.Spec PyProof.Rows

def MtM (X : Cx) (id : String) (r : V → List V → Hp → VK → Prop) : Prop :=
  ∀ (pins : List (Addr × Obj)) (s : Shared) (σ : St) (H : Hp) (x : V) (xs : List V) (v : Value) (us : List Value) (Q : VK), Inv X pins σ H s → RelV x v → Vals xs us → r x xs H Q →
    wpAny (model X.prog X.w) X.A (call (.builtin id) (v :: us)) (EP X pins σ Q) X.xe s

/-! ### lists of values -/
theorem Vals.one : ∀ {x : V} {us : List Value}, Vals [x] us → ∃ u, us = [u] ∧ RelV x u
  | _, _, .cons r .nil => ⟨_, rfl, r⟩
theorem Vals.two : ∀ {x y : V} {us : List Value}, Vals [x, y] us → ∃ u v, us = [u, v] ∧ RelV x u ∧ RelV y v
  | _, _, _, .cons r (.cons q .nil) => ⟨_, _, rfl, r, q⟩
theorem Vals.zero : ∀ {us : List Value}, Vals [] us → us = []
  | _, .nil => rfl
theorem Vals.rep {xs : List V} {us : List Value} (h : Vals xs us) : ∀ k : Nat, Vals (List.replicate k xs).flatten (List.replicate k us).flatten
  | 0 => .nil
  | k + 1 => by
    rw [List.replicate_succ, List.replicate_succ, List.flatten_cons, List.flatten_cons]
    exact Vals.append h (Vals.rep h k)
theorem foldl_rep (its : List Value) : ∀ (k : Nat) (acc : List Value),
    List.foldl (fun x1 x2 => x1 ++ x2) acc.toArray (List.replicate k its.toArray) = (acc ++ (List.replicate k its).flatten).toArray
  | 0, acc => by simp
  | k + 1, acc => by
    have e : acc.toArray ++ its.toArray = (acc ++ its).toArray := by simp
    have e2 : (acc ++ its) ++ (List.replicate k its).flatten = acc ++ (List.replicate (k + 1) its).flatten := by
      rw [List.replicate_succ, List.flatten_cons, List.append_assoc]
    rw [← e2, ← foldl_rep its k (acc ++ its), ← e, List.replicate_succ, List.foldl_cons]

section
variable {X : Cx} {pins : List (Addr × Obj)} {σ : St} {H : Hp} {s : Shared} {l b : Addr} {xs ys zs : List V}

/-! ### the two steps: a tracked list is rewritten, a new list is laid -/
theorem Inv.lset {its its' : List Value} {n : Nat} {f : Array Value → Array Value} {t' : Nat} (I : Inv X pins σ H s) (hH : H l = some (.lst xs))
    (e : s.heap.get? l = some { cls := .type "list", data := .seq its.toArray n }) (hf : f its.toArray = its'.toArray) (hv : Vals ys its') (hz : ys.length ≤ sizeLine) :
    Inv X pins σ (upd H l (.lst ys)) { s with heap := s.heap.update l (Obj.mapSeq f), toks := t' } := by
  have q := PySem.IsL.update e f
  rw [hf] at q
  refine I.write (x := l) (e := l) (by rw [hH]; exact trivial) (.inl rfl) (fun b' u hb hu => (Heap.get?_update_other s.heap (Obj.mapSeq f) (Ne.symm hb)).trans hu) ⟨_, q⟩ ?_
  exact ⟨hz, its', _, hv, q⟩
theorem Inv.lnew {its : List Value} {t' : Nat} (I : Inv X pins σ H s) (hv : Vals ys its) (hz : ys.length ≤ sizeLine) :
    Inv X pins σ (upd H s.heap.objs.size (.lst ys)) { s with heap := s.heap.push { cls := .type "list", data := .seq its.toArray }, toks := t' } :=
  I.laid (fun _ _ q => Heap.get?_push_of_some _ q) (Nat.le_refl _) ⟨hz, its, 0, hv, Heap.get?_push_size _ rfl⟩
theorem Inv.fresh (I : Inv X pins σ H s) : H s.heap.objs.size = none := I.hok.fresh (Nat.le_refl _)
theorem Inv.lstM (I : Inv X pins σ H s) (hH : H l = some (.lst xs)) : xs.length ≤ sizeLine ∧ ∃ (its : List Value) (n : Nat), Vals xs its ∧ xs.length = its.length ∧ s.heap.get? l = some { cls := .type "list", data := .seq its.toArray n } := by
  obtain ⟨z, its, n, r, e⟩ := I.hok l _ hH
  exact ⟨z, its, n, r, r.length, e⟩

theorem notLongL {n : Nat} (h : n ≤ sizeLine) : Builtin.List.listTooLong n = false := by
  unfold Builtin.List.listTooLong
  exact decide_eq_false (by omega)
end

section
variable {X : Cx}

/-! ### methods -/
def rAppend : V → List V → Hp → VK → Prop := fun x vs H Q => ∃ l xs y, x = .ref l ∧ vs = [y] ∧ H l = some (.lst xs) ∧ xs.length < sizeLine ∧ Q .non (upd H l (.lst (xs ++ [y])))
theorem mt_append : MtM X "list.append" rAppend := by
  intro pins s σ H x vs v us Q I rx rv h
  obtain ⟨l, xs, y, rfl, rfl, hH, hz, q⟩ := h
  cases rx
  obtain ⟨u, rfl, ru⟩ := rv.one
  obtain ⟨z, its, n, r, hl, e⟩ := I.lstM hH
  refine call_meets F.slot_list_append ⟨_, e, rfl⟩ F.entry_list_append (F.args_list_append_2 _ _) (PySem.list_append l its.toArray n u (by rw [List.size_toArray]; omega)) ⟨e, ?_⟩
  refine ⟨.non, _, I.lset (its' := its ++ [u]) hH e (by simp) (r.append (.cons ru .nil)) ?_, rfl, q⟩
  rw [List.length_append, List.length_singleton]
  omega

def rExtend : V → List V → Hp → VK → Prop := fun x vs H Q => ∃ l b xs zs, x = .ref l ∧ vs = [.ref b] ∧ H l = some (.lst xs) ∧ H b = some (.lst zs) ∧ xs.length + zs.length ≤ sizeLine ∧ Q .non (upd H l (.lst (xs ++ zs)))
theorem mt_extend : MtM X "list.extend" rExtend := by
  intro pins s σ H x vs v us Q I rx rv h
  obtain ⟨l, b, xs, zs, rfl, rfl, hH, hB, hz, q⟩ := h
  cases rx
  obtain ⟨u, rfl, ru⟩ := rv.one
  cases ru
  obtain ⟨z, its, n, r, hl, e⟩ := I.lstM hH
  obtain ⟨z2, its2, n2, r2, hl2, e2⟩ := I.lstM hB
  have hsz : its.toArray.size + its2.toArray.size ≤ sizeLine := by rw [List.size_toArray, List.size_toArray]; omega
  have hlong : ¬ (!its.toArray.isEmpty && Builtin.List.listTooLong (its.toArray.size + its2.toArray.size)) = true := by
    rw [notLongL hsz, Bool.and_false]
    exact Bool.false_ne_true
  refine call_meets F.slot_list_extend ⟨_, e, rfl⟩ F.entry_list_extend (F.args_list_extend_2 _ _)
    (AutoSeq1.list_extend_list_list_0 l its.toArray n b its2.toArray n2 hlong (by rw [List.size_toArray]; omega) (by omega)) ⟨e, e2, ?_⟩
  refine ⟨.non, _, I.lset (its' := its ++ its2) hH e (by simp) (r.append r2) ?_, rfl, q⟩
  rw [List.length_append]
  omega





/-! ### list + list, list += list, list * int -/
def rRep : R2 := fun x y H Q => ∃ l k xs, x = .ref l ∧ y = .int k ∧ H l = some (.lst xs) ∧ -(2 ^ 63) ≤ k ∧ k < 2 ^ 63 ∧ xs.length * k.toNat ≤ sizeLine ∧
  ∀ p, H p = none → Q (.ref p) (upd H p (.lst (List.replicate k.toNat xs).flatten))
theorem len_rep {α : Type} (xs : List α) (k : Nat) : (List.replicate k xs).flatten.length = k * xs.length := by
  induction k with
  | zero => simp
  | succ k ih => rw [List.replicate_succ, List.flatten_cons, List.length_append, ih, Nat.succ_mul, Nat.add_comm]
theorem op_rep : OpR X (binaryOp .Mult) rRep := by
  intro pins s σ H x y v u Q I rx ry h
  obtain ⟨l, k, xs, rfl, rfl, hH, h1, h2, hz, q⟩ := h
  cases rx
  obtain ⟨t, rfl⟩ := ry
  obtain ⟨z, its, n, r, hl, e⟩ := I.lstM hH
  have hlen : its.toArray.size * k.toNat ≤ sizeLine := by rw [List.size_toArray, ← hl]; exact hz
  have hcap : ¬ its.toArray.size * k.toNat > (2 ^ 63 - 1) / 8 := by
    have : (sizeLine : Nat) ≤ (2 ^ 63 - 1) / 8 := by decide
    omega
  have hfit : ¬ (!Builtin.List.listFitsIndex k) = true := by
    rw [fitsIndex_both h1 h2]
    exact Bool.false_ne_true
  have hlong : ¬ Builtin.List.listTooLong (its.toArray.size * k.toNat) = true := by
    rw [notLongL hlen]
    exact Bool.false_ne_true
  have hnew : List.foldl (fun x1 x2 => x1 ++ x2) #[] (List.replicate (if its.toArray.isEmpty = true then 0 else k.toNat) its.toArray) = (List.replicate k.toNat its).flatten.toArray := by
    have f0 : ∀ m : Nat, List.foldl (fun x1 x2 => x1 ++ x2) #[] (List.replicate m its.toArray) = (List.replicate m its).flatten.toArray := fun m => by
      have := foldl_rep its m []
      rw [List.nil_append] at this
      exact this
    rw [f0]
    cases its with
    | nil => simp
    | cons a r' => rw [if_neg (by simp)]
  refine wpAny_binaryOp_repeat_ref (T := "list") (U := "int") (by decide) ⟨_, e, rfl⟩ (fun s' => typeIs_int s' k t) noFill_list_mul F.fills_int_mul F.slot_int_rmul repeat_list F.slot_int_index.lookup
    (call_meets F.slot_int_rmul (typeIs_int s k t) F.entry_int_rmul (F.args_int_rmul_2 _ _) (int___rmul___int_list k t l its.toArray n)
      ⟨e, rfl, ⟨_, e, rfl⟩, call_meets F.slot_list_mul ⟨_, e, rfl⟩ F.entry_list_mul (F.args_list_mul_2 _ _) (AutoListH.list___mul___list_int_3 l its.toArray n k t hfit hcap hlong) ⟨e, ?_⟩⟩)
  rw [hnew]
  exact ⟨.ref _, _, I.lnew (t' := s.toks) (r.rep k.toNat) (by rw [len_rep, Nat.mul_comm]; exact hz), rfl, q _ I.fresh⟩

/-! ### del xs[i] -/
end

/-! ### xs[a:b] = ys -/
section
variable {prog : Program} {w : World} {A : Around} {E : Value → Shared → Prop} {s : Shared}
set_option maxRecDepth 100000 in
end

section
variable {X : Cx}
end
end L2

namespace Att
open PySem PySem.W PySem.Calls PyProof.Rows

/-! ### the script -/
theorem ints_of_wellAll {P : Params} {h : Heap} : ∀ (ns : List Int) (vs : List Value), WellAll P h vs (ns.map WData.int) → IntsAre vs ns := by
  intro ns
  induction ns with
  | nil =>
    intro vs w
    rw [List.map_nil] at w
    cases w
    exact .nil
  | cons n ns ih =>
    intro vs w
    rw [List.map_cons] at w
    cases w with
    | cons a b =>
      cases a
      exact .cons _ _ (ih _ b)

theorem script_of {l : OpenLaw} {n : Nat} (hn : l.most = some n) {P : Params} {h : Heap} {args : List WData} {vals : List Value}
    (hpre : l.row.toRowW.claim.pre args = true) (hwl : WellAll P h vals args) :
    ∃ a vs ns, vals = [Value.ref a] ∧ args = [WData.list (ns.map WData.int)] ∧ h.get? a = some { cls := .type "list", data := .seq vs.toArray } ∧ IntsAre vs ns ∧ ns.length ≤ n := by
  have hsh : WShape.hasAll [] args [.list .int] = true := (pre_splitW hpre).1
  have hc : l.pre.holds [] { args := args } = true := (pre_splitW hpre).2
  obtain ⟨d, r, rfl, h1, h2⟩ := hasAllW_cons hsh
  obtain rfl := hasAllW_nil h2
  obtain ⟨xs, rfl, h3⟩ := hasW_list h1
  obtain ⟨ns, rfl⟩ := items_int h3
  have hlen : ns.length ≤ n := by
    unfold OpenLaw.pre at hc
    have h4 : (WTm.not (.lt (.lit (.int (n : Int))) (.len (.arg 0)))).holds [] { args := [.list (ns.map .int)] } = true := by
      have h4 := (holds_andW hc).1
      rw [hn] at h4
      exact h4
    have h5 := condW_of h4 (w_not (w_lt w_lit (w_len_list (w_arg rfl))))
    rw [List.length_map] at h5
    refine Nat.le_of_not_lt fun q => ?_
    have q' : (n : Int) < ((ns.length : Nat) : Int) := by omega
    first
      | (rw [decide_eq_true q'] at h5; exact absurd h5 (by decide))
      | (simp at h5; omega)
  cases hwl with
  | cons w1 w2 =>
    cases w2
    cases w1 with
    | list ho hall => exact ⟨_, _, ns, rfl, rfl, ho, ints_of_wellAll ns _ hall, hlen⟩

theorem post_true (l : OpenLaw) (args : List WData) : l.row.toRowW.claim.post args (.bool true) args = true :=
  postW_of (r := l.row.toRowW) (X := (true == true))
    (show WShape.has [] (.bool true) .bool = true by first | rfl | decide | simp [WShape.has, WShape.arms, WShape.armsAll])
    (show (WTm.eq .res (.lit (.bool true))).value [] { args := args, res := some (.bool true), after := args } = some (.bool (true == true)) from w_eq_bool (w_res rfl) w_lit) rfl

/-! ### the attachment: holds_open's last premise (the goal 'hc' behind k_head) from a wpAny of the law's body -/

theorem attach_call {l : OpenLaw} {n : Nat} {q : Program} {loose : List Str} {XP : (Str → Option Value) → Heap → Prop} {YP : World → Heap → Prop} {d : DefRec}
    (hn : l.most = some n) (hdf : d.params.defaults = [])
    (call : ∀ (w : World) (s₀ s₁ : Shared) (mg mb : Str → Option Value) (fa : Addr) (o : Obj) (pm cd doc : Value) (a : Addr) (vs : List Value) (ns : List Int),
      Ground q loose [] XP w s₀ mg mb s₁.heap → YP w s₁.heap →
      s₁.heap.get? fa = some o → o.data = .func (docDef d.name d.params d.body d.scope pm cd doc) → s₁.heap.CodeRec cd d.name → mg d.name = some (.ref fa) →
      s₁.heap.get? a = some { cls := .type "list", data := .seq vs.toArray } → IntsAre vs ns → ns.length ≤ n → s₁.gens = #[] →
      codeAny (model l.prog w) callerA (.call (.ref fa) ⟨[.ref a], []⟩) (fun r s' => r = .ok (.ret (.bool true)) ∧ OldK s₁.heap s'.heap ∧ s'.os = s₁.os ∧ AllBare s'.gens) s₁) :
    WalkO q loose XP YP l.row.toRowW d [] (fun f vs => PySem.call f vs) := by
  intro w s₀ s₁ mg mb G Y fa o pm cd doc dV kV ho hd hcd hD hmg hg args vals as hpre hlay hrd hwl hlo
  obtain rfl : dV = .none := Dflts.none hD hdf
  obtain rfl : kV = .none := Dflts.noKw hD
  obtain ⟨a, vs, ns, rfl, rfl, hobj, hints, hlen⟩ := script_of hn hpre hwl
  refine enter_call (codeAny_mono (call w s₀ s₁ mg mb fa o pm cd doc a vs ns G Y ho (fd_plain hd) hcd hmg hobj hints hlen hg) fun r s' hq => ?_)
  obtain ⟨rfl, h2, h3, h4⟩ := hq
  exact ⟨.inl ⟨.bool true, .bool true, [], rfl, fun _ => rfl, .bool true, post_true l _, fun _ => ⟨List.Pairwise.nil, fun _ hm => (nomatch hm)⟩⟩, h2, h3, h4⟩


/-! ### rules over ANY heap (no ledger) from facts about the written part K: the library's own take a ledger (News) for what they write -/
section
variable {prog : Program} {w : World} {A : Around} {E : Value → Shared → Prop} {s : Shared} {K : Frag}





/-! the whole heap as the ledger: makes every rule that writes through a ledger a rule over any heap -/
def ledger (h : Heap) (L d : Addr) : List (Addr × Obj) := (List.range h.objs.size).filterMap fun a => if a = L ∨ a = d then none else (h.get? a).map fun o => (a, o)

end
end Att

namespace L2
open PySem PySem.Spec PyProof.Rows

theorem vals_ints : ∀ {vs : List Value} {ns : List Int}, IntsAre vs ns → Vals (ns.map V.int) vs
  | _, _, .nil => .nil
  | _, _, .cons n t h => .cons ⟨t, rfl⟩ (vals_ints h)

def Only (H : Hp) : Prop := ∀ b, H b = none ∨ ∃ o xs, H b = some (.frz o (.lst xs))

theorem law_call {P : Program} {w : World} {K : PySem.W.Frag} {mg mb : Str → Option Value} {CX : CXT} {k : Nat} {fa a : Addr} {fd : FuncData} {x : Str} {sp : Sp} {s₁ : Shared} {vs : List Value} {ns : List Int}
    (KX : K.In s₁.heap) (hns : s₁.heap.Ns mainGlobals mg) (hb : s₁.heap.Ns builtinsNs mb) (hbb : ∀ x : Str, x ≠ "__name__" → mb x = bootBuiltins x) (hlim : s₁.heap.NoLimit) (hg : s₁.gens = #[])
    (ha : s₁.heap.get? a = some { cls := .type "list", data := .seq vs.toArray }) (hi : IntsAre vs ns) (hl : ns.length ≤ sizeLine) (hr : Room k callerA)
    (F : ∀ base : Heap, K.In base → base.Ns mainGlobals mg → FnOk P w K mg base CX k fa fd [x] sp) (hbind : ∀ (s : Shared) (u : Value), BindsTo s fd ⟨[u], []⟩ [(x, u)])
    (hsp : ∀ H : Hp, Only H → SqL K H a (ns.map V.int) → sp [.ref a] H (fun v _ => v = .bl true) fun _ _ _ => False)
    (hCX : ∀ H e s', CX [] H s₁ (fun _ _ _ => False) e s' → False) :
    codeAny (model P w) callerA (.call (.ref fa) ⟨[.ref a], []⟩) (fun r s' => r = .ok (.ret (.bool true)) ∧ OldK s₁.heap s'.heap ∧ s'.os = s₁.os ∧ AllBare s'.gens) s₁ := by
  have rv := vals_ints hi
  have lenV := hi.length
  -- from an abstract heap in which nothing but the script may be tracked
  have core : ∀ H : Hp, Only H → SqL K H a (ns.map V.int) → HOk P w H s₁.heap → (∀ b, H b ≠ none → b = a) → (H a ≠ none → K.lookup a = none) →
      codeAny (model P w) callerA (.call (.ref fa) ⟨[.ref a], []⟩) (fun r s' => r = .ok (.ret (.bool true)) ∧ OldK s₁.heap s'.heap ∧ s'.os = s₁.os ∧ AllBare s'.gens) s₁ := by
    intro H hO hS hok hA hK
    have base_of : ∀ {b : Addr} {o : Obj}, s₁.heap.get? b = some o → H b = none → (hidT s₁.heap H).get? b = some o := fun e n => hidT_get e n
    have noA : ∀ {b : Addr} {o : Obj} {es : Array DictEntry} {ep : Nat}, s₁.heap.get? b = some o → o.data = .dict es ep → H b = none := fun {b o es ep} e d => by
      cases q : H b with
      | none => rfl
      | some u =>
        have e' : b = a := hA b (by rw [q]; simp)
        subst e'
        rw [ha] at e; cases e
        have d' : Data.seq vs.toArray _ = Data.dict es ep := d
        cases d'
    have nsK : ∀ {b : Addr} {m : Str → Option Value}, s₁.heap.Ns b m → (hidT s₁.heap H).Ns b m := fun {b m} ⟨o, es, ep, e, d, r⟩ => ⟨o, es, ep, base_of e (noA e d), d, r⟩
    have hKb : K.In (hidT s₁.heap H) := fun b o e => base_of (KX b o e) (by
      cases q : H b with
      | none => rfl
      | some u =>
        have e' : b = a := hA b (by rw [q]; simp)
        subst e'
        rw [hK (by rw [q]; simp)] at e; cases e)
    have hM : Mod K mg (hidT s₁.heap H) := ⟨hKb, nsK hns, ⟨mb, nsK hb, hbb⟩, let ⟨mc, h1, h2⟩ := hlim; ⟨mc, nsK h1, h2⟩⟩
    have e0 : Env0 P w K mg (hidT s₁.heap H) callerA [] s₁ H := ⟨rfl, hM, fun b o e => of_hidT e, Nat.le_of_eq (hidT_size _ _), trivial, fun b hb => absurd (show b ∈ ([] : List Addr) from hb) (by simp), hok, .of_eq hg⟩
    refine codeAny_mono ((F _ hKb (nsK hns)).run callerA [] s₁ H ⟨[.ref a], []⟩ [.ref a] [.ref a] _ _ hr e0 (hbind s₁ (.ref a)) (.cons rfl .nil) (hsp H hO hS)) fun r s' h => ?_
    cases r with
    | error e => exact (hCX H e s' h).elim
    | ok fl =>
      cases fl with
      | next => exact False.elim h
      | brk => exact False.elim h
      | cont => exact False.elim h
      | ret u =>
        obtain ⟨v, H', os, bare, un, hok', r', q⟩ := h
        have q' : v = .bl true := q
        subst q'
        obtain rfl : u = Value.bool true := r'
        refine ⟨rfl, OldK.of_keep fun b o e => ?_, os, bare⟩
        cases q : H b with
        | none => exact un.keep b o e q (by intro z; exact absurd (show b ∈ ([] : List Addr) from z) (by simp)) (by simp)
        | some u =>
          rcases hO b with z | ⟨ob, xs, z⟩
          · rw [q] at z; cases z
          · have z2 := un.frzs b ob _ z
            obtain ⟨e1, _⟩ := hok b _ z
            obtain ⟨e2, _⟩ := hok' b _ z2
            rw [e] at e1; cases e1
            exact e2
  cases hk : K.lookup a with
  | some o =>
    -- the script is one of the module's own objects
    have e := KX a o hk
    rw [ha] at e
    cases e
    refine core (fun _ => none) (fun _ => .inl rfl) (.inr ⟨_, vs.toArray, _, hk, rfl, rfl, rfl, by rw [List.size_toArray, lenV]; exact hl, by simpa using rv⟩) (fun b u z => by have z' : (none : Option HO) = some u := z; cases z') (fun b z => absurd rfl z) fun z => absurd rfl z
  | none =>
    refine core (fun b => if b = a then some (.frz { cls := .type "list", data := .seq vs.toArray } (.lst (ns.map V.int))) else none) (fun b => ?_) (.inl (.inr ⟨{ cls := .type "list", data := .seq vs.toArray }, if_pos rfl⟩)) (fun b u z => ?_) (fun b z => ?_) fun _ => hk
    · by_cases hb : b = a
      · exact .inr ⟨_, _, if_pos hb⟩
      · exact .inl (if_neg hb)
    · by_cases hb : b = a
      · have z' := (if_pos hb).symm.trans z
        cases z'
        subst hb
        exact ⟨ha, by rw [List.length_map]; exact hl, vs, _, rv, ha⟩
      · have z' := (if_neg hb).symm.trans z
        cases z'
    · by_cases hb : b = a
      · exact hb
      · exact absurd (if_neg hb) z
end L2

namespace L2
open PySem PySem.Spec PyProof.Rows

abbrev KOf {K : PySem.W.Frag} {h : Heap} (_ : K.In h) : PySem.W.Frag := K

theorem walk_of {l : PySem.W.OpenLaw} {n k : Nat} {q : Program} {loose : List Str} {XP : (Str → Option Value) → Heap → Prop} {YP : World → Heap → Prop} {d : DefRec} {K : Params → PySem.W.Frag} {CX : World → CXT} {sp : World → Sp} {x : Str}
    (hn : l.most = some n) (hn2 : n ≤ sizeLine) (hdf : d.params.defaults = []) (hr : Room k callerA)
    (hY : ∀ (w : World) (h : Heap), YP w h → (K w.params).In h)
    (F : ∀ (w : World) (mg : Str → Option Value) (fa : Addr) (h : Heap), (K w.params).In h → h.Ns mainGlobals mg → mg d.name = some (.ref fa) →
      ∃ fd : FuncData, (∀ (s : Shared) (u : Value), BindsTo s fd ⟨[u], []⟩ [(x, u)]) ∧
        ∀ base : Heap, (K w.params).In base → base.Ns mainGlobals mg → FnOk l.prog w (K w.params) mg base (CX w) k fa fd [x] (sp w))
    (hsp : ∀ (w : World) (H : Hp) (a : Addr) (ns : List Int), ns.length ≤ n → Only H → SqL (K w.params) H a (ns.map V.int) → sp w [.ref a] H (fun v _ => v = .bl true) fun _ _ _ => False)
    (hCX : ∀ (w : World) (H : Hp) (s : Shared) (e : Value) (s' : Shared), CX w [] H s (fun _ _ _ => False) e s' → False) :
    PySem.W.WalkO q loose XP YP l.row.toRowW d [] (fun f vs => PySem.call f vs) := by
  refine Att.attach_call hn hdf fun w s₀ s₁ mg mb fa o pm cd doc a vs ns G Y ho hd hcd hmg hobj hints hlen hg => ?_
  have KX := hY w _ Y
  obtain ⟨fd, hb, hF⟩ := F w mg fa _ KX G.T.g hmg
  exact law_call KX G.T.g G.T.b G.T.builtins G.T.nolimit hg hobj hints (Nat.le_trans hlen hn2) hr hF hb (fun H hO hS => hsp w H a ns hlen hO hS) fun H e s' => hCX w H s₁ e s'
end L2

/- THE LAST THEOREM (shape; LID, My.* are yours):
   My.Adr: a structure of the addresses that your layer names (classes, functions); My.Txt K t: a structure (Prop) of the equations over K;
   My.txt_mk : {K} {implicit addresses ..} (e1 : nsIn K mainGlobals "law" = some (some (.ref f))) (e2 : K.lookup f = some ⟨oc, od, .func (fnOf "law" "law" params body scope dV kV doc pm an cdv ct), sl⟩) (e3 : codeIn K cdv "law" = true) .. : ∃ t, My.Txt K t

set_option maxRecDepth 100000 in
set_option maxHeartbeats 0 in
theorem PySem.Challenge.cw_LID_holds : PySem.Challenge.rw_LID.Holds := by
  w_on; o_law; k_head; (case hw => w_witness2)
  k_fill
  refine L2.walk_of (l := PySem.Challenge.rw_LID) (n := 63) (k := 40) (x := "script") (CX := fun w => ..) (sp := fun _ => My.sp_law) rfl (by decide) rfl ⟨rfl, by decide, by decide⟩ (fun w h Y => PySem.W.kIn_of Y) ?F ?S ?C
  case F =>
    intro w mg fa h KX G hmg
    have T : ∃ t, My.Txt (L2.KOf KX) t := by
      dsimp only [L2.KOf]                          -- K must stand as «<heap const> w.params» for k_is
      refine' My.txt_mk ?e1 ?e2 ?e3 ..
      (case e1 => PySem.W.k_is)                    -- in the order: a name -> its address -> its object -> its parts
      (case e2 => PySem.W.k_is)
      ..
    obtain ⟨t, T⟩ := T
    have e0 := hmg.symm.trans (PySem.W.mg_of KX G T.law)
    cases e0                                       -- fa is the law's own address
    exact ⟨_, fun s u => .of_eq rfl, fun base kb nb => My.law_fn T kb nb⟩     -- if «.of_eq rfl» comes too early: refine' ⟨_, ?b, fun base kb nb => My.law_fn T kb nb⟩; exact fun s u => .of_eq rfl
  case S => exact fun w H a ns hl hO hS => ..
  case C => exact ..
(the tactic k_is has no namespace: write k_is) -/

/-! SHORT WORDS over the layer: a def of the text, its body, what a loop and a test want. -/
namespace L2
open PySem PySem.Spec PyProof.Rows

/-! ### the text by places -/
def defArgs (s : Stmt) : Arguments := match s with
  | .FunctionDef _ a _ _ _ _ _ _ _ _ => a
  | _ => { posonlyargs := [], args := [], vararg := none, kwonlyargs := [], kw_defaults := [], kwarg := none, defaults := [] }
def defBody (s : Stmt) : List Stmt := match s with
  | .FunctionDef _ _ b _ _ _ _ _ _ _ => b
  | _ => []
def defScope (s : Stmt) : Scope := match s with
  | .FunctionDef _ _ _ _ _ _ sc _ _ _ => sc
  | _ => { kind := .function, names := [], isGenerator := false, isCoroutine := false }

/-! ### no exception leaves a def -/
abbrev CX0 : CXT := fun _ _ _ _ _ _ => False
abbrev E0 : XK := fun _ _ _ => False
theorem pass0 {X : Cx} : Passes CX0 X E0 := fun _ _ _ _ _ _ _ h => h.elim

/-! ### a def (or method) of the text as it stands behind the top -/
structure Fun (K : PySem.W.Frag) (x qual : Str) (st : Stmt) (f : Addr) (fd : FuncData) : Prop where
  ex : ∃ (oc : Value) (od : Option Addr) (kV doc pm : Value) (an : Option Addr) (cdv ct : Value) (osl : Array (Option Value)),
    fd = PySem.W.fnOf x qual (defArgs st) (defBody st) (defScope st) .none kV doc pm an cdv ct ∧ K.lookup f = some ⟨oc, od, .func fd, osl⟩ ∧ PySem.W.codeIn K cdv qual = true
  kp : PySem.W.keepIn K (.ref f) = true
section
variable {P : Program} {w : World} {K : PySem.W.Frag} {mg : Str → Option Value} {base : Heap}
theorem Fun.ok {x qual : Str} {st : Stmt} {f : Addr} {fd : FuncData} {N ps : List Str} {k : Nat} {sp : Sp} (F : Fun K x qual st f fd) (S : FnScope N ps (defScope st)) (len : ∀ vs H Q E, sp vs H Q E → vs.length = ps.length)
    (hbody : ∀ (cdv : Value) (A : Around) (outer : List Env) (s : Shared) (H : Hp) (vs : List V) (Q : VK) (E : XK), Room k (A.deeper (envOfC qual (defScope st) s.heap.objs.size f cdv)) → sp vs H Q E →
      ∃ t, PSs (cxOf CX0 P w K mg base N qual (defScope st) f cdv A outer s H E).nox (defBody st) t ∧ t { nx := fun _ H' => Q .non H', rt := Q } (start N vs) H) : FnOk P w K mg base CX0 (k + 1) f fd ps sp := by
  obtain ⟨oc, od, kV, doc, pm, an, cdv, ct, osl, rfl, lk, hcd⟩ := F.ex
  refine fn_of lk hcd S len fun A outer s H vs Q E hr hsp => ?_
  obtain ⟨t, h, q⟩ := hbody cdv A outer s H vs Q E hr hsp
  exact ⟨t, h.nox, q⟩
theorem Fun.binds {x qual : Str} {st : Stmt} {f : Addr} {fd : FuncData} {ps : List Str} (F : Fun K x qual st f fd)
    (h : ∀ (kV doc pm : Value) (an : Option Addr) (cdv ct : Value) (us : List Value), us.length = ps.length → bindArgs (PySem.W.fnOf x qual (defArgs st) (defBody st) (defScope st) .none kV doc pm an cdv ct) ⟨us, []⟩ = pure (ps.zip us)) : Binds K fd ps [] := by
  obtain ⟨oc, od, kV, doc, pm, an, cdv, ct, osl, rfl, lk, hcd⟩ := F.ex
  exact .all (h kV doc pm an cdv ct)
theorem fun_mk {x qual : Str} {st : Stmt} {f : Addr} {oc : Value} {od an : Option Addr} {osl : Array (Option Value)} {kV doc pm cdv ct : Value} (l : K.lookup f = some ⟨oc, od, .func (PySem.W.fnOf x qual (defArgs st) (defBody st) (defScope st) .none kV doc pm an cdv ct), osl⟩)
    (c : PySem.W.codeIn K cdv qual = true) (k : PySem.W.keepIn K (.ref f) = true) : Fun K x qual st f (PySem.W.fnOf x qual (defArgs st) (defBody st) (defScope st) .none kV doc pm an cdv ct) := ⟨⟨oc, od, kV, doc, pm, an, cdv, ct, osl, rfl, l, c⟩, k⟩
end

/-! ### expressions in short: the name that stands in the i-th slot -/
section
variable {X : Cx}
end

/-! ### tests -/
theorem iteF {A B : Prop} (h : B) : if false = true then A else B := by
  rw [if_neg Bool.false_ne_true]
  exact h
theorem iteT {A B : Prop} (h : A) : if true = true then A else B := by
  rw [if_pos rfl]
  exact h

/-! ### heaps -/
def Same (H H' : Hp) : Prop := ∀ b o, H b = some o → H' b = some o
theorem Same.refl (H : Hp) : Same H H := fun _ _ h => h
theorem Same.trans {H H1 H2 : Hp} (a : Same H H1) (b : Same H1 H2) : Same H H2 := fun c o h => b c o (a c o h)
theorem Same.free {H H' : Hp} (e : Same H H') {l : Addr} (h : H' l = Option.none) : H l = Option.none := by
  cases q : H l with
  | none => rfl
  | some o =>
    rw [e l o q] at h
    cases h
theorem Same.seq {K : PySem.W.Frag} {H H' : Hp} {a : Addr} {xs : List V} (e : Same H H') (h : SqL K H a xs) : SqL K H' a xs := by
  rcases h with (h | ⟨o, h⟩) | h
  · exact .inl (.inl (e _ _ h))
  · exact .inl (.inr ⟨o, e _ _ h⟩)
  · exact .inr h

end L2

namespace L2
open PySem PySem.Spec PyProof.Rows
open PySem.AutoSeq1 (wpAny_loadPart')
open PySem.SeqAt PySem.MeetsSeq PySem.MeetsSeq2 PySem.MeetsSeq3
theorem list_addQ (l b : Addr) (items items2 : Array Value) (n n2 : Nat) (dd dd2 : Option Addr) (sl sl2 : Array (Option Value)) (hc0 : items.size + items2.size ≤ sizeLine) :
    Meets (Builtin.«list.__add__» ⟨[.ref l, .ref b], []⟩) (fun _ R s => s.heap.get? l = some { cls := .type "list", dict := dd, data := .seq items n, slots := sl } ∧ s.heap.get? b = some { cls := .type "list", dict := dd2, data := .seq items2 n2, slots := sl2 } ∧ R (.ok (.ret (Value.ref s.heap.objs.size))) { s with heap := s.heap.push { cls := Value.type "list", data := Data.seq (items ++ items2) }, toks := s.toks }) :=
  .of_wp fun prog w A R s h => by obtain ⟨hp, g, d, tk, os⟩ := s; obtain ⟨hl, hb, h⟩ := h; have f1 := AutoSeq1.idx_int; have f2 := AutoSeq1.sub_tuple_tuple; have f3 := AutoSeq1.sub_list_list; have f4 := AutoSeq1.sub_tuple_list; have f5 := AutoSeq1.sub_list_tuple; wp_walk using wpAny_loadPart' hl, wpAny_loadPart' hb; exact ⟨_, rfl, h⟩
section
variable {X : Cx}
theorem op_catQ : OpR X (binaryOp .Add) (fun x y H Q => ∃ l b xs zs, x = .ref l ∧ y = .ref b ∧ SqL X.K H l xs ∧ SqL X.K H b zs ∧ xs.length + zs.length ≤ sizeLine ∧ ∀ p, H p = none → Q (.ref p) (upd H p (.lst (xs ++ zs)))) := by
  intro pins s σ H x y v u Q I rx ry h
  obtain ⟨l, b, xs, zs, rfl, rfl, hH, hB, hz, q⟩ := h
  cases rx
  cases ry
  obtain ⟨its, r, ⟨⟨c1, d1, t1, sl1⟩, n, e, k1, k2, k3⟩, z⟩ := I.list hH
  obtain ⟨its2, r2, ⟨⟨c2, d2, t2, sl2⟩, n2, e2, m1, m2, m3⟩, z2⟩ := I.list hB
  simp only at k1 k2 k3 m1 m2 m3
  subst k1 k2 k3 m1 m2 m3
  have hl := r.length
  have hl2 := r2.length
  refine concat_meets ⟨_, e, rfl⟩ ⟨_, e2, rfl⟩ noFill_list_add seq_list_add F.slot_list_add F.entry_list_add (F.args_list_add_2 _ _) (list_addQ l b its.toArray its2.toArray n n2 none none sl1 sl2 (by rw [List.size_toArray, List.size_toArray]; omega)) ⟨e, e2, ?_⟩
  have ea : its.toArray ++ its2.toArray = (its ++ its2).toArray := by simp
  rw [ea]
  exact ⟨.ref _, _, I.lnew (t' := s.toks) (r.append r2) (by rw [List.length_append]; omega), rfl, q _ I.fresh⟩
theorem ints_items {us : List Value} {ns : List Int} (h : IntsAre us ns) : ∃ xs : Array (Int × Tok), us.toArray = intItems xs ∧ xs.toList.map (·.1) = ns := by
  obtain ⟨xs, e⟩ := h.allInts.items
  refine ⟨xs, e, ?_⟩
  have e2 := h.numsOf
  rw [← nums_intItems, ← e]
  exact e2
theorem call_maxL (hc : X.calm = true) : CallR X (.builtin "max") (fun xs H Q => ∃ (p : Addr) (ns : List Int), xs = [.ref p] ∧ SqL X.K H p (ns.map V.int) ∧ ns ≠ [] ∧ ∀ M, M ∈ ns → (∀ a ∈ ns, a ≤ M) → Q (.int M) H) := by
  intro pins s σ H xs us Q I r h
  obtain ⟨p, ns, rfl, hq, hne, q⟩ := h
  obtain ⟨u, rfl, rx⟩ := vals1 r
  cases rx
  obtain ⟨its, r', pl, hz⟩ := I.list hq
  obtain ⟨ys, e, e2⟩ := ints_items (intsAre_of r')
  have hl := pl.isList
  rw [e] at hl
  have hsz : 0 < ys.size := by
    rcases Nat.eq_zero_or_pos ys.size with z | z
    · exfalso
      apply hne
      rw [← e2]
      have : ys.toList = [] := by
        apply List.eq_nil_of_length_eq_zero
        simpa using z
      rw [this]
      rfl
    · exact z
  refine max_intList (I.ok.hd hc) hl hsz fun v h' tk hv k => ?_
  obtain ⟨t, rfl⟩ := intItems_at hv
  obtain ⟨h1, h2⟩ := argBest_gt (numAt ys) (ys.size - 1)
  refine ⟨.int _, H, I.kept k, ⟨t, rfl⟩, q _ ?_ fun a ha => ?_⟩
  · rw [numAt_eq, ← e2]; exact getD_mem (by rw [List.length_map, Array.length_toList]; omega)
  · rw [← e2] at ha
    obtain ⟨j, hj, rfl⟩ := mem_getD ha
    rw [List.length_map, Array.length_toList] at hj
    rw [← numAt_eq]; exact h2 j (by omega)
theorem call_minL (hc : X.calm = true) : CallR X (.builtin "min") (fun xs H Q => ∃ (p : Addr) (ns : List Int), xs = [.ref p] ∧ SqL X.K H p (ns.map V.int) ∧ ns ≠ [] ∧ ∀ M, M ∈ ns → (∀ a ∈ ns, M ≤ a) → Q (.int M) H) := by
  intro pins s σ H xs us Q I r h
  obtain ⟨p, ns, rfl, hq, hne, q⟩ := h
  obtain ⟨u, rfl, rx⟩ := vals1 r
  cases rx
  obtain ⟨its, r', pl, hz⟩ := I.list hq
  obtain ⟨ys, e, e2⟩ := ints_items (intsAre_of r')
  have hl := pl.isList
  rw [e] at hl
  have hsz : 0 < ys.size := by
    rcases Nat.eq_zero_or_pos ys.size with z | z
    · exfalso
      apply hne
      rw [← e2]
      have : ys.toList = [] := by
        apply List.eq_nil_of_length_eq_zero
        simpa using z
      rw [this]
      rfl
    · exact z
  refine min_intList (I.ok.hd hc) hl hsz fun v h' tk hv k => ?_
  obtain ⟨t, rfl⟩ := intItems_at hv
  obtain ⟨h1, h2⟩ := argBest_lt (numAt ys) (ys.size - 1)
  refine ⟨.int _, H, I.kept k, ⟨t, rfl⟩, q _ ?_ fun a ha => ?_⟩
  · rw [numAt_eq, ← e2]; exact getD_mem (by rw [List.length_map, Array.length_toList]; omega)
  · rw [← e2] at ha
    obtain ⟨j, hj, rfl⟩ := mem_getD ha
    rw [List.length_map, Array.length_toList] at hj
    rw [← numAt_eq]; exact h2 j (by omega)
def TyD (K : PySem.W.Frag) (H : Hp) (x : V) (t : String) : Prop := match x with
  | .non => t = "NoneType"
  | .bl _ => t = "bool"
  | .int _ => t = "int"
  | .str _ => t = "str"
  | .ref a => (t = "list" ∧ ∃ xs, SqL K H a xs) ∨ (t = "tuple" ∧ ∃ xs, SqT K H a xs)
  | _ => False
theorem call_isi {T : String} : CallR X (.builtin "isinstance") (fun xs H Q => ∃ x t b, xs = [x, .ty T] ∧ TyD X.K H x t ∧ PySem.W.kitOne X.K (.type t) (.type T) = some b ∧ Q (.bl b) H) := by
  intro pins s σ H xs us Q I r h
  obtain ⟨x, t, b, rfl, ty, e, q⟩ := h
  obtain ⟨u, u2, rfl, rx, ry⟩ := vals2 r
  cases ry
  have fin : ∀ tk, EP X pins σ Q (.bool b) { s with toks := tk } := fun tk => ⟨.bl b, H, I.tok tk, rfl, q⟩
  cases x with
  | non => cases (show t = "NoneType" from ty); cases rx; exact PySem.W.kia_one PySem.W.kitx_none I.kIn True.intro e (fun z => nomatch z) fin
  | bl y => cases (show t = "bool" from ty); cases rx; exact PySem.W.kia_one PySem.W.kitx_bool I.kIn True.intro e (fun z => nomatch z) fin
  | int i => cases (show t = "int" from ty); obtain ⟨_, rfl⟩ := rx; exact PySem.W.kia_one PySem.W.kitx_int I.kIn True.intro e (fun z => nomatch z) fin
  | str y => cases (show t = "str" from ty); obtain ⟨_, rfl⟩ := rx; exact PySem.W.kia_one PySem.W.kitx_str I.kIn True.intro e (fun z => nomatch z) fin
  | ref a =>
    cases rx
    rcases ty with ⟨rfl, ys, sq⟩ | ⟨rfl, ys, sq⟩
    · obtain ⟨its, _, ⟨o, n, h1, h2, _, _⟩, _⟩ := I.list sq
      exact PySem.W.kia_one PySem.W.kitx_list I.kIn ⟨o, h1, h2⟩ e (fun z => nomatch z) fin
    · obtain ⟨its, _, ⟨o, h1, h2, _⟩, _⟩ := I.tuple sq
      exact PySem.W.kia_one PySem.W.kitx_tuple I.kIn ⟨o, h1, h2⟩ e (fun z => nomatch z) fin
  | byt _ => exact False.elim ty
  | flt _ => exact False.elim ty
  | ty _ => exact False.elim ty
end
end L2
namespace L2
open PySem PySem.Spec PyProof.Rows
open PySem.AutoSeq1 (wpAny_loadPart')
open PySem.SeqAt PySem.MeetsSeq PySem.MeetsSeq2 PySem.MeetsSeq3
theorem tuple_neAt (l b : Addr) (items items2 : Array Value) (n n2 : Nat) (dd dd2 : Option Addr) (sl sl2 : Array (Option Value)) (e : Nat → Bool) :
    Meets (Builtin.«tuple.__ne__» ⟨[.ref l, .ref b], []⟩)
      (fun A R s => s.heap.get? l = some { cls := .type "tuple", dict := dd, data := .seq items n, slots := sl } ∧ s.heap.get? b = some { cls := .type "tuple", dict := dd2, data := .seq items2 n2, slots := sl2 } ∧
        (∀ j (h1 : j < items.size) (h2 : j < items2.size), EqAt A.in1 s items[j] items2[j] (e j)) ∧
        R (.ok (.ret (.bool (!((List.range (min items.size items2.size)).all e && items.size == items2.size))))) s) :=
  .of_wp fun prog w A R s h => by
    obtain ⟨hp, g, d, tk, os⟩ := s; obtain ⟨hl, hb, he, h⟩ := h
    have f2 := AutoSeq1.sub_tuple_tuple
    have hZ : (items.toList.zip items2.toList).length = min items.size items2.size := by simp
    wp_walk using wpAny_loadPart' hl, wpAny_loadPart' hb, wpAny_forIn_list _ (fun rest b s' => b.1 = none ∧ s' = ⟨hp, g, d, tk, os⟩ ∧ ∃ i, rest = (items.toList.zip items2.toList).drop i ∧
      R (.ok (.ret (.bool (!(((List.range (min items.size items2.size)).drop i).all e && items.size == items2.size))))) ⟨hp, g, d, tk, os⟩) _
    case turn =>
      rintro ⟨y, x⟩ rest b s' ⟨hb', rfl, i, hz, hR⟩
      have hlt : i < (items.toList.zip items2.toList).length := by
        rcases Nat.lt_or_ge i (items.toList.zip items2.toList).length with h' | h'
        · exact h'
        · rw [List.drop_of_length_le h'] at hz; cases hz
      have hm : i < min items.size items2.size := hZ ▸ hlt
      have h1 : i < items.size := Nat.lt_of_lt_of_le hm (Nat.min_le_left _ _)
      have h2 : i < items2.size := Nat.lt_of_lt_of_le hm (Nat.min_le_right _ _)
      rw [List.drop_eq_getElem_cons hlt] at hz
      injection hz with hyx hrest
      have hy : y = items[i] := by have := congrArg Prod.fst hyx; simpa using this
      have hx : x = items2[i] := by have := congrArg Prod.snd hyx; simpa using this
      subst hy hx
      have hd : (List.range (min items.size items2.size)).drop i = i :: (List.range (min items.size items2.size)).drop (i + 1) := by simp [List.drop_eq_getElem_cons, hm]
      rw [hd, List.all_cons] at hR
      refine wpAny_bind (he i h1 h2 prog w _ _ ?_)
      cases hy : e i with
      | true =>
        rw [hy] at hR
        wp_walk
        exact ⟨rfl, rfl, i + 1, hrest, by simpa only [Bool.true_and] using hR⟩
      | false =>
        rw [hy] at hR
        wp_walk
        exact ⟨_, rfl, by simpa only [Bool.false_and, Bool.not_false] using hR⟩
    case fin =>
      rintro ⟨b1, b2⟩ s' ⟨hb', rfl, i, hz, hR⟩
      simp only at hb'
      subst hb'
      have hge : min items.size items2.size ≤ i := by
        rcases Nat.lt_or_ge i (items.toList.zip items2.toList).length with h' | h'
        · rw [List.drop_eq_getElem_cons h'] at hz; cases hz
        · exact hZ ▸ h'
      rw [List.drop_of_length_le (by simpa using hge)] at hR
      wp_walk
      exact ⟨_, rfl, by simpa [Builtin.Tuple.tupleCompareSizes, bne] using hR⟩
    case h =>
      exact ⟨rfl, rfl, 0, rfl, by simpa only [List.drop_zero] using h⟩
theorem ne_loopAt (l b : Addr) (items items2 : Array Value) (n n2 : Nat) (dd dd2 : Option Addr) (sl sl2 : Array (Option Value)) (hsz : items.size = items2.size) (e : Nat → Bool) (k : Nat) :
    ∀ i : Nat, items.size - i = k → Meets (Builtin.«list.__eq__.loop» ⟨[.ref l, .ref b, rawInt i, rawInt 3], []⟩)
      (fun A R s => s.heap.get? l = some { cls := .type "list", dict := dd, data := .seq items n, slots := sl } ∧ s.heap.get? b = some { cls := .type "list", dict := dd2, data := .seq items2 n2, slots := sl2 } ∧
        (∀ j (h1 : j < items.size) (h2 : j < items2.size), EqAt A.in1 s items[j] items2[j] (e j)) ∧
        R (.ok (.ret (.bool (!(((List.range items.size).drop i).all e))))) s) := by
  induction k with
  | zero =>
    intro i hk prog w A R s h
    obtain ⟨hp, g, d, tk, os⟩ := s; obtain ⟨hl, hb, he, h⟩ := h
    wp_walk using wpAny_loadPart' hl, wpAny_loadPart' hb
    have hi1 : items[((i : Nat) : Int).toNat]? = none := by simp; omega
    have hi2 : items2[((i : Nat) : Int).toNat]? = none := by simp; omega
    have hd : (List.range items.size).drop i = [] := by simp; omega
    rw [hd] at h
    rw [hi1, hi2]
    wp_walk using wpAny_loadPart' hl, wpAny_loadPart' hb
    show R (.ok (.ret (.bool (items.size != items2.size)))) _
    rw [hsz]
    simpa using h
  | succ k ih =>
    intro i hk prog w A R s h
    obtain ⟨hp, g, d, tk, os⟩ := s; obtain ⟨hl, hb, he, h⟩ := h
    wp_walk using wpAny_loadPart' hl, wpAny_loadPart' hb
    have hlt : i < items.size := by omega
    have hlt2 : i < items2.size := by omega
    have hi1 : items[((i : Nat) : Int).toNat]? = some items[i] := by simp [hlt]
    have hi2 : items2[((i : Nat) : Int).toNat]? = some items2[i] := by simp [hlt2]
    have hd : (List.range items.size).drop i = i :: (List.range items.size).drop (i + 1) := by simp [List.drop_eq_getElem_cons, hlt]
    have hc : ((i : Int) + 1) = ((i + 1 : Nat) : Int) := by push_cast; rfl
    rw [hd, List.all_cons] at h
    rw [hi1, hi2]
    refine wpAny_bind (he i hlt hlt2 prog w _ _ ?_)
    cases hb' : e i with
    | true =>
      rw [hb'] at h
      wp_walk
      rw [hc]
      exact ⟨plainId_quiet plain_eq_loop _, codeAny_builtin entry_eq_loop (by
        rw [Around.under_plainId plain_eq_loop _]
        exact ih (i + 1) (by omega) prog w A R _ ⟨hl, hb, he, by simpa only [Bool.true_and] using h⟩)⟩
    | false =>
      rw [hb'] at h
      wp_walk using wpAny_loadPart' hl, wpAny_loadPart' hb
      rw [hi1, hi2]
      wp_walk
      simpa using h
theorem list_neAt (l b : Addr) (items items2 : Array Value) (n n2 : Nat) (dd dd2 : Option Addr) (sl sl2 : Array (Option Value)) (hsz : items.size = items2.size) (e : Nat → Bool) :
    Meets (Builtin.«list.__ne__» ⟨[.ref l, .ref b], []⟩)
      (fun A R s => s.heap.get? l = some { cls := .type "list", dict := dd, data := .seq items n, slots := sl } ∧ s.heap.get? b = some { cls := .type "list", dict := dd2, data := .seq items2 n2, slots := sl2 } ∧
        (∀ j (h1 : j < items.size) (h2 : j < items2.size), EqAt A.in1 s items[j] items2[j] (e j)) ∧
        R (.ok (.ret (.bool (!((List.range items.size).all e))))) s) := by
  intro prog w A R s h
  obtain ⟨hp, g, d, tk, os⟩ := s; obtain ⟨hl, hb, he, h⟩ := h
  have f3 := AutoSeq1.sub_list_list
  have hne : ¬ (items.size != items2.size) = true := by simp [hsz]
  wp_walk using wpAny_loadPart' hl, wpAny_loadPart' hb
  exact ⟨plainId_quiet plain_eq_loop _, codeAny_builtin entry_eq_loop (by
    rw [Around.under_plainId plain_eq_loop _]
    exact ne_loopAt l b items items2 n n2 dd dd2 sl sl2 hsz e _ 0 rfl prog w A R _ ⟨hl, hb, he, by simpa only [List.drop_zero] using h⟩)⟩
theorem list_ne_lengthsAt (l b : Addr) (items items2 : Array Value) (n n2 : Nat) (dd dd2 : Option Addr) (sl sl2 : Array (Option Value)) (hc0 : (items.size != items2.size) = true) :
    Meets (Builtin.«list.__ne__» ⟨[.ref l, .ref b], []⟩)
      (fun _ R s => s.heap.get? l = some { cls := .type "list", dict := dd, data := .seq items n, slots := sl } ∧ s.heap.get? b = some { cls := .type "list", dict := dd2, data := .seq items2 n2, slots := sl2 } ∧
        R (.ok (.ret (.bool true))) s) :=
  .of_wp fun prog w A R s h => by
    obtain ⟨hp, g, d, tk, os⟩ := s; obtain ⟨hl, hb, h⟩ := h
    have f3 := AutoSeq1.sub_list_list
    wp_walk using wpAny_loadPart' hl, wpAny_loadPart' hb
    exact ⟨_, rfl, h⟩
section
variable {prog : Program} {w : World} {A : Around} {E : Value → Shared → Prop} {s : Shared} {Q : Value → Shared → Prop}
theorem ne_tuples {l b : Addr} {items items2 : Array Value} {e : Nat → Bool} (hl : s.heap.IsTuple l items) (hb : s.heap.IsTuple b items2) (hu : A.units < cLine)
    (he : ∀ j (h1 : j < items.size) (h2 : j < items2.size), EqAt A.in1 s items[j] items2[j] (e j)) (h : Q (.bool (!((List.range (min items.size items2.size)).all e && items.size == items2.size))) s) : wpAny (model prog w) A (compareOp .NotEq (.ref l) (.ref b)) Q E s := by
  obtain ⟨⟨cls, dd, data, sl⟩, ho, hc, n, hd⟩ := id hl
  obtain ⟨⟨cls2, dd2, data2, sl2⟩, ho2, hc2, n2, hd2⟩ := id hb
  simp only at hc hd hc2 hd2
  subst hc hd hc2 hd2
  exact richCompare_meets_room (op := .NotEq) ⟨_, ho, rfl⟩ ⟨_, ho2, rfl⟩ F.slot_tuple_ne F.entry_tuple_ne (F.args_tuple_ne_2 _ _) (tuple_neAt l b items items2 n n2 dd dd2 sl sl2 e) ⟨ho, ho2, he, ⟨(fun x => nomatch x), h⟩⟩ hu
theorem ne_lists {l b : Addr} {items items2 : Array Value} {e : Nat → Bool} (hl : s.heap.IsList l items) (hb : s.heap.IsList b items2) (hsz : items.size = items2.size) (hu : A.units < cLine)
    (he : ∀ j (h1 : j < items.size) (h2 : j < items2.size), EqAt A.in1 s items[j] items2[j] (e j)) (h : Q (.bool (!((List.range items.size).all e))) s) : wpAny (model prog w) A (compareOp .NotEq (.ref l) (.ref b)) Q E s := by
  obtain ⟨⟨cls, dd, data, sl⟩, ho, hc, n, hd⟩ := id hl
  obtain ⟨⟨cls2, dd2, data2, sl2⟩, ho2, hc2, n2, hd2⟩ := id hb
  simp only at hc hd hc2 hd2
  subst hc hd hc2 hd2
  exact richCompare_meets_room (op := .NotEq) ⟨_, ho, rfl⟩ ⟨_, ho2, rfl⟩ F.slot_list_ne F.entry_list_ne (F.args_list_ne_2 _ _) (list_neAt l b items items2 n n2 dd dd2 sl sl2 hsz e) ⟨ho, ho2, he, ⟨(fun x => nomatch x), h⟩⟩ hu
theorem ne_lists_len {l b : Addr} {items items2 : Array Value} (hl : s.heap.IsList l items) (hb : s.heap.IsList b items2) (hsz : (items.size != items2.size) = true) (hu : A.units < cLine)
    (h : Q (.bool true) s) : wpAny (model prog w) A (compareOp .NotEq (.ref l) (.ref b)) Q E s := by
  obtain ⟨⟨cls, dd, data, sl⟩, ho, hc, n, hd⟩ := id hl
  obtain ⟨⟨cls2, dd2, data2, sl2⟩, ho2, hc2, n2, hd2⟩ := id hb
  simp only at hc hd hc2 hd2
  subst hc hd hc2 hd2
  exact richCompare_meets_room (op := .NotEq) ⟨_, ho, rfl⟩ ⟨_, ho2, rfl⟩ F.slot_list_ne F.entry_list_ne (F.args_list_ne_2 _ _) (list_ne_lengthsAt l b items items2 n n2 dd dd2 sl sl2 hsz) ⟨ho, ho2, ⟨(fun x => nomatch x), h⟩⟩ hu
end
end L2
/-! A SIMULATION over the hand layer: a def's body as a plain function over data. -/
namespace SM
open PySem PySem.Spec PyProof.Rows L2

inductive Dt where
  | non | bl (b : Bool) | int (i : Int) | str (x : Str) | tup (xs : List Dt) | lst (xs : List Dt) | ref (n : Nat) | ntp (xs : List Int)

inductive Ob where
  | lst (xs : List Dt)
  | ins (x : Str) (fs : List (Str × Dt))
  | dk (kvs : List (Key × Dt))
  | dt (kvs : List (List Int × Dt))
  | df (kvs : List (List Int × Dt))

abbrev HI := List Ob
abbrev LI := List (Option Dt)

structure Rg where
  v : List Addr
  z : List Addr
def Rg.no (ρ : Rg) (a : Addr) : Prop := a ∉ ρ.v ∧ a ∉ ρ.z
def Rg.add (ρ : Rg) (p : Addr) : Rg := ⟨ρ.v ++ [p], ρ.z⟩
def Rg.hide (ρ : Rg) (p : Addr) : Rg := ⟨ρ.v, p :: ρ.z⟩
def Rg.nil : Rg := ⟨[], []⟩

def TupAt (K : PySem.W.Frag) (H : Hp) (ρ : Rg) (a : Addr) (vs : List V) : Prop :=
  (ρ.no a ∧ Rd H a (.tup vs)) ∨
    ∃ (o : Obj) (its : Array Value) (n : Nat), K.lookup a = some o ∧ o.cls = .type "tuple" ∧ o.data = .seq its n ∧ its.size ≤ sizeLine ∧ Vals vs its.toList
def LstAt (K : PySem.W.Frag) (H : Hp) (ρ : Rg) (a : Addr) (vs : List V) : Prop :=
  (ρ.no a ∧ Rd H a (.lst vs)) ∨
    ∃ (o : Obj) (its : Array Value) (n : Nat), K.lookup a = some o ∧ o.cls = .type "list" ∧ o.dict = none ∧ o.data = .seq its n ∧ its.size ≤ sizeLine ∧ Vals vs its.toList
theorem TupAt.sq {K : PySem.W.Frag} {H : Hp} {ρ : Rg} {a : Addr} {vs : List V} (h : TupAt K H ρ a vs) : SqT K H a vs := by
  rcases h with ⟨_, h⟩ | h
  · exact .inl h
  · exact .inr h
theorem LstAt.sq {K : PySem.W.Frag} {H : Hp} {ρ : Rg} {a : Addr} {vs : List V} (h : LstAt K H ρ a vs) : SqL K H a vs := by
  rcases h with ⟨_, h⟩ | h
  · exact .inl h
  · exact .inr h

mutual
def RelD (K : PySem.W.Frag) (H : Hp) (ρ : Rg) : Dt → V → Prop
  | .non, v => v = .non
  | .bl b, v => v = .bl b
  | .int i, v => v = .int i
  | .str x, v => v = .str x
  | .tup xs, v => ∃ a vs, v = .ref a ∧ TupAt K H ρ a vs ∧ RelDs K H ρ xs vs
  | .lst xs, v => ∃ a vs, v = .ref a ∧ LstAt K H ρ a vs ∧ RelDs K H ρ xs vs
  | .ref n, v => ∃ a, v = .ref a ∧ ρ.v[n]? = some a
  | .ntp xs, v => ∃ a, v = .ref a ∧ ρ.no a ∧ H a = some (.tup (xs.map V.int))
def RelDs (K : PySem.W.Frag) (H : Hp) (ρ : Rg) : List Dt → List V → Prop
  | [], vs => vs = []
  | x :: xs, vs => ∃ v r, vs = v :: r ∧ RelD K H ρ x v ∧ RelDs K H ρ xs r
end

structure Ext (ρ ρ' : Rg) (H H' : Hp) : Prop where
  pre : ∃ e, ρ'.v = ρ.v ++ e ∧ ∀ a ∈ e, H a = none
  hid : ρ'.z = ρ.z
  keep : ∀ a o, H a = some o → a ∉ ρ.v → H' a = some o
  live : ∀ a, H' a = none → H a = none
  fz : ∀ a o u, H a = some (.frz o u) → H' a = some (.frz o u)
theorem Ext.refl (ρ : Rg) (H : Hp) : Ext ρ ρ H H := ⟨⟨[], by simp, by simp⟩, rfl, fun _ _ h _ => h, fun _ h => h, fun _ _ _ h => h⟩
theorem Ext.notv {ρ ρ' : Rg} {H H' : Hp} (x : Ext ρ ρ' H H') {a : Addr} {o : HO} (h : H a = some o) (n : a ∉ ρ.v) : a ∉ ρ'.v := by
  obtain ⟨e, e', hn⟩ := x.pre
  rw [e']
  intro hm
  rcases List.mem_append.mp hm with hm | hm
  · exact n hm
  · have := hn a hm
    rw [h] at this
    cases this
theorem Ext.notin {ρ ρ' : Rg} {H H' : Hp} (x : Ext ρ ρ' H H') {a : Addr} {o : HO} (h : H a = some o) (n : ρ.no a) : ρ'.no a := ⟨x.notv h n.1, by rw [x.hid]; exact n.2⟩
theorem Ext.trans {ρ ρ1 ρ2 : Rg} {H H1 H2 : Hp} (x : Ext ρ ρ1 H H1) (y : Ext ρ1 ρ2 H1 H2) : Ext ρ ρ2 H H2 := by
  refine ⟨?_, y.hid.trans x.hid, fun a o h n => y.keep a o (x.keep a o h n) (x.notv h n), fun a h => x.live a (y.live a h), fun a o u h => y.fz a o u (x.fz a o u h)⟩
  obtain ⟨e, q1, h1⟩ := x.pre
  obtain ⟨e', q2, h2⟩ := y.pre
  refine ⟨e ++ e', by rw [q2, q1, List.append_assoc], fun a ha => ?_⟩
  rcases List.mem_append.mp ha with ha | ha
  · exact h1 a ha
  · exact x.live a (h2 a ha)
theorem Ext.get {ρ ρ' : Rg} {H H' : Hp} (x : Ext ρ ρ' H H') {n : Nat} {a : Addr} (h : ρ.v[n]? = some a) : ρ'.v[n]? = some a := by
  obtain ⟨e, e', _⟩ := x.pre
  have := (List.getElem?_eq_some_iff.mp h).1
  rw [e', List.getElem?_append_left this]
  exact h
theorem Ext.fresh {ρ : Rg} {H : Hp} {p : Addr} {o : HO} (h : H p = none) : Ext ρ ρ H (upd H p o) := by
  refine ⟨⟨[], by simp, by simp⟩, rfl, fun a u e _ => ?_, fun a e => ?_, fun a o u e => by rw [upd_ne (ne_of_none e h)]; exact e⟩
  · rw [upd_ne (ne_of_none e h)]
    exact e
  · by_cases ha : a = p
    · subst ha
      exact h
    · rw [upd_ne ha] at e
      exact e
theorem Ext.own {ρ : Rg} {H : Hp} {p : Addr} {o : HO} (h : H p = none) : Ext ρ (ρ.add p) H (upd H p o) := by
  refine ⟨⟨[p], rfl, fun a ha => ?_⟩, rfl, (Ext.fresh (ρ := ρ) h).keep, (Ext.fresh (ρ := ρ) h).live, (Ext.fresh (ρ := ρ) h).fz⟩
  rw [List.mem_singleton.mp ha]
  exact h
def Nfz (H : Hp) (a : Addr) : Prop := ∀ o u, H a ≠ some (.frz o u)
theorem nfz {H : Hp} {a : Addr} {vs : List V} (h : H a = some (.lst vs)) : Nfz H a := fun _ _ e => by rw [h] at e; cases e
theorem Ext.write {ρ : Rg} {H : Hp} {a : Addr} {o : HO} (ha : a ∈ ρ.v) (nf : Nfz H a) : Ext ρ ρ H (upd H a o) := by
  refine ⟨⟨[], by simp, by simp⟩, rfl, fun b u e n => ?_, fun b e => ?_, fun b q u e => by rw [upd_ne (fun z : b = a => nf q u (by rw [← z]; exact e))]; exact e⟩
  · rw [upd_ne (fun z => n (by rw [z]; exact ha))]
    exact e
  · by_cases hb : b = a
    · subst hb
      rw [upd_same] at e
      cases e
    · rw [upd_ne hb] at e
      exact e

structure Same2 (ρ ρ' : Rg) (H H' : Hp) : Prop where
  no : ∀ a u, H a = some u → ρ.no a → ρ'.no a
  eq : ∀ a u, H a = some u → ρ.no a → H' a = some u
  ix : ∀ (n : Nat) a, ρ.v[n]? = some a → ρ'.v[n]? = some a
  fz : ∀ a o u, H a = some (.frz o u) → H' a = some (.frz o u)
theorem Ext.same {ρ ρ' : Rg} {H H' : Hp} (x : Ext ρ ρ' H H') : Same2 ρ ρ' H H' := ⟨fun _ _ e n => x.notin e n, fun _ _ e n => x.keep _ _ e n.1, fun _ _ e => x.get e, x.fz⟩
theorem Same2.trans {ρ ρ1 ρ2 : Rg} {H H1 H2 : Hp} (x : Same2 ρ ρ1 H H1) (y : Same2 ρ1 ρ2 H1 H2) : Same2 ρ ρ2 H H2 :=
  ⟨fun a u e n => y.no a u (x.eq a u e n) (x.no a u e n), fun a u e n => y.eq a u (x.eq a u e n) (x.no a u e n), fun n a e => y.ix n a (x.ix n a e), fun a o u e => y.fz a o u (x.fz a o u e)⟩
theorem TupAt.same {K : PySem.W.Frag} {ρ ρ' : Rg} {H H' : Hp} (x : Same2 ρ ρ' H H') {a : Addr} {vs : List V} (h : TupAt K H ρ a vs) : TupAt K H' ρ' a vs := by
  rcases h with ⟨n, t | ⟨y, t⟩⟩ | t
  · exact .inl ⟨x.no _ _ t n, .inl (x.eq _ _ t n)⟩
  · exact .inl ⟨x.no _ _ t n, .inr ⟨y, x.eq _ _ t n⟩⟩
  · exact .inr t
theorem LstAt.same {K : PySem.W.Frag} {ρ ρ' : Rg} {H H' : Hp} (x : Same2 ρ ρ' H H') {a : Addr} {vs : List V} (h : LstAt K H ρ a vs) : LstAt K H' ρ' a vs := by
  rcases h with ⟨n, t | ⟨y, t⟩⟩ | t
  · exact .inl ⟨x.no _ _ t n, .inl (x.eq _ _ t n)⟩
  · exact .inl ⟨x.no _ _ t n, .inr ⟨y, x.eq _ _ t n⟩⟩
  · exact .inr t

mutual
theorem RelD.same {K : PySem.W.Frag} {ρ ρ' : Rg} {H H' : Hp} (x : Same2 ρ ρ' H H') : ∀ (d : Dt) {v : V}, RelD K H ρ d v → RelD K H' ρ' d v
  | .non, _, h => by simp only [RelD] at h ⊢; exact h
  | .bl _, _, h => by simp only [RelD] at h ⊢; exact h
  | .int _, _, h => by simp only [RelD] at h ⊢; exact h
  | .str _, _, h => by simp only [RelD] at h ⊢; exact h
  | .tup xs, _, h => by
    simp only [RelD] at h ⊢
    obtain ⟨a, vs, e, t, r⟩ := h
    exact ⟨a, vs, e, t.same x, RelDs.same x xs r⟩
  | .lst xs, _, h => by
    simp only [RelD] at h ⊢
    obtain ⟨a, vs, e, t, r⟩ := h
    exact ⟨a, vs, e, t.same x, RelDs.same x xs r⟩
  | .ref _, _, h => by
    simp only [RelD] at h ⊢
    obtain ⟨a, e, t⟩ := h
    exact ⟨a, e, x.ix _ _ t⟩
  | .ntp _, _, h => by
    simp only [RelD] at h ⊢
    obtain ⟨a, e, n, t⟩ := h
    exact ⟨a, e, x.no _ _ t n, x.eq _ _ t n⟩
theorem RelDs.same {K : PySem.W.Frag} {ρ ρ' : Rg} {H H' : Hp} (x : Same2 ρ ρ' H H') : ∀ (ds : List Dt) {vs : List V}, RelDs K H ρ ds vs → RelDs K H' ρ' ds vs
  | [], _, h => by simp only [RelDs] at h ⊢; exact h
  | d :: ds, _, h => by
    simp only [RelDs] at h ⊢
    obtain ⟨v, r, e, h1, h2⟩ := h
    exact ⟨v, r, e, RelD.same x d h1, RelDs.same x ds h2⟩
end
theorem RelD.ext {K : PySem.W.Frag} {ρ ρ' : Rg} {H H' : Hp} (x : Ext ρ ρ' H H') (d : Dt) {v : V} (h : RelD K H ρ d v) : RelD K H' ρ' d v := RelD.same x.same d h
theorem RelDs.ext {K : PySem.W.Frag} {ρ ρ' : Rg} {H H' : Hp} {ds : List Dt} {vs : List V} (h : RelDs K H ρ ds vs) (x : Ext ρ ρ' H H') : RelDs K H' ρ' ds vs := RelDs.same x.same ds h

section
variable {K : PySem.W.Frag} {H : Hp} {ρ : Rg}
theorem RelDs.nil : RelDs K H ρ [] [] := by simp only [RelDs]
theorem RelDs.cons {d : Dt} {v : V} {ds : List Dt} {vs : List V} (h : RelD K H ρ d v) (r : RelDs K H ρ ds vs) : RelDs K H ρ (d :: ds) (v :: vs) := by
  simp only [RelDs]
  exact ⟨v, vs, rfl, h, r⟩
theorem RelDs.uncons {d : Dt} {ds : List Dt} {vs : List V} (h : RelDs K H ρ (d :: ds) vs) : ∃ v r, vs = v :: r ∧ RelD K H ρ d v ∧ RelDs K H ρ ds r := by
  simpa only [RelDs] using h
theorem RelDs.unnil {vs : List V} (h : RelDs K H ρ [] vs) : vs = [] := by simpa only [RelDs] using h
theorem RelDs.length : ∀ {ds : List Dt} {vs : List V}, RelDs K H ρ ds vs → vs.length = ds.length
  | [], _, h => by rw [h.unnil]; rfl
  | d :: ds, _, h => by
    obtain ⟨v, r, rfl, _, h2⟩ := h.uncons
    rw [List.length_cons, List.length_cons, RelDs.length h2]
theorem RelDs.get : ∀ {ds : List Dt} {vs : List V} {i : Nat} {d : Dt}, RelDs K H ρ ds vs → ds[i]? = some d → ∃ v, vs[i]? = some v ∧ RelD K H ρ d v
  | [], _, _, _, _, e => by simp at e
  | d :: ds, _, 0, _, h, e => by
    obtain ⟨v, r, rfl, h1, _⟩ := h.uncons
    simp at e
    subst e
    exact ⟨v, rfl, h1⟩
  | d :: ds, _, i + 1, d', h, e => by
    obtain ⟨v, r, rfl, _, h2⟩ := h.uncons
    obtain ⟨u, q1, q2⟩ := RelDs.get (i := i) h2 (by simpa using e)
    exact ⟨u, by simpa using q1, q2⟩
theorem RelDs.append : ∀ {ds es : List Dt} {vs us : List V}, RelDs K H ρ ds vs → RelDs K H ρ es us → RelDs K H ρ (ds ++ es) (vs ++ us)
  | [], _, _, _, h, h' => by rw [h.unnil]; exact h'
  | d :: ds, _, _, _, h, h' => by
    obtain ⟨v, r, rfl, h1, h2⟩ := h.uncons
    exact .cons h1 (RelDs.append h2 h')
theorem RelDs.set : ∀ {ds : List Dt} {vs : List V} {d : Dt} {v : V} (i : Nat), RelDs K H ρ ds vs → RelD K H ρ d v → RelDs K H ρ (ds.set i d) (vs.set i v)
  | [], _, _, _, _, h, _ => by rw [h.unnil]; exact .nil
  | d :: ds, _, _, _, 0, h, q => by
    obtain ⟨v, r, rfl, h1, h2⟩ := h.uncons
    exact .cons q h2
  | d :: ds, _, _, _, i + 1, h, q => by
    obtain ⟨v, r, rfl, h1, h2⟩ := h.uncons
    exact .cons h1 (RelDs.set i h2 q)
theorem RelDs.take : ∀ {ds : List Dt} {vs : List V} (n : Nat), RelDs K H ρ ds vs → RelDs K H ρ (ds.take n) (vs.take n)
  | [], _, n, h => by rw [h.unnil]; simp; exact .nil
  | d :: ds, _, 0, h => .nil
  | d :: ds, _, n + 1, h => by
    obtain ⟨v, r, rfl, h1, h2⟩ := h.uncons
    exact .cons h1 (RelDs.take n h2)
theorem RelDs.drop : ∀ {ds : List Dt} {vs : List V} (n : Nat), RelDs K H ρ ds vs → RelDs K H ρ (ds.drop n) (vs.drop n)
  | [], _, n, h => by rw [h.unnil]; simp; exact .nil
  | d :: ds, _, 0, h => h
  | d :: ds, _, n + 1, h => by
    obtain ⟨v, r, rfl, h1, h2⟩ := h.uncons
    exact RelDs.drop n h2
theorem RelDs.ints (ns : List Int) : RelDs K H ρ (ns.map Dt.int) (ns.map V.int) := by
  induction ns with
  | nil => exact .nil
  | cons n ns ih => exact .cons (by simp only [RelD]) ih
theorem RelDs.unints : ∀ {ns : List Int} {vs : List V}, RelDs K H ρ (ns.map Dt.int) vs → vs = ns.map V.int
  | [], _, h => h.unnil
  | n :: ns, _, h => by
    obtain ⟨v, r, rfl, h1, h2⟩ := RelDs.uncons h
    simp only [RelD] at h1
    rw [h1, RelDs.unints h2]
    rfl
theorem rel_int {i : Int} {v : V} : RelD K H ρ (.int i) v ↔ v = .int i := by simp only [RelD]
theorem rel_bl {i : Bool} {v : V} : RelD K H ρ (.bl i) v ↔ v = .bl i := by simp only [RelD]
theorem rel_str {i : Str} {v : V} : RelD K H ρ (.str i) v ↔ v = .str i := by simp only [RelD]
theorem rel_non {v : V} : RelD K H ρ .non v ↔ v = .non := by simp only [RelD]
theorem rel_tup {xs : List Dt} {v : V} : RelD K H ρ (.tup xs) v ↔ ∃ a vs, v = .ref a ∧ TupAt K H ρ a vs ∧ RelDs K H ρ xs vs := by simp only [RelD]
theorem rel_lst {xs : List Dt} {v : V} : RelD K H ρ (.lst xs) v ↔ ∃ a vs, v = .ref a ∧ LstAt K H ρ a vs ∧ RelDs K H ρ xs vs := by simp only [RelD]
theorem rel_ntp {xs : List Int} {v : V} : RelD K H ρ (.ntp xs) v ↔ ∃ a, v = .ref a ∧ ρ.no a ∧ H a = some (.tup (xs.map V.int)) := by simp only [RelD]
theorem rel_ref {n : Nat} {v : V} : RelD K H ρ (.ref n) v ↔ ∃ a, v = .ref a ∧ ρ.v[n]? = some a := by simp only [RelD]
end

def ObAt (K : PySem.W.Frag) (H : Hp) (ρ : Rg) (a : Addr) : Ob → Prop
  | .lst xs => ∃ vs, H a = some (.lst vs) ∧ RelDs K H ρ xs vs
  | .ins x fs => ∃ C dx vs, PySem.W.nsIn K mainGlobals x = some (some (.ref C)) ∧ H a = some (.ins C dx vs) ∧ fs.map (·.1) = vs.map (·.1) ∧ RelDs K H ρ (fs.map (·.2)) (vs.map (·.2))
  | .dk kvs => ∃ vs, H a = some (.dK vs) ∧ kvs.map (·.1) = vs.map (·.1) ∧ RelDs K H ρ (kvs.map (·.2)) (vs.map (·.2))
  | .dt kvs => ∃ vs : List (List Key × V), H a = some (.dT vs) ∧ vs.map (·.1) = kvs.map (fun p => p.1.map Sum.inl) ∧ RelDs K H ρ (kvs.map (·.2)) (vs.map (·.2))
  | .df kvs => ∃ (o : Obj) (vs : List (List Key × V)), H a = some (.frz o (.dT vs)) ∧ vs.map (·.1) = kvs.map (fun p => p.1.map Sum.inl) ∧ RelDs K H ρ (kvs.map (·.2)) (vs.map (·.2))
structure SimH (K : PySem.W.Frag) (ρ : Rg) (h : HI) (H : Hp) : Prop where
  nd : ρ.v.Nodup
  len : ρ.v.length = h.length
  ob : ∀ (n : Nat) a o, ρ.v[n]? = some a → h[n]? = some o → ObAt K H ρ a o
  zt : ∀ a ∈ ρ.z, a ∉ ρ.v ∧ ∃ vs, H a = some (.lst vs)
theorem ObAt.ext {K : PySem.W.Frag} {H H' : Hp} {ρ ρ' : Rg} {a : Addr} {o : Ob} (x : Ext ρ ρ' H H') (e : H' a = H a) (h : ObAt K H ρ a o) : ObAt K H' ρ' a o := by
  cases o with
  | lst xs =>
    obtain ⟨vs, h1, h2⟩ := h
    exact ⟨vs, e.trans h1, h2.ext x⟩
  | ins y fs =>
    obtain ⟨C, dx, vs, h0, h1, h2, h3⟩ := h
    exact ⟨C, dx, vs, h0, e.trans h1, h2, h3.ext x⟩
  | dk kvs =>
    obtain ⟨vs, h1, h2, h3⟩ := h
    exact ⟨vs, e.trans h1, h2, h3.ext x⟩
  | dt kvs =>
    obtain ⟨vs, h1, h2, h3⟩ := h
    exact ⟨vs, e.trans h1, h2, h3.ext x⟩
  | df kvs =>
    obtain ⟨o, vs, h1, h2, h3⟩ := h
    exact ⟨o, vs, e.trans h1, h2, h3.ext x⟩
theorem ObAt.some {K : PySem.W.Frag} {H : Hp} {ρ : Rg} {a : Addr} {o : Ob} (h : ObAt K H ρ a o) : ∃ u, H a = some u := by
  cases o with
  | lst xs => obtain ⟨vs, h1, _⟩ := h; exact ⟨_, h1⟩
  | ins y fs => obtain ⟨C, dx, vs, _, h1, _⟩ := h; exact ⟨_, h1⟩
  | dk kvs => obtain ⟨vs, h1, _⟩ := h; exact ⟨_, h1⟩
  | dt kvs => obtain ⟨vs, h1, _⟩ := h; exact ⟨_, h1⟩
  | df kvs => obtain ⟨o, vs, h1, _⟩ := h; exact ⟨_, h1⟩
section
variable {K : PySem.W.Frag} {H H' : Hp} {ρ : Rg} {h : HI}
theorem SimH.nil : SimH K .nil [] H := ⟨List.nodup_nil, rfl, fun _ _ _ e => by simp [Rg.nil] at e, fun _ h => nomatch h⟩
theorem SimH.tracked (S : SimH K ρ h H) {a : Addr} (ha : a ∈ ρ.v) : ∃ u, H a = some u := by
  obtain ⟨n, hn⟩ := List.mem_iff_getElem?.mp ha
  have hl : n < h.length := by rw [← S.len]; exact (List.getElem?_eq_some_iff.mp hn).1
  exact (S.ob n a _ hn (List.getElem?_eq_getElem hl)).some
theorem SimH.out (S : SimH K ρ h H) {p : Addr} (hp : H p = none) : ρ.no p := by
  refine ⟨fun ha => ?_, fun ha => ?_⟩
  · obtain ⟨u, e⟩ := S.tracked ha
    rw [hp] at e
    cases e
  · obtain ⟨_, u, e⟩ := S.zt p ha
    rw [hp] at e
    cases e
theorem SimH.fresh (S : SimH K ρ h H) {p : Addr} {o : HO} (hp : H p = none) : SimH K ρ h (upd H p o) :=
  ⟨S.nd, S.len, fun n a u e1 e2 => (S.ob n a u e1 e2).ext (Ext.fresh hp) (upd_ne (fun z => (S.out hp).1 (z ▸ List.mem_of_getElem? e1))), fun a ha => by
    obtain ⟨n, u, e⟩ := S.zt a ha
    exact ⟨n, u, by rw [upd_ne (ne_of_none e hp)]; exact e⟩⟩
theorem SimH.own (S : SimH K ρ h H) {p : Addr} {o : HO} {u : Ob} (hp : H p = none) (hu : ObAt K (upd H p o) (ρ.add p) p u) : SimH K (ρ.add p) (h ++ [u]) (upd H p o) := by
  refine ⟨?_, by simp only [Rg.add]; rw [List.length_append, List.length_append, S.len]; rfl, fun n a ob e1 e2 => ?_, fun a ha => ?_⟩
  · simp only [Rg.add]
    rw [List.nodup_append]
    refine ⟨S.nd, List.nodup_cons.mpr ⟨by simp, List.nodup_nil⟩, fun a ha b hb => ?_⟩
    rw [List.mem_singleton.mp hb]
    intro z
    exact (S.out hp).1 (z ▸ ha)
  · simp only [Rg.add] at e1
    by_cases hn : n < h.length
    · rw [List.getElem?_append_left hn] at e2
      rw [List.getElem?_append_left (by rw [S.len]; exact hn)] at e1
      exact (S.ob n a ob e1 e2).ext (Ext.own hp) (upd_ne (fun z => (S.out hp).1 (z ▸ List.mem_of_getElem? e1)))
    · have hn' : h.length ≤ n := Nat.not_lt.mp hn
      rw [List.getElem?_append_right hn'] at e2
      rw [List.getElem?_append_right (by rw [S.len]; exact hn'), S.len] at e1
      cases hk : n - h.length with
      | zero =>
        rw [hk] at e1 e2
        simp at e1 e2
        subst e1 e2
        exact hu
      | succ k =>
        rw [hk] at e2
        simp at e2
  · obtain ⟨n, u, e⟩ := S.zt a ha
    refine ⟨fun hm => ?_, u, by rw [upd_ne (ne_of_none e hp)]; exact e⟩
    simp only [Rg.add] at hm
    rcases List.mem_append.mp hm with hm | hm
    · exact n hm
    · rw [List.mem_singleton.mp hm, hp] at e
      cases e
theorem SimH.write (S : SimH K ρ h H) {n : Nat} {p : Addr} {o : HO} {u : Ob} (hn : ρ.v[n]? = some p) (nf : Nfz H p) (hu : ObAt K (upd H p o) ρ p u) : SimH K ρ (h.set n u) (upd H p o) := by
  refine ⟨S.nd, by rw [List.length_set]; exact S.len, fun m a ob e1 e2 => ?_, fun a ha => ?_⟩
  · by_cases hm : m = n
    · subst hm
      rw [hn] at e1
      cases e1
      have hl : m < h.length := by rw [← S.len]; exact (List.getElem?_eq_some_iff.mp hn).1
      rw [List.getElem?_set_self hl] at e2
      cases e2
      exact hu
    · rw [List.getElem?_set_ne (Ne.symm hm)] at e2
      refine (S.ob m a ob e1 e2).ext (Ext.write (List.mem_of_getElem? hn) nf) (upd_ne fun z => hm ?_)
      subst z
      obtain ⟨h1, q1⟩ := List.getElem?_eq_some_iff.mp e1
      obtain ⟨h2, q2⟩ := List.getElem?_eq_some_iff.mp hn
      exact (List.getElem_inj S.nd).mp (q1.trans q2.symm)
  · obtain ⟨m, w, e⟩ := S.zt a ha
    exact ⟨m, w, by rw [upd_ne (fun z => m (by rw [z]; exact List.mem_of_getElem? hn))]; exact e⟩
theorem SimH.lst (S : SimH K ρ h H) {n : Nat} {a : Addr} {xs : List Dt} (hn : ρ.v[n]? = some a) (e : h[n]? = some (.lst xs)) : ∃ vs, H a = some (.lst vs) ∧ RelDs K H ρ xs vs := S.ob n a _ hn e
end

structure SimL (K : PySem.W.Frag) (H : Hp) (ρ : Rg) (l : LI) (σ : L2.St) : Prop where
  len : l.length = σ.length
  val : ∀ (i : Nat) d, l[i]? = some (some d) → ∃ v, σ[i]? = some (some v) ∧ RelD K H ρ d v
theorem SimL.ext {K : PySem.W.Frag} {H H' : Hp} {ρ ρ' : Rg} {l : LI} {σ : L2.St} (L : SimL K H ρ l σ) (x : Ext ρ ρ' H H') : SimL K H' ρ' l σ :=
  ⟨L.len, fun i d e => let ⟨v, e1, r⟩ := L.val i d e; ⟨v, e1, RelD.ext x d r⟩⟩
theorem SimL.set {K : PySem.W.Frag} {H : Hp} {ρ : Rg} {l : LI} {σ : L2.St} (L : SimL K H ρ l σ) {d : Dt} {v : V} (i : Nat) (r : RelD K H ρ d v) : SimL K H ρ (l.set i (some d)) (σ.set i (some v)) := by
  refine ⟨by rw [List.length_set, List.length_set]; exact L.len, fun j d' e => ?_⟩
  by_cases hj : j = i
  · subst hj
    have hl : j < l.length := by
      have := (List.getElem?_eq_some_iff.mp e).1
      rwa [List.length_set] at this
    rw [List.getElem?_set_self hl] at e
    cases e
    exact ⟨v, List.getElem?_set_self (by rw [← L.len]; exact hl), r⟩
  · rw [List.getElem?_set_ne (Ne.symm hj)] at e
    rw [List.getElem?_set_ne (Ne.symm hj)]
    exact L.val j d' e

/-! ### judgements -/
abbrev RE := LI → HI → Option (Dt × HI)
abbrev RT := LI → HI → Option (Bool × HI)
abbrev RA := LI → HI → Option (List Dt × HI)
inductive Rs where
  | nx (l : LI) (h : HI) | rt (d : Dt) (h : HI) | bk (l : LI) (h : HI) | ct (l : LI) (h : HI)
abbrev RS := LI → HI → Option Rs
abbrev Op2 := Dt → Dt → HI → Option (Dt × HI)
abbrev FnI := List Dt → HI → Option (Dt × HI)

/-! ### what is no star -/
def notStar : Expr → Bool
  | .Starred _ _ => false
  | _ => true
theorem star_of {e : Expr} (h : notStar e = true) (es : List Expr) (env : Env) : starEach (e :: es) env = (false, eval e env) :: starEach es env := by
  cases e <;> first | rfl | (exact absurd h Bool.false_ne_true)
theorem star_any {pos : Pos} {env : Env} : ∀ {es : List Expr}, es.all notStar = true → (backTo pos (starEach es env)).any (·.1) = false
  | [], _ => rfl
  | e :: es, h => by
    rw [List.all_cons, Bool.and_eq_true] at h
    have ih := star_any (pos := pos) (env := env) h.2
    rw [star_of h.1]
    unfold backTo at ih ⊢
    simp only [List.map_cons, List.any_cons, Bool.false_or]
    exact ih
theorem star_few {pos : Pos} {env : Env} {b : Expr} (h : notStar b = true) : ((backTo pos (starEach [b] env)).all (fun x => !x.1) && (backToKw pos (keywordEach [] env)).all (fun x => x.1.isSome)
      && decide ([b].length + ([] : List Keyword).length + (if ([] : List Keyword).isEmpty then 0 else 1) < 30)) = true := by
  rw [star_of h]
  rfl

def Out (K : PySem.W.Frag) (ρ : Rg) (H : Hp) (d : Dt) (h' : HI) (Q : VK) : Prop :=
  ∀ ρ' v H', RelD K H' ρ' d v → SimH K ρ' h' H' → Ext ρ ρ' H H' → Q v H'
def OutB (K : PySem.W.Frag) (ρ : Rg) (H : Hp) (h' : HI) (Q : Hp → Prop) : Prop :=
  ∀ ρ' H', SimH K ρ' h' H' → Ext ρ ρ' H H' → Q H'
def tM (K : PySem.W.Frag) (f : RE) : TE := fun σ H Q => ∃ ρ l h d h', SimH K ρ h H ∧ SimL K H ρ l σ ∧ f l h = some (d, h') ∧ Out K ρ H d h' Q
def tMT (K : PySem.W.Frag) (f : RT) : TT := fun σ H Q => ∃ ρ l h b h', SimH K ρ h H ∧ SimL K H ρ l σ ∧ f l h = some (b, h') ∧ OutB K ρ H h' (Q b)
def tMA (K : PySem.W.Frag) (f : RA) : TA := fun σ H Q => ∃ ρ l h ds h', SimH K ρ h H ∧ SimL K H ρ l σ ∧ f l h = some (ds, h') ∧ ∀ ρ' vs H', RelDs K H' ρ' ds vs → SimH K ρ' h' H' → Ext ρ ρ' H H' → Q vs H'
def rM (K : PySem.W.Frag) (op : Op2) : R2 := fun x y H Q => ∃ ρ h d1 d2 d h', SimH K ρ h H ∧ RelD K H ρ d1 x ∧ RelD K H ρ d2 y ∧ op d1 d2 h = some (d, h') ∧ Out K ρ H d h' Q
def OutS (K : PySem.W.Frag) (ρ : Rg) (H : Hp) (D : Ends) : Rs → Prop
  | .nx l h => ∀ ρ' σ' H', SimH K ρ' h H' → SimL K H' ρ' l σ' → Ext ρ ρ' H H' → D.nx σ' H'
  | .bk l h => ∀ ρ' σ' H', SimH K ρ' h H' → SimL K H' ρ' l σ' → Ext ρ ρ' H H' → D.bk σ' H'
  | .ct l h => ∀ ρ' σ' H', SimH K ρ' h H' → SimL K H' ρ' l σ' → Ext ρ ρ' H H' → D.ct σ' H'
  | .rt d h => Out K ρ H d h D.rt
def sM (K : PySem.W.Frag) (f : RS) : TS := fun D σ H => ∃ ρ l h r, SimH K ρ h H ∧ SimL K H ρ l σ ∧ f l h = some r ∧ OutS K ρ H D r
theorem Out.ext {K : PySem.W.Frag} {ρ ρ1 : Rg} {H H1 : Hp} {d : Dt} {h' : HI} {Q : VK} (k : Out K ρ H d h' Q) (x : Ext ρ ρ1 H H1) : Out K ρ1 H1 d h' Q := fun ρ' v H' r s e => k ρ' v H' r s (x.trans e)
theorem OutB.ext {K : PySem.W.Frag} {ρ ρ1 : Rg} {H H1 : Hp} {h' : HI} {Q : Hp → Prop} (k : OutB K ρ H h' Q) (x : Ext ρ ρ1 H H1) : OutB K ρ1 H1 h' Q := fun ρ' H' s e => k ρ' H' s (x.trans e)
theorem OutS.ext {K : PySem.W.Frag} {ρ ρ1 : Rg} {H H1 : Hp} {D : Ends} {r : Rs} (k : OutS K ρ H D r) (x : Ext ρ ρ1 H H1) : OutS K ρ1 H1 D r := by
  cases r with
  | nx l h => exact fun ρ' σ' H' s l e => k ρ' σ' H' s l (x.trans e)
  | bk l h => exact fun ρ' σ' H' s l e => k ρ' σ' H' s l (x.trans e)
  | ct l h => exact fun ρ' σ' H' s l e => k ρ' σ' H' s l (x.trans e)
  | rt d h => exact Out.ext k x

@[irreducible] def EM (X : Cx) (e : Expr) (f : RE) : Prop := PE X e (tM X.K f)
@[irreducible] def TM (X : Cx) (e : Expr) (f : RT) : Prop := PT X e (tMT X.K f)
@[irreducible] def WM (X : Cx) (e : Expr) (f : RT) : Prop := PW X e (tMT X.K f)
@[irreducible] def AM (X : Cx) (es : List Expr) (f : RA) : Prop := PA X es (tMA X.K f)
@[irreducible] def OM (X : Cx) (f : Value → Value → Sem Value) (op : Op2) : Prop := OpR X f (rM X.K op)
@[irreducible] def ZM (X : Cx) (st : Stmt) (f : RS) : Prop := PS X st (sM X.K f)
@[irreducible] def ZMs (X : Cx) (st : List Stmt) (f : RS) : Prop := PSs X st (sM X.K f)
theorem PE.imp {X : Cx} {e : Expr} {t t' : TE} (h : PE X e t) (i : ∀ σ H Q, t' σ H Q → t σ H Q) : PE X e t' := fun pins s σ H Q I q => h pins s σ H Q I (i σ H Q q)
theorem PT.imp {X : Cx} {e : Expr} {t t' : TT} (h : PT X e t) (i : ∀ σ H Q, t' σ H Q → t σ H Q) : PT X e t' := fun pins s σ H Q I q => h pins s σ H Q I (i σ H Q q)
theorem PW.imp {X : Cx} {e : Expr} {t t' : TT} (h : PW X e t) (i : ∀ σ H Q, t' σ H Q → t σ H Q) : PW X e t' := fun wh pins s σ H Q I q => h wh pins s σ H Q I (i σ H Q q)
theorem PA.imp {X : Cx} {e : List Expr} {t t' : TA} (h : PA X e t) (i : ∀ σ H Q, t' σ H Q → t σ H Q) : PA X e t' := fun pos pins s σ H Q I q => h pos pins s σ H Q I (i σ H Q q)
theorem PS.imp {X : Cx} {e : Stmt} {t t' : TS} (h : PS X e t) (i : ∀ D σ H, t' D σ H → t D σ H) : PS X e t' := fun pins s σ H D I q => h pins s σ H D I (i D σ H q)
theorem PSs.imp {X : Cx} {e : List Stmt} {t t' : TS} (h : PSs X e t) (i : ∀ D σ H, t' D σ H → t D σ H) : PSs X e t' := fun pins s σ H D I q => h pins s σ H D I (i D σ H q)
theorem OpR.imp {X : Cx} {f : Value → Value → Sem Value} {t t' : R2} (h : OpR X f t) (i : ∀ x y H Q, t' x y H Q → t x y H Q) : OpR X f t' := fun pins s σ H x y v u Q I r1 r2 q => h pins s σ H x y v u Q I r1 r2 (i x y H Q q)
theorem CallR.imp {X : Cx} {f : Value} {t t' : List V → Hp → VK → Prop} (h : CallR X f t) (i : ∀ xs H Q, t' xs H Q → t xs H Q) : CallR X f t' := fun pins s σ H xs us Q I r q => h pins s σ H xs us Q I r (i xs H Q q)

/-! ### expressions -/
def eC (d : Dt) : RE := fun _ h => some (d, h)
def eV (i : Nat) : RE := fun l h => match l[i]? with | some (some d) => some (d, h) | _ => none
def e2 (op : Op2) (fa fb : RE) : RE := fun l h => (fa l h).bind fun r => (fb l r.2).bind fun q => op r.1 q.1 q.2
def aNil : RA := fun _ h => some ([], h)
def aCons (f : RE) (g : RA) : RA := fun l h => (f l h).bind fun r => (g l r.2).bind fun q => some (r.1 :: q.1, q.2)
section
variable {X : Cx} {a b c : Expr} {fa fb fc : RE} {pos : Pos}
theorem em_int {i j pos} : EM X (.Constant (.int i) j pos) (eC (.int i)) := by
  with_unfolding_all
    exact PE.imp pe_int fun σ H Q ⟨ρ, l, h, d, h', S, L, e, k⟩ => by
      cases e
      exact k ρ _ H (rel_int.mpr rfl) S (Ext.refl _ _)
theorem em_bl {i j pos} : EM X (.Constant (.bool i) j pos) (eC (.bl i)) := by
  with_unfolding_all
    exact PE.imp pe_bl fun σ H Q ⟨ρ, l, h, d, h', S, L, e, k⟩ => by
      cases e
      exact k ρ _ H (rel_bl.mpr rfl) S (Ext.refl _ _)
theorem em_str {i j pos} : EM X (.Constant (.str i) j pos) (eC (.str i)) := by
  with_unfolding_all
    exact PE.imp pe_str fun σ H Q ⟨ρ, l, h, d, h', S, L, e, k⟩ => by
      cases e
      exact k ρ _ H (rel_str.mpr rfl) S (Ext.refl _ _)
theorem em_non {j pos} : EM X (.Constant .none j pos) (eC .non) := by
  with_unfolding_all
    exact PE.imp pe_non fun σ H Q ⟨ρ, l, h, d, h', S, L, e, k⟩ => by
      cases e
      exact k ρ _ H (rel_non.mpr rfl) S (Ext.refl _ _)
theorem em_var (i : Nat) {x : Str} {pos : Pos} (hN : X.N[i]? = some x := by rfl) (hv : Vis X.env.scope x := by first | exact Or.inl rfl | exact Or.inr (Or.inl rfl) | exact Or.inr (Or.inr rfl)) (hd : (x == ("__debug__" : Str)) = false := by decide)
    (hcd : (x == ("__classdict__" : Str)) = false := by decide) : EM X (.Name x pos) (eV i) := by
  with_unfolding_all
    exact PE.imp (pe_var hN hv hd hcd) fun σ H Q ⟨ρ, l, h, d, h', S, L, e, k⟩ => by
      unfold eV at e
      split at e
      · rename_i d' q
        cases e
        obtain ⟨v, e1, r⟩ := L.val i _ q
        exact ⟨v, e1, k ρ v H r S (Ext.refl _ _)⟩
      · cases e
theorem em_glob {x : Str} {v : V} {u : Value} {d : Dt} {pos : Pos} (hg : Gl X x) (hm : X.mg x = some u) (r : RelV v u) (rd : ∀ H ρ, RelD X.K H ρ d v) (hd : (x == ("__debug__" : Str)) = false := by decide) : EM X (.Name x pos) (eC d) := by
  with_unfolding_all
    exact PE.imp (pe_glob hg hm r hd) fun σ H Q ⟨ρ, l, h, d', h', S, L, e, k⟩ => by
        cases e
        exact k ρ v H (rd H ρ) S (Ext.refl _ _)
theorem bindE {α β : Type} {o : Option α} {f : α → Option β} {b : β} (h : o.bind f = some b) : ∃ a, o = some a ∧ f a = some b := by
  cases o with
  | none => cases h
  | some a => exact ⟨a, rfl, h⟩
theorem em_op {op : Operator} {o : Op2} (ho : OM X (binaryOp op) o) (ha : EM X a fa) (hb : EM X b fb) : EM X (.BinOp a op b pos) (e2 o fa fb) := by
  with_unfolding_all
    exact PE.imp (pe_op ho ha hb) fun σ H Q ⟨ρ, l, h, d, h', S, L, e, k⟩ => by
        obtain ⟨⟨d1, h1⟩, e1, e⟩ := bindE e
        obtain ⟨⟨d2, h2⟩, e2, e⟩ := bindE e
        exact ⟨ρ, l, h, d1, h1, S, L, e1, fun ρ1 x H1 R1 S1 E1 => ⟨ρ1, l, h1, d2, h2, S1, L.ext E1, e2, fun ρ2 y H2 R2 S2 E2 =>
          ⟨ρ2, h2, d1, d2, d, h', S2, RelD.ext E2 _ R1, R2, e, k.ext (E1.trans E2)⟩⟩⟩
theorem em_cmp {op : CmpOp} {o : Op2} (ho : OM X (compareOp op) o) (ha : EM X a fa) (hb : EM X b fb) (hm : behindInMarks op b = false := by first | exact nomark _ | with_unfolding_all rfl) : EM X (.Compare a [op] [b] pos) (e2 o fa fb) := by
  with_unfolding_all
    exact PE.imp (pe_cmpR ho ha hb hm) fun σ H Q ⟨ρ, l, h, d, h', S, L, e, k⟩ => by
        obtain ⟨⟨d1, h1⟩, e1, e⟩ := bindE e
        obtain ⟨⟨d2, h2⟩, e2, e⟩ := bindE e
        exact ⟨ρ, l, h, d1, h1, S, L, e1, fun ρ1 x H1 R1 S1 E1 => ⟨ρ1, l, h1, d2, h2, S1, L.ext E1, e2, fun ρ2 y H2 R2 S2 E2 =>
          ⟨ρ2, h2, d1, d2, d, h', S2, RelD.ext E2 _ R1, R2, e, k.ext (E1.trans E2)⟩⟩⟩
def tB' (f : RE) : RT := fun l h => (f l h).bind fun r => match r.1 with | .bl b => some (b, r.2) | _ => none
theorem tm_cmp {op : CmpOp} {o : Op2} (ho : OM X (compareOp op) o) (ha : EM X a fa) (hb : EM X b fb) (hm : behindInMarks op b = false := by first | exact nomark _ | with_unfolding_all rfl) : TM X (.Compare a [op] [b] pos) (tB' (e2 o fa fb)) := by
  with_unfolding_all
    exact PT.imp (pt_cmpR ho ha hb hm) fun σ H Q ⟨ρ, l, h, bb, h', S, L, e, k⟩ => by
        obtain ⟨⟨d, h3⟩, e0, e⟩ := bindE e
        obtain ⟨⟨d1, h1⟩, e1, e0⟩ := bindE e0
        obtain ⟨⟨d2, h2⟩, e2, e0⟩ := bindE e0
        refine ⟨ρ, l, h, d1, h1, S, L, e1, fun ρ1 x H1 R1 S1 E1 => ⟨ρ1, l, h1, d2, h2, S1, L.ext E1, e2, fun ρ2 y H2 R2 S2 E2 =>
          ⟨ρ2, h2, d1, d2, d, h3, S2, RelD.ext E2 _ R1, R2, e0, fun ρ3 v H3 R3 S3 E3 => ?_⟩⟩⟩
        cases d with
        | bl q =>
          cases e
          exact ⟨bb, rel_bl.mp R3, k ρ3 H3 S3 (E1.trans (E2.trans E3))⟩
        | _ => cases e
theorem tm_val {e : Expr} {f : RE} (h : EM X e f) (he : ∀ whole, isTrue e X.env whole = (do let v ← whole; standAt e.pos; holding [v] (truthy v)) := by intro _; rfl) : TM X e (tB' f) := by
  with_unfolding_all
    exact PT.imp (pt_val h he) fun σ H Q ⟨ρ, l, h, bb, h', S, L, e, k⟩ => by
        obtain ⟨⟨d, h3⟩, e0, e⟩ := bindE e
        refine ⟨ρ, l, h, d, h3, S, L, e0, fun ρ3 v H3 R3 S3 E3 => ?_⟩
        cases d with
        | bl q =>
          cases e
          exact ⟨bb, rel_bl.mp R3, k ρ3 H3 S3 E3⟩
        | _ => cases e
def cChain (o o' : Op2) (fa fb fc : RE) : RE := fun l h => (fa l h).bind fun r => (fb l r.2).bind fun q => (o r.1 q.1 q.2).bind fun z => match z.1 with
  | .bl true => (fc l z.2).bind fun y => o' q.1 y.1 y.2
  | .bl false => some (.bl false, z.2)
  | _ => none
/-! and, or, not as tests -/
def tAnd' (t u : RT) : RT := fun l h => (t l h).bind fun r => if r.1 = true then u l r.2 else some (false, r.2)
def tOr' (t u : RT) : RT := fun l h => (t l h).bind fun r => if r.1 = true then some (true, r.2) else u l r.2
def tNot' (t : RT) : RT := fun l h => (t l h).bind fun r => some (!r.1, r.2)
variable {tA tB2 : RT} {rest : List Expr}
theorem WM.tm {e : Expr} {f : RT} (h : WM X e f) : TM X e f := by
  with_unfolding_all
    exact PW.pt h
theorem wm_or1 (ha : TM X a tA) : WM X (.BoolOp .Or [a] pos) tA := by
  with_unfolding_all
    exact pw_or1 ha
theorem wm_or (ha : TM X a tA) (hb : WM X (.BoolOp .Or (b :: rest) pos) tB2) : WM X (.BoolOp .Or (a :: b :: rest) pos) (tOr' tA tB2) := by
  with_unfolding_all
    exact PW.imp (pw_or ha hb) fun σ H Q ⟨ρ, l, h, bb, h', S, L, e, k⟩ => by
      obtain ⟨⟨b1, h1⟩, e1, e⟩ := bindE e
      refine ⟨ρ, l, h, b1, h1, S, L, e1, fun ρ1 H1 S1 E1 => ?_⟩
      cases b1 with
      | true =>
        rw [if_pos rfl] at e
        cases e
        exact iteT (k ρ1 H1 S1 E1)
      | false =>
        rw [if_neg Bool.false_ne_true] at e
        exact iteF ⟨ρ1, l, h1, bb, h', S1, L.ext E1, e, k.ext E1⟩
theorem tm_not (ha : TM X a tA) : TM X (.UnaryOp .Not a pos) (tNot' tA) := by
  with_unfolding_all
    exact PT.imp (pt_not ha) fun σ H Q ⟨ρ, l, h, bb, h', S, L, e, k⟩ => by
      obtain ⟨⟨b1, h1⟩, e1, e⟩ := bindE e
      cases e
      exact ⟨ρ, l, h, b1, h1, S, L, e1, fun ρ1 H1 S1 E1 => k ρ1 H1 S1 E1⟩
/-! and, or, not as values (bools) -/
def vAnd (t u : RE) : RE := fun l h => (t l h).bind fun r => match r.1 with | .bl true => u l r.2 | .bl false => some (.bl false, r.2) | _ => none
def vOr (t u : RE) : RE := fun l h => (t l h).bind fun r => match r.1 with | .bl true => some (.bl true, r.2) | .bl false => u l r.2 | _ => none
def vNot (t : RE) : RE := fun l h => (t l h).bind fun r => match r.1 with | .bl b => some (.bl (!b), r.2) | _ => none
theorem em_one {op} (h : EM X a fa) : EM X (.BoolOp op [a] pos) fa := by
  with_unfolding_all
    exact pe_one h
theorem em_and (ha : EM X a fa) (hb : EM X (.BoolOp .And (b :: rest) pos) fb) : EM X (.BoolOp .And (a :: b :: rest) pos) (vAnd fa fb) := by
  with_unfolding_all
    exact PE.imp (pe_and ha hb) fun σ H Q ⟨ρ, l, h, d, h', S, L, e, k⟩ => by
      obtain ⟨⟨d1, h1⟩, e1, e⟩ := bindE e
      refine ⟨ρ, l, h, d1, h1, S, L, e1, fun ρ1 v H1 R1 S1 E1 => ?_⟩
      cases d1 with
      | bl q =>
        refine ⟨q, rel_bl.mp R1, ?_⟩
        cases q with
        | true => exact iteT ⟨ρ1, l, h1, d, h', S1, L.ext E1, e, k.ext E1⟩
        | false =>
          cases e
          exact iteF (k ρ1 _ H1 (rel_bl.mpr rfl) S1 E1)
      | _ => cases e
theorem em_not (ha : EM X a fa) : EM X (.UnaryOp .Not a pos) (vNot fa) := by
  with_unfolding_all
    exact PE.imp (pe_not ha) fun σ H Q ⟨ρ, l, h, d, h', S, L, e, k⟩ => by
      obtain ⟨⟨d1, h1⟩, e1, e⟩ := bindE e
      refine ⟨ρ, l, h, d1, h1, S, L, e1, fun ρ1 v H1 R1 S1 E1 => ?_⟩
      cases d1 with
      | bl q =>
        cases e
        exact ⟨q, rel_bl.mp R1, k ρ1 _ H1 (rel_bl.mpr rfl) S1 E1⟩
      | _ => cases e
def vIf (t : RT) (f g : RE) : RE := fun l h => (t l h).bind fun r => if r.1 = true then f l r.2 else g l r.2
theorem em_if {c : Expr} (hc : TM X c tA) (ha : EM X a fa) (hb : EM X b fb) : EM X (.IfExp c a b pos) (vIf tA fa fb) := by
  with_unfolding_all
    exact PE.imp (pe_ifExp hc ha hb) fun σ H Q ⟨ρ, l, h, d, h', S, L, e, k⟩ => by
      obtain ⟨⟨b1, h1⟩, e1, e⟩ := bindE e
      refine ⟨ρ, l, h, b1, h1, S, L, e1, fun ρ1 H1 S1 E1 => ?_⟩
      cases b1 with
      | true =>
        rw [if_pos rfl] at e
        exact iteT ⟨ρ1, l, h1, d, h', S1, L.ext E1, e, k.ext E1⟩
      | false =>
        rw [if_neg Bool.false_ne_true] at e
        exact iteF ⟨ρ1, l, h1, d, h', S1, L.ext E1, e, k.ext E1⟩
/-! argument lists, tuples, lists -/
theorem am_nil : AM X [] aNil := by
  with_unfolding_all
    exact PA.imp pa_nil fun σ H Q ⟨ρ, l, h, ds, h', S, L, e, k⟩ => by
      cases e
      exact k ρ [] H .nil S (Ext.refl _ _)
theorem am_cons {e : Expr} {es : List Expr} {f : RE} {g : RA} (ha : EM X e f) (hr : AM X es g) (hs : notStar e = true := by rfl) : AM X (e :: es) (aCons f g) := by
  with_unfolding_all
    exact PA.imp (pa_cons ha hr (star_of hs es X.env)) fun σ H Q ⟨ρ, l, h, ds, h', S, L, e, k⟩ => by
        obtain ⟨⟨d1, h1⟩, e1, e⟩ := bindE e
        obtain ⟨⟨ds2, h2⟩, e2, e⟩ := bindE e
        cases e
        exact ⟨ρ, l, h, d1, h1, S, L, e1, fun ρ1 x H1 R1 S1 E1 => ⟨ρ1, l, h1, ds2, h2, S1, L.ext E1, e2, fun ρ2 xs H2 R2 S2 E2 => k ρ2 _ H2 (.cons (RelD.ext E2 _ R1) R2) S2 (E1.trans E2)⟩⟩
def eTup (g : RA) : RE := fun l h => (g l h).bind fun r => if r.1.length ≤ sizeLine then some (.tup r.1, r.2) else none
def eLst (g : RA) : RE := fun l h => (g l h).bind fun r => if r.1.length ≤ sizeLine then some (.lst r.1, r.2) else none
def eNew (g : RA) : RE := fun l h => (g l h).bind fun r => if r.1.length ≤ sizeLine then some (.ref r.2.length, r.2 ++ [.lst r.1]) else none
theorem newTup {K : PySem.W.Frag} {H : Hp} {ρ : Rg} {h : HI} {ds : List Dt} {vs : List V} {p : Addr} (S : SimH K ρ h H) (R : RelDs K H ρ ds vs) (hp : H p = none) : RelD K (upd H p (.tup vs)) ρ (.tup ds) (.ref p) :=
  rel_tup.mpr ⟨p, vs, rfl, .inl ⟨S.out hp, .inl upd_same⟩, R.ext (Ext.fresh hp)⟩
theorem newLst {K : PySem.W.Frag} {H : Hp} {ρ : Rg} {h : HI} {ds : List Dt} {vs : List V} {p : Addr} (S : SimH K ρ h H) (R : RelDs K H ρ ds vs) (hp : H p = none) : RelD K (upd H p (.lst vs)) ρ (.lst ds) (.ref p) :=
  rel_lst.mpr ⟨p, vs, rfl, .inl ⟨S.out hp, .inl upd_same⟩, R.ext (Ext.fresh hp)⟩
theorem newRef {K : PySem.W.Frag} {H : Hp} {ρ : Rg} {h : HI} {ds : List Dt} {vs : List V} {p : Addr} (S : SimH K ρ h H) (R : RelDs K H ρ ds vs) (hp : H p = none) :
    RelD K (upd H p (.lst vs)) (ρ.add p) (.ref h.length) (.ref p) ∧ SimH K (ρ.add p) (h ++ [.lst ds]) (upd H p (.lst vs)) := by
  refine ⟨rel_ref.mpr ⟨p, rfl, ?_⟩, S.own hp ⟨vs, upd_same, R.ext (Ext.own hp)⟩⟩
  simp only [Rg.add]
  rw [← S.len, List.getElem?_append_right (Nat.le_refl _), Nat.sub_self]
  rfl
theorem ifE {α : Type} {c : Prop} [Decidable c] {a b : α} (h : (if c then some a else none) = some b) : c ∧ a = b := by
  by_cases hc : c
  · rw [if_pos hc] at h
    exact ⟨hc, Option.some.inj h⟩
  · rw [if_neg hc] at h
    cases h
theorem em_tup {es : List Expr} {g : RA} {x1} (h : AM X es g) : EM X (.Tuple es x1 pos) (eTup g) := by
  with_unfolding_all
    exact PE.imp (pe_tup h) fun σ H Q ⟨ρ, l, h, d, h', S, L, e, k⟩ => by
      obtain ⟨⟨ds, h1⟩, e1, e⟩ := bindE e
      obtain ⟨hz, e⟩ := ifE e
      cases e
      exact ⟨ρ, l, h, ds, h1, S, L, e1, fun ρ1 vs H1 R1 S1 E1 => ⟨by rw [R1.length]; exact hz, fun p hp => k ρ1 _ _ (newTup S1 R1 hp) (S1.fresh hp) (E1.trans (Ext.fresh hp))⟩⟩
theorem em_lst {es : List Expr} {g : RA} (h : AM X es g) : EM X (.List es pos) (eLst g) := by
  with_unfolding_all
    exact PE.imp (pe_lst h) fun σ H Q ⟨ρ, l, h, d, h', S, L, e, k⟩ => by
      obtain ⟨⟨ds, h1⟩, e1, e⟩ := bindE e
      obtain ⟨hz, e⟩ := ifE e
      cases e
      exact ⟨ρ, l, h, ds, h1, S, L, e1, fun ρ1 vs H1 R1 S1 E1 => ⟨by rw [R1.length]; exact hz, fun p hp => k ρ1 _ _ (newLst S1 R1 hp) (S1.fresh hp) (E1.trans (Ext.fresh hp))⟩⟩
theorem em_new {es : List Expr} {g : RA} (h : AM X es g) : EM X (.List es pos) (eNew g) := by
  with_unfolding_all
    exact PE.imp (pe_lst h) fun σ H Q ⟨ρ, l, h, d, h', S, L, e, k⟩ => by
      obtain ⟨⟨ds, h1⟩, e1, e⟩ := bindE e
      obtain ⟨hz, e⟩ := ifE e
      cases e
      exact ⟨ρ, l, h, ds, h1, S, L, e1, fun ρ1 vs H1 R1 S1 E1 => ⟨by rw [R1.length]; exact hz, fun p hp => k _ _ _ (newRef S1 R1 hp).1 (newRef S1 R1 hp).2 (E1.trans (Ext.own hp))⟩⟩
end
end SM
namespace SM
open PySem PySem.Spec PyProof.Rows L2

/-! ### operations on ints -/
def oI (C : Int → Int → Prop) [∀ i j, Decidable (C i j)] (g : Int → Int → Dt) : Op2 := fun a b h => match a, b with
  | .int i, .int j => if C i j then some (g i j, h) else none
  | _, _ => none
def oI0 (g : Int → Int → Dt) : Op2 := fun a b h => match a, b with
  | .int i, .int j => some (g i j, h)
  | _, _ => none
instance : ∀ i j, Decidable (CDiv i j) := fun i j => by unfold CDiv; infer_instance
instance : ∀ i j, Decidable (CMul i j) := fun i j => by unfold CMul; infer_instance
instance : ∀ i j, Decidable (CPow i j) := fun i j => by unfold CPow; infer_instance
def flat : Dt → Option V
  | .non => some .non
  | .bl b => some (.bl b)
  | .int i => some (.int i)
  | .str x => some (.str x)
  | _ => none
theorem flat_rel {K : PySem.W.Frag} {H : Hp} {ρ : Rg} {d : Dt} {v : V} (e : flat d = some v) : RelD K H ρ d v := by
  cases d <;> simp only [flat] at e <;> first | (cases e; simp only [RelD]) | cases e
theorem rel_flat {K : PySem.W.Frag} {H : Hp} {ρ : Rg} {d : Dt} {v u : V} (e : flat d = some v) (r : RelD K H ρ d u) : u = v := by
  cases d <;> simp only [flat] at e <;> first | (cases e; simpa only [RelD] using r) | cases e
section
variable {X : Cx}
theorem om_I {f : Value → Value → Sem Value} {C : Int → Int → Prop} [∀ i j, Decidable (C i j)] {g : Int → Int → Dt} {g' : Int → Int → V} (ho : OpR X f (rI C g')) (hg : ∀ i j, flat (g i j) = some (g' i j)) : OM X f (oI C g) := by
  with_unfolding_all
    exact OpR.imp ho fun x y H Q ⟨ρ, h, d1, d2, d, h', S, R1, R2, e, k⟩ => by
        unfold oI at e
        split at e
        · rename_i i j
          obtain ⟨hc, e⟩ := ifE e
          cases e
          exact ⟨i, j, rel_int.mp R1, rel_int.mp R2, hc, k ρ _ H (flat_rel (hg i j)) S (Ext.refl _ _)⟩
        · cases e
theorem om_I0 {f : Value → Value → Sem Value} {g : Int → Int → Dt} {g' : Int → Int → V} (ho : OpR X f (rI0 g')) (hg : ∀ i j, flat (g i j) = some (g' i j)) : OM X f (oI0 g) := by
  with_unfolding_all
    exact OpR.imp ho fun x y H Q ⟨ρ, h, d1, d2, d, h', S, R1, R2, e, k⟩ => by
        unfold oI0 at e
        split at e
        · rename_i i j
          cases e
          exact ⟨i, j, rel_int.mp R1, rel_int.mp R2, k ρ _ H (flat_rel (hg i j)) S (Ext.refl _ _)⟩
        · cases e
def oAdd : Op2 := oI0 fun i j => .int (i + j)
def oSub : Op2 := oI0 fun i j => .int (i - j)
def oMul : Op2 := oI CMul fun i j => .int (i * j)
def oDiv : Op2 := oI CDiv fun i j => .int (i / j)
def oMod : Op2 := oI (fun _ j => 0 < j) fun i j => .int (i % j)
def oPow : Op2 := oI CPow fun i j => .int (i ^ j.toNat)
def oShl : Op2 := oI CPow fun i j => .int (i * 2 ^ j.toNat)
def oShr : Op2 := oI (fun _ j => 0 ≤ j) fun i j => .int (i / 2 ^ j.toNat)
def oBand : Op2 := oI0 fun i j => .int (Builtin.bitAnd i j)
def oBor : Op2 := oI0 fun i j => .int (Builtin.bitOr i j)
def oXor : Op2 := oI0 fun i j => .int (Builtin.bitXor i j)
def oLt : Op2 := oI0 fun i j => .bl (decide (i < j))
def oLe : Op2 := oI0 fun i j => .bl (decide (i ≤ j))
def oGt : Op2 := oI0 fun i j => .bl (decide (j < i))
def oGe : Op2 := oI0 fun i j => .bl (decide (j ≤ i))
theorem om_add : OM X (binaryOp .Add) oAdd := by
  with_unfolding_all
    exact om_I0 op_add fun _ _ => rfl
theorem om_sub : OM X (binaryOp .Sub) oSub := by
  with_unfolding_all
    exact om_I0 op_sub fun _ _ => rfl
theorem om_mul : OM X (binaryOp .Mult) oMul := by
  with_unfolding_all
    exact om_I op_mul fun _ _ => rfl
theorem om_div : OM X (binaryOp .FloorDiv) oDiv := by
  with_unfolding_all
    exact om_I op_fdiv fun _ _ => rfl
theorem om_mod : OM X (binaryOp .Mod) oMod := by
  with_unfolding_all
    exact om_I op_mod fun _ _ => rfl
theorem om_pow : OM X (binaryOp .Pow) oPow := by
  with_unfolding_all
    exact om_I op_pow fun _ _ => rfl
theorem om_shl : OM X (binaryOp .LShift) oShl := by
  with_unfolding_all
    exact om_I op_shl fun _ _ => rfl
theorem om_shr : OM X (binaryOp .RShift) oShr := by
  with_unfolding_all
    exact om_I op_shr fun _ _ => rfl
theorem om_band : OM X (binaryOp .BitAnd) oBand := by
  with_unfolding_all
    exact om_I0 op_and fun _ _ => rfl
theorem om_lt : OM X (compareOp .Lt) oLt := by
  with_unfolding_all
    exact om_I0 op_lt fun _ _ => rfl
theorem om_le : OM X (compareOp .LtE) oLe := by
  with_unfolding_all
    exact om_I0 op_le fun _ _ => rfl
theorem om_gt : OM X (compareOp .Gt) oGt := by
  with_unfolding_all
    exact om_I0 op_gt fun _ _ => rfl
theorem om_ge : OM X (compareOp .GtE) oGe := by
  with_unfolding_all
    exact om_I0 op_ge fun _ _ => rfl
def oEq : Op2 := fun a b h => match flat a, flat b with
  | some x, some y => if scal x y = true then some (.bl (decide (x = y)), h) else none
  | _, _ => none
def oNe : Op2 := fun a b h => match flat a, flat b with
  | some x, some y => if scal x y = true then some (.bl (!decide (x = y)), h) else none
  | _, _ => none
theorem om_eq : OM X (compareOp .Eq) oEq := by
  with_unfolding_all
    exact OpR.imp op_eq fun x y H Q ⟨ρ, h, d1, d2, d, h', S, R1, R2, e, k⟩ => by
      unfold oEq at e
      split at e
      · rename_i u v e1 e2
        obtain ⟨hc, e⟩ := ifE e
        cases e
        rw [rel_flat e1 R1, rel_flat e2 R2]
        exact ⟨hc, k ρ _ H (rel_bl.mpr rfl) S (Ext.refl _ _)⟩
      · cases e
theorem om_ne : OM X (compareOp .NotEq) oNe := by
  with_unfolding_all
    exact OpR.imp op_ne fun x y H Q ⟨ρ, h, d1, d2, d, h', S, R1, R2, e, k⟩ => by
      unfold oNe at e
      split at e
      · rename_i u v e1 e2
        obtain ⟨hc, e⟩ := ifE e
        cases e
        rw [rel_flat e1 R1, rel_flat e2 R2]
        exact ⟨hc, k ρ _ H (rel_bl.mpr rfl) S (Ext.refl _ _)⟩
      · cases e
def isNon : Dt → Bool
  | .non => true
  | _ => false
def oIsN : Op2 := fun a b h => match b with
  | .non => some (.bl (isNon a), h)
  | _ => none
def oNotN : Op2 := fun a b h => match b with
  | .non => some (.bl (!isNon a), h)
  | _ => none
theorem rel_isnon {K : PySem.W.Frag} {H : Hp} {ρ : Rg} {d : Dt} {v : V} (r : RelD K H ρ d v) : decide (v = .non) = isNon d := by
  cases d with
  | non => have e := rel_non.mp r; subst e; rfl
  | bl b => have e := rel_bl.mp r; subst e; rfl
  | int i => have e := rel_int.mp r; subst e; rfl
  | str x => have e := rel_str.mp r; subst e; rfl
  | tup xs => obtain ⟨a, vs, e, _⟩ := rel_tup.mp r; subst e; rfl
  | lst xs => obtain ⟨a, vs, e, _⟩ := rel_lst.mp r; subst e; rfl
  | ref n => obtain ⟨a, e, _⟩ := rel_ref.mp r; subst e; rfl
  | ntp n => obtain ⟨a, e, _⟩ := rel_ntp.mp r; subst e; rfl
theorem om_isN : OM X (compareOp .Is) oIsN := by
  with_unfolding_all
    exact OpR.imp op_isN fun x y H Q ⟨ρ, h, d1, d2, d, h', S, R1, R2, e, k⟩ => by
      unfold oIsN at e
      split at e
      · cases e
        exact ⟨rel_non.mp R2, k ρ _ H (rel_bl.mpr (by rw [rel_isnon R1])) S (Ext.refl _ _)⟩
      · cases e
def uNeg (f : RE) : RE := fun l h => (f l h).bind fun r => match r.1 with | .int i => some (.int (-i), r.2) | _ => none
theorem em_neg {a : Expr} {fa : RE} {pos : Pos} (ha : EM X a fa) : EM X (.UnaryOp .USub a pos) (uNeg fa) := by
  with_unfolding_all
    exact PE.imp (pe_un un_neg ha) fun σ H Q ⟨ρ, l, h, d, h', S, L, e, k⟩ => by
      obtain ⟨⟨d1, h1⟩, e1, e⟩ := bindE e
      refine ⟨ρ, l, h, d1, h1, S, L, e1, fun ρ1 x H1 R1 S1 E1 => ?_⟩
      cases d1 with
      | int i =>
        cases e
        exact ⟨i, rel_int.mp R1, k ρ1 _ H1 (rel_int.mpr rfl) S1 E1⟩
      | _ => cases e
end

/-! ### sequences -/
def seqL (h : HI) : Dt → Option (List Dt)
  | .lst xs => some xs
  | .ref n => match h[n]? with | some (.lst xs) => some xs | _ => none
  | _ => none
def seqA (h : HI) : Dt → Option (List Dt)
  | .tup xs => some xs
  | d => seqL h d
theorem seqL_at {K : PySem.W.Frag} {H : Hp} {ρ : Rg} {h : HI} {d : Dt} {v : V} {xs : List Dt} (S : SimH K ρ h H) (R : RelD K H ρ d v) (e : seqL h d = some xs) : ∃ a vs, v = .ref a ∧ SqL K H a vs ∧ RelDs K H ρ xs vs := by
  cases d with
  | lst ys =>
    cases e
    obtain ⟨a, vs, e, q, r⟩ := rel_lst.mp R
    exact ⟨a, vs, e, q.sq, r⟩
  | ref n =>
    simp only [seqL] at e
    split at e
    · rename_i ys q
      cases e
      obtain ⟨a, rfl, ha⟩ := rel_ref.mp R
      obtain ⟨vs, h1, h2⟩ := S.lst ha q
      exact ⟨a, vs, rfl, SqL.of h1, h2⟩
    · cases e
  | _ => simp only [seqL] at e <;> cases e
theorem seqA_at {K : PySem.W.Frag} {H : Hp} {ρ : Rg} {h : HI} {d : Dt} {v : V} {xs : List Dt} (S : SimH K ρ h H) (R : RelD K H ρ d v) (e : seqA h d = some xs) : ∃ a vs, v = .ref a ∧ (SqL K H a vs ∨ SqT K H a vs) ∧ RelDs K H ρ xs vs := by
  cases d with
  | tup ys =>
    cases e
    obtain ⟨a, vs, e, q, r⟩ := rel_tup.mp R
    exact ⟨a, vs, e, .inr q.sq, r⟩
  | lst ys => obtain ⟨a, vs, e, q, r⟩ := seqL_at S R (show seqL h (.lst ys) = some xs from e); exact ⟨a, vs, e, .inl q, r⟩
  | ref n => obtain ⟨a, vs, e, q, r⟩ := seqL_at S R (show seqL h (.ref n) = some xs from e); exact ⟨a, vs, e, .inl q, r⟩
  | _ => cases e
theorem RelDs.atI {K : PySem.W.Frag} {H : Hp} {ρ : Rg} {ds : List Dt} {vs : List V} {i : Int} {d : Dt} (r : RelDs K H ρ ds vs) (e : L2.atI ds i = some d) : ∃ v, L2.atI vs i = some v ∧ RelD K H ρ d v := by
  unfold L2.atI at e ⊢
  rw [r.length]
  cases q : ixN ds.length i with
  | none => rw [q] at e; cases e
  | some j =>
    rw [q] at e
    exact r.get e
def oIx : Op2 := fun a b h => match b with
  | .int i => match a with
    | .str z => if z.length ≤ sizeLine then (L2.atI z.cps.toList i).map fun c => (.str ⟨#[c]⟩, h) else none
    | _ => (seqA h a).bind fun xs => (L2.atI xs i).map fun d => (d, h)
  | _ => none
section
variable {X : Cx} {a b c : Expr} {fa fb fc : RE} {pos : Pos}
theorem ix_read {x y : V} {H : Hp} {Q : VK} (h : rM X.K oIx x y H Q) : rIx X.K x y H Q := by
  obtain ⟨ρ, h, d1, d2, d, h', S, R1, R2, e, k⟩ := h
  unfold oIx at e
  split at e
  · rename_i i
    have ei := rel_int.mp R2
    split at e
    · rename_i z
      split at e
      · rename_i hz
        cases q : L2.atI z.cps.toList i with
        | none => rw [q] at e; cases e
        | some c =>
          rw [q] at e
          cases e
          exact .inr (.inr ⟨z, i, c, rel_str.mp R1, ei, hz, q, k ρ _ H (rel_str.mpr rfl) S (Ext.refl _ _)⟩)
      · cases e
    · obtain ⟨xs, e1, e⟩ := bindE e
      cases q : L2.atI xs i with
      | none => rw [q] at e; cases e
      | some u =>
        rw [q] at e
        cases e
        obtain ⟨p, vs, e2, sq, r⟩ := seqA_at S R1 e1
        obtain ⟨v, q1, q2⟩ := r.atI q
        rcases sq with sq | sq
        · exact .inl ⟨p, vs, i, v, e2, ei, sq, q1, k ρ _ H q2 S (Ext.refl _ _)⟩
        · exact .inr (.inl ⟨p, vs, i, v, e2, ei, sq, q1, k ρ _ H q2 S (Ext.refl _ _)⟩)
  · cases e
theorem em_ix (ha : EM X a fa) (hb : EM X b fb) (hs : PlainIx b := by intro _ _; rfl) : EM X (.Subscript a b pos) (e2 oIx fa fb) := by
  with_unfolding_all
    exact PE.imp (pe_ix ix_seq ha hb hs) fun σ H Q ⟨ρ, l, h, d, h', S, L, e, k⟩ => by
      obtain ⟨⟨d1, h1⟩, e1, e⟩ := bindE e
      obtain ⟨⟨d2, h2⟩, e2, e⟩ := bindE e
      exact ⟨ρ, l, h, d1, h1, S, L, e1, fun ρ1 x H1 R1 S1 E1 => ⟨ρ1, l, h1, d2, h2, S1, L.ext E1, e2, fun ρ2 y H2 R2 S2 E2 =>
        ix_read ⟨ρ2, h2, d1, d2, d, h', S2, RelD.ext E2 _ R1, R2, e, k.ext (E1.trans E2)⟩⟩⟩
end

/-! ### statements -/
def sNil : RS := fun l h => some (.nx l h)
def sSeq (f g : RS) : RS := fun l h => (f l h).bind fun r => match r with | .nx l' h' => g l' h' | r => some r
def sSet (i : Nat) (f : RE) : RS := fun l h => (f l h).bind fun r => some (.nx (l.set i (some r.1)) r.2)
def sDrop (f : RE) : RS := fun l h => (f l h).bind fun r => some (.nx l r.2)
def sRet (f : RE) : RS := fun l h => (f l h).bind fun r => some (.rt r.1 r.2)
def sRetN : RS := fun _ h => some (.rt .non h)
def sIf (t : RT) (f g : RS) : RS := fun l h => (t l h).bind fun r => if r.1 = true then f l r.2 else g l r.2
def sBreak : RS := fun l h => some (.bk l h)
def sCont : RS := fun l h => some (.ct l h)
section
variable {X : Cx} {st : Stmt} {rest : List Stmt} {e : Expr} {f : RE} {t u : RS} {c : RT} {pos : Pos}
theorem zms_nil : ZMs X [] sNil := by
  with_unfolding_all
    exact PSs.imp pss_nil fun D σ H ⟨ρ, l, h, r, S, L, e, k⟩ => by
      cases e
      exact k ρ σ H S L (Ext.refl _ _)
theorem zms_cons (h1 : ZM X st t) (h2 : ZMs X rest u) : ZMs X (st :: rest) (sSeq t u) := by
  with_unfolding_all
    exact PSs.imp (pss_cons h1 h2) fun D σ H ⟨ρ, l, h, r, S, L, e, k⟩ => by
      obtain ⟨r1, e1, e⟩ := bindE e
      refine ⟨ρ, l, h, r1, S, L, e1, ?_⟩
      cases r1 with
      | nx l' h' => exact fun ρ' σ' H' S' L' E' => ⟨ρ', l', h', r, S', L', e, k.ext E'⟩
      | rt d h' => cases e; exact k
      | bk l' h' => cases e; exact k
      | ct l' h' => cases e; exact k
theorem zms_one (h1 : ZM X st t) : ZMs X [st] t := by
  with_unfolding_all
    exact pss_one h1
theorem zm_expr (he : EM X e f) (hs : swapsWith e none pos.line X.env = pure false := by rfl) : ZM X (.Expr e pos) (sDrop f) := by
  with_unfolding_all
    exact PS.imp (ps_expr he hs) fun D σ H ⟨ρ, l, h, r, S, L, e, k⟩ => by
      obtain ⟨⟨d1, h1⟩, e1, e⟩ := bindE e
      cases e
      exact ⟨ρ, l, h, d1, h1, S, L, e1, fun ρ1 v H1 R1 S1 E1 => k ρ1 σ H1 S1 (L.ext E1) E1⟩
theorem zm_ret (he : EM X e f) : ZM X (.Return (some e) pos) (sRet f) := by
  with_unfolding_all
    exact PS.imp (ps_ret he) fun D σ H ⟨ρ, l, h, r, S, L, e, k⟩ => by
      obtain ⟨⟨d1, h1⟩, e1, e⟩ := bindE e
      cases e
      exact ⟨ρ, l, h, d1, h1, S, L, e1, k⟩
theorem zm_if {b : Expr} {ss ss' : List Stmt} (hc : TM X b c) (ha : ZMs X ss t) (hb : ZMs X ss' u) : ZM X (.If b ss ss' pos) (sIf c t u) := by
  with_unfolding_all
    exact PS.imp (ps_if hc ha hb) fun D σ H ⟨ρ, l, h, r, S, L, e, k⟩ => by
      obtain ⟨⟨b1, h1⟩, e1, e⟩ := bindE e
      refine ⟨ρ, l, h, b1, h1, S, L, e1, fun ρ1 H1 S1 E1 => ?_⟩
      cases b1 with
      | true =>
        rw [if_pos rfl] at e
        exact iteT ⟨ρ1, l, h1, r, S1, L.ext E1, e, k.ext E1⟩
      | false =>
        rw [if_neg Bool.false_ne_true] at e
        exact iteF ⟨ρ1, l, h1, r, S1, L.ext E1, e, k.ext E1⟩
theorem zm_set (i : Nat) {x : Str} {pos' : Pos} (hN : X.N.Nodup) (he : EM X e f) (hi : X.N[i]? = some x := by rfl) (hx : Loc X.env.scope x := by first | exact Or.inl rfl | exact Or.inr rfl)
    (hs : swapsWith e (some (.Name x pos')) pos.line X.env = pure false := by rfl) (hf : X.fn x = true ∨ X.env.scope.names.lookup x = some .local := by first | exact .inl rfl | exact .inr rfl | assumption) :
    ZM X (.Assign [.Name x pos'] e pos) (sSet i f) := by
  with_unfolding_all
    exact PS.imp (ps_set hN hi hx he hs hf) fun D σ H ⟨ρ, l, h, r, S, L, e, k⟩ => by
      obtain ⟨⟨d1, h1⟩, e1, e⟩ := bindE e
      cases e
      exact ⟨ρ, l, h, d1, h1, S, L, e1, fun ρ1 v H1 R1 S1 E1 => k ρ1 _ H1 S1 ((L.ext E1).set i R1) E1⟩
end

/-! ### what a loop walks -/
inductive Src where
  | vals (xs : List Dt)
  | rf (n : Nat)
  | zp (a b : Dt)
  | it (n : Nat)
  | en (n : Nat)
def Src.at (s : Src) (h : HI) (i : Nat) : Option (Option Dt) := match s with
  | .vals xs => some xs[i]?
  | .rf n => match h[n]? with | some (.lst xs) => some xs[i]? | _ => none
  | .zp a b => match seqL h a, seqL h b with
    | some xs, some ys => some (match xs[i]?, ys[i]? with | some x, some y => some (.tup [x, y]) | _, _ => none)
    | _, _ => none
  | .it n => match h[n]? with | some (.df kvs) => some (kvs[i]?.map fun p => .tup [.tup (p.1.map Dt.int), p.2]) | _ => none
  | .en n => match h[n]? with | some (.lst xs) => some (xs[i]?.map fun x => .tup [.int (i : Int), x]) | _ => none
def Src.fuel (s : Src) (h : HI) : Nat := match s with
  | .vals xs => xs.length + 1
  | .rf n => match h[n]? with | some (.lst xs) => xs.length + 1 | _ => 0
  | .zp a _ => match seqL h a with | some xs => xs.length + 1 | _ => 0
  | .it n => match h[n]? with | some (.df kvs) => kvs.length + 1 | _ => 0
  | .en n => match h[n]? with | some (.lst xs) => xs.length + 1 | _ => 0
abbrev RI := LI → HI → Option (Src × HI)
def SrcOk (K : PySem.W.Frag) (H : Hp) (ρ : Rg) (s : Src) (J : It) : Prop :=
  ∀ H2 ρ2 h2, Same2 ρ ρ2 H H2 → SimH K ρ2 h2 H2 → ∀ i : Nat, match s.at h2 i with
    | none => True
    | some none => J.stop i H2
    | some (some d) => J.go i H2 ∧ ∀ v H3, J.yld i H2 v H3 → RelD K H3 ρ2 d v ∧ Ext ρ2 ρ2 H2 H3 ∧ SimH K ρ2 h2 H3
def iM (K : PySem.W.Frag) (g : RI) : TI := fun σ H R => ∃ ρ l h s h', SimH K ρ h H ∧ SimL K H ρ l σ ∧ g l h = some (s, h') ∧ ∀ ρ' J H', SrcOk K H' ρ' s J → SimH K ρ' h' H' → Ext ρ ρ' H H' → R J H'
@[irreducible] def IM (X : Cx) (tg iter : Expr) (g : RI) : Prop := PI X tg iter (iM X.K g)
theorem PI.imp {X : Cx} {tg e : Expr} {t t' : TI} (h : PI X tg e t) (i : ∀ σ H Q, t' σ H Q → t σ H Q) : PI X tg e t' := fun pins s σ H Q I q => h pins s σ H Q I (i σ H Q q)
abbrev RG := Dt → LI → Option LI
def gM (K : PySem.W.Frag) (g : RG) : TG := fun v σ H Q => ∃ ρ l h d l', SimH K ρ h H ∧ SimL K H ρ l σ ∧ RelD K H ρ d v ∧ g d l = some l' ∧ ∀ σ', SimL K H ρ l' σ' → Q σ' H
@[irreducible] def GM (X : Cx) (tg : Expr) (g : RG) : Prop := PG X tg (gM X.K g)
theorem PG.imp {X : Cx} {e : Expr} {t t' : TG} (h : PG X e t) (i : ∀ v σ H Q, t' v σ H Q → t v σ H Q) : PG X e t' := fun pins s σ H v u Q I r q => h pins s σ H v u Q I r (i v σ H Q q)
def gSet (i : Nat) : RG := fun d l => some (l.set i (some d))
def forL (bd : RG) (body : RS) (s : Src) : Nat → Nat → RS
  | 0, _, _, _ => none
  | k + 1, i, l, h => match s.at h i with
    | none => none
    | some none => some (.nx l h)
    | some (some d) => (bd d l).bind fun l1 => (body l1 h).bind fun r => match r with
      | .nx l' h' => forL bd body s k (i + 1) l' h'
      | .ct l' h' => forL bd body s k (i + 1) l' h'
      | .bk l' h' => some (.nx l' h')
      | .rt d h' => some (.rt d h')
def sFor (g : RI) (bd : RG) (body : RS) : RS := fun l h => (g l h).bind fun r => forL bd body r.1 (r.1.fuel r.2) 0 l r.2
section
variable {X : Cx} {tg iter : Expr} {pos : Pos}
theorem gm_name (i : Nat) {x : Str} {pos : Pos} (hN : X.N.Nodup) (hi : X.N[i]? = some x := by rfl) (hx : Loc X.env.scope x := by first | exact Or.inl rfl | exact Or.inr rfl)
    (hf : X.fn x = true ∨ X.env.scope.names.lookup x = some .local := by first | exact .inl rfl | exact .inr rfl | assumption) : GM X (.Name x pos) (gSet i) := by
  with_unfolding_all
    exact PG.imp (pg_name hN hi hx hf) fun v σ H Q ⟨ρ, l, h, d, l', S, L, R, e, k⟩ => by
        cases e
        exact k _ (L.set i R)
def iR1 (f : RE) : RI := fun l h => (f l h).bind fun r => match r.1 with | .int j => if -(2 ^ 62) ≤ j ∧ j < 2 ^ 62 then some (.vals ((List.range j.toNat).map fun (k : Nat) => Dt.int (k : Int)), r.2) else none | _ => none
def iR2 (f g : RE) : RI := fun l h => (f l h).bind fun r => (g l r.2).bind fun q => match r.1, q.1 with
      | .int i, .int j => if -(2 ^ 62) ≤ i ∧ i < 2 ^ 62 ∧ -(2 ^ 62) ≤ j ∧ j < 2 ^ 62 then some (.vals ((List.range (j - i).toNat).map fun (k : Nat) => Dt.int (i + (k : Int))), q.2) else none | _, _ => none
theorem im_range1 {a : Expr} {f : RE} {p pos : Pos} (hg : Gl X "range") (hm : X.mg "range" = none) (ha : EM X a f) (hs : notStar a = true := by rfl) :
    IM X tg (.Call (.Name "range" p) [a] [] pos) (iR1 f) := by
  with_unfolding_all
    exact PI.imp (pi_range1 hg hm (pa_cons ha pa_nil (star_of hs _ _)) (star_of hs _ _)) fun σ H R ⟨ρ, l, h, s, h', S, L, e, k⟩ => by
        obtain ⟨⟨d1, h1⟩, e1, e⟩ := bindE e
        refine ⟨ρ, l, h, d1, h1, S, L, e1, fun ρ1 v H1 R1 S1 E1 => ?_⟩
        cases d1 with
        | int j =>
          obtain ⟨⟨c1, c2⟩, e⟩ := ifE e
          cases e
          refine ⟨j, by rw [rel_int.mp R1], c1, c2, k ρ1 _ H1 (fun H2 ρ2 h2 E2 S2 i => ?_) S1 E1⟩
          simp only [Src.at, List.getElem?_map]
          by_cases hi : i < j.toNat
          · rw [List.getElem?_range hi]
            refine ⟨hi, fun v H3 q => ?_⟩
            obtain ⟨rfl, rfl⟩ := q
            exact ⟨rel_int.mpr (by simp), Ext.refl _ _, S2⟩
          · rw [List.getElem?_eq_none (by simpa using Nat.not_lt.mp hi)]
            exact Nat.not_lt.mp hi
        | _ => cases e
theorem im_range2 {a b : Expr} {f g : RE} {p pos : Pos} (hg : Gl X "range") (hm : X.mg "range" = none) (ha : EM X a f) (hb : EM X b g) (hs : notStar a = true := by rfl) (hs2 : notStar b = true := by rfl) :
    IM X tg (.Call (.Name "range" p) [a, b] [] pos) (iR2 f g) := by
  with_unfolding_all
    exact PI.imp (pi_range2 hg hm (pa_cons ha (pa_cons hb pa_nil (star_of hs2 _ _)) (star_of hs _ _)) (by rw [star_of hs, star_of hs2]; rfl) (star_of hs2 _ _)) fun σ H R ⟨ρ, l, h, s, h', S, L, e, k⟩ => by
        obtain ⟨⟨d1, h1⟩, e1, e⟩ := bindE e
        obtain ⟨⟨d2, h2⟩, e2, e⟩ := bindE e
        refine ⟨ρ, l, h, d1, h1, S, L, e1, fun ρ1 v H1 R1 S1 E1 => ⟨ρ1, l, h1, d2, h2, S1, L.ext E1, e2, fun ρ2 u H2 R2 S2 E2 => ?_⟩⟩
        cases d1 with
        | int i =>
          cases d2 with
          | int j =>
            obtain ⟨c, e⟩ := ifE e
            cases e
            refine ⟨i, j, by rw [rel_int.mp R1, rel_int.mp R2], c, k ρ2 _ H2 (fun H3 ρ3 h3 E3 S3 n => ?_) S2 (E1.trans E2)⟩
            simp only [Src.at, List.getElem?_map]
            by_cases hi : n < (j - i).toNat
            · rw [List.getElem?_range hi]
              refine ⟨hi, fun v H4 q => ?_⟩
              obtain ⟨rfl, rfl⟩ := q
              exact ⟨rel_int.mpr rfl, Ext.refl _ _, S3⟩
            · rw [List.getElem?_eq_none (by simpa using Nat.not_lt.mp hi)]
              exact Nat.not_lt.mp hi
          | _ => cases e
        | _ => cases e
def iSeq (f : RE) : RI := fun l h => (f l h).bind fun r => match r.1 with | .lst xs => some (.vals xs, r.2) | .ref n => some (.rf n, r.2) | _ => none
def iLst (f : RE) : RI := fun l h => (iSeq f l h).bind fun r => if 0 < r.1.fuel r.2 then some r else none
theorem im_list {a : Expr} {f : RE} (ha : EM X a f) : IM X tg a (iLst f) := by
  with_unfolding_all
    exact PI.imp (pi_list ha) fun σ H R ⟨ρ, l, h, s, h', S, L, e, k⟩ => by
      obtain ⟨⟨s1, h1⟩, e, ez⟩ := bindE e
      obtain ⟨hz, ez⟩ := ifE ez
      cases ez
      obtain ⟨⟨d1, h2⟩, e1, e⟩ := bindE e
      refine ⟨ρ, l, h, d1, h2, S, L, e1, fun ρ1 v H1 R1 S1 E1 => ?_⟩
      cases d1 with
      | lst xs =>
        cases e
        obtain ⟨a, vs, rfl, q, r⟩ := rel_lst.mp R1
        refine ⟨a, rfl, ⟨vs, q.sq⟩, k ρ1 _ H1 (fun H2 ρ2 h2 E2 S2 i => ?_) S1 E1⟩
        have q2 := q.same E2
        have r2 := RelDs.same E2 _ r
        simp only [Src.at]
        cases ei : xs[i]? with
        | none =>
          refine ⟨vs, q2.sq, ?_⟩
          rw [r.length]
          exact List.getElem?_eq_none_iff.mp ei
        | some d =>
          obtain ⟨v, g1, g2⟩ := r2.get ei
          refine ⟨⟨vs, v, q2.sq, g1⟩, fun u H3 y => ?_⟩
          obtain ⟨rfl, y⟩ := y
          have y2 := y vs q2.sq
          rw [g1] at y2
          cases y2
          exact ⟨g2, Ext.refl _ _, S2⟩
      | ref n =>
        cases e
        obtain ⟨a, rfl, ha⟩ := rel_ref.mp R1
        simp only [Src.fuel] at hz
        split at hz
        · rename_i xs q0
          obtain ⟨vs0, g0, _⟩ := S1.lst ha q0
          refine ⟨a, rfl, ⟨vs0, SqL.of g0⟩, k ρ1 _ H1 (fun H2 ρ2 h2 E2 S2 i => ?_) S1 E1⟩
          have ha2 := E2.ix _ _ ha
          simp only [Src.at]
          split
          · trivial
          · rename_i y
            split at y
            · rename_i ys q2
              obtain ⟨vs, g1, r⟩ := S2.lst ha2 q2
              refine ⟨vs, SqL.of g1, ?_⟩
              rw [r.length]
              exact List.getElem?_eq_none_iff.mp (Option.some.inj y)
            · cases y
          · rename_i d y
            split at y
            · rename_i ys q2
              obtain ⟨vs, g1, r⟩ := S2.lst ha2 q2
              obtain ⟨v, z1, z2⟩ := r.get (Option.some.inj y)
              refine ⟨⟨vs, v, SqL.of g1, z1⟩, fun u H3 y => ?_⟩
              obtain ⟨rfl, y⟩ := y
              have y2 := y vs (SqL.of g1)
              rw [z1] at y2
              cases y2
              exact ⟨z2, Ext.refl _ _, S2⟩
            · cases y
        · exact absurd hz (by omega)
      | _ => cases e
def iTupS (f : RE) : RI := fun l h => (f l h).bind fun r => match r.1 with | .tup xs => some (.vals xs, r.2) | _ => none
theorem zm_for {body : List Stmt} {g : RI} {bd : RG} {f : RS} (hp : PassesOwn (model X.prog X.w) X.A X.env X.xe) (hc : X.calm = true) (hi : IM X tg iter g) (hg : GM X tg bd) (hb : ZMs X body f)
    (hs : ∀ x, foldedSetIterable iter X.env x = pure x := by intro _; rfl) : ZM X (.For tg iter body [] pos) (sFor g bd f) := by
  with_unfolding_all
    exact PS.imp (ps_for hp hc hi hg hb hs) fun D σ H ⟨ρ, l, h, r, S, L, e, k⟩ => by
      obtain ⟨⟨s, h1⟩, e1, e⟩ := bindE e
      refine ⟨ρ, l, h, s, h1, S, L, e1, fun ρ1 J H1 ok S1 E1 => ?_⟩
      refine ⟨fun i m σ' H' => ∃ ρ' l' h', SimH X.K ρ' h' H' ∧ SimL X.K H' ρ' l' σ' ∧ Ext ρ1 ρ' H1 H' ∧ forL bd f s m i l' h' = some r, ⟨_, ρ1, l, h1, S1, L.ext E1, Ext.refl _ _, e⟩, ?_⟩
      rintro i m σ' H' ⟨ρ', l', h', S', L', E', e'⟩
      cases m with
      | zero => simp only [forL] at e'; cases e'
      | succ m =>
        simp only [forL] at e'
        have ok' := ok H' ρ' h' E'.same S' i
        cases q : s.at h' i with
        | none => rw [q] at e'; cases e'
        | some o =>
          rw [q] at e' ok'
          cases o with
          | none =>
            cases e'
            exact .inl ⟨ok', k ρ' σ' H' S' L' (E1.trans E')⟩
          | some d =>
            dsimp only at e'
            obtain ⟨l1, b1, e'⟩ := bindE e'
            obtain ⟨r1, b2, e'⟩ := bindE e'
            refine .inr ⟨ok'.1, fun σ2 H2 => ∃ m', m' < m + 1 ∧ ∃ ρ' l' h', SimH X.K ρ' h' H2 ∧ SimL X.K H2 ρ' l' σ2 ∧ Ext ρ1 ρ' H1 H2 ∧ forL bd f s m' (i + 1) l' h' = some r, fun σ2 H2 q => q, fun v H3 y => ?_⟩
            obtain ⟨R3, E3, S3⟩ := ok'.2 v H3 y
            refine ⟨ρ', l', h', d, l1, S3, L'.ext E3, R3, b1, fun σ4 L4 => ⟨ρ', l1, h', r1, S3, L4, b2, ?_⟩⟩
            cases r1 with
            | nx l2 h2 => exact fun ρ5 σ5 H5 S5 L5 E5 => ⟨m, Nat.lt_succ_self _, ρ5, l2, h2, S5, L5, E'.trans (E3.trans E5), e'⟩
            | ct l2 h2 => exact fun ρ5 σ5 H5 S5 L5 E5 => ⟨m, Nat.lt_succ_self _, ρ5, l2, h2, S5, L5, E'.trans (E3.trans E5), e'⟩
            | bk l2 h2 =>
              cases e'
              exact fun ρ5 σ5 H5 S5 L5 E5 => k ρ5 σ5 H5 S5 L5 (E1.trans (E'.trans (E3.trans E5)))
            | rt d2 h2 =>
              cases e'
              exact fun ρ5 v5 H5 R5 S5 E5 => k ρ5 v5 H5 R5 S5 (E1.trans (E'.trans (E3.trans E5)))
end

/-! ### defs and calls -/
def fnI (n N : Nat) (body : RS) : FnI := fun ds h => if ds.length = n then match body (ds.map some ++ List.replicate (N - n) none) h with
    | some (.rt d h') => some (d, h')
    | some (.nx _ h') => some (.non, h')
    | _ => none
  else none
def spM (K : PySem.W.Frag) (n : Nat) (F : FnI) : Sp := fun vs H Q _ => ∃ ρ ds h d h', SimH K ρ h H ∧ RelDs K H ρ ds vs ∧ ds.length = n ∧ F ds h = some (d, h') ∧ Out K ρ H d h' Q
section
variable {P : Program} {w : World} {K : PySem.W.Frag} {mg : Str → Option Value} {base : Heap}
theorem start_sim {H : Hp} {ρ : Rg} {N : List Str} {ds : List Dt} {vs : List V} (R : RelDs K H ρ ds vs) : SimL K H ρ (ds.map some ++ List.replicate (N.length - ds.length) none) (L2.start N vs) := by
  have hl := R.length
  refine ⟨by simp [L2.start, hl], fun i d e => ?_⟩
  by_cases hi : i < ds.length
  · rw [List.getElem?_append_left (by simpa using hi), List.getElem?_map] at e
    cases q : ds[i]? with
    | none => rw [q] at e; cases e
    | some d' =>
      rw [q] at e
      cases e
      obtain ⟨v, g1, g2⟩ := R.get q
      refine ⟨v, ?_, g2⟩
      unfold L2.start
      rw [List.getElem?_append_left (by simpa [hl] using hi), List.getElem?_map, g1]
      rfl
  · rw [List.getElem?_append_right (by simpa using Nat.not_lt.mp hi), List.getElem?_replicate] at e
    split at e <;> cases e
theorem fn_ok {x qual : Str} {st : Stmt} {f : Addr} {fd : FuncData} {N ps : List Str} {k : Nat} {body : RS} (F : Fun K x qual st f fd) (S : FnScope N ps (defScope st))
    (hb : ∀ (cdv : Value) (A : Around) (outer : List Env) (s : Shared) (H : Hp) (E : XK), Room k (A.deeper (envOfC qual (defScope st) s.heap.objs.size f cdv)) →
      ZMs (cxOf CX0 P w K mg base N qual (defScope st) f cdv A outer s H E).nox (defBody st) body) : FnOk P w K mg base CX0 (k + 1) f fd ps (spM K ps.length (fnI ps.length N.length body)) := by
  with_unfolding_all
    refine F.ok S (fun vs H Q E h => ?_) (fun cdv A outer s H vs Q E hr h => ?_)
    · obtain ⟨ρ, ds, h, d, h', S, R, hl, _⟩ := h
      rw [R.length, hl]
    · obtain ⟨ρ, ds, h, d, h', S, R, hl, e, k⟩ := h
      refine ⟨_, hb cdv A outer s H E hr, ?_⟩
      unfold fnI at e
      rw [if_pos hl] at e
      rw [← hl] at e
      split at e
      · rename_i d1 h1 q
        cases e
        exact ⟨ρ, _, h, _, S, start_sim R, q, k⟩
      · rename_i l1 h1 q
        cases e
        exact ⟨ρ, _, h, _, S, start_sim R, q, fun ρ' σ' H' S' L' E' => k ρ' _ H' (rel_non.mpr rfl) S' E'⟩
      · cases e
end
def eCall (F : FnI) (dds : List Dt) (g : RA) : RE := fun l h => (g l h).bind fun r => F (r.1 ++ dds) r.2
section
variable {X : Cx} {k n : Nat} {f : Addr} {fd : FuncData} {ps : List Str} {F : FnI} {x : Str} {p pos : Pos} {e : Expr} {es : List Expr} {g : RA} {dvs : List V} {ds : List Value} {dds : List Dt}
theorem em_callD (hF : FnOk X.prog X.w X.K X.mg X.base CX0 k f fd ps (spM X.K n F)) (hr : Room k X.A) (hg : Gl X x) (hm : X.mg x = some (.ref f)) (hk : PySem.W.keepIn X.K (.ref f) = true) (hb : Binds X.K fd ps ds) (hd : Vals dvs ds) (hdd : ∀ H ρ, RelDs X.K H ρ dds dvs)
    (ha : AM X (e :: es) g) (hn : ∀ (F' : List Dt → HI → Option (Dt × HI)), F' = F → ∀ ds h r, F' ds h = some r → ds.length = n) (hdb : (x == ("__debug__" : Str)) = false := by decide) (he : notStar e = true := by rfl) (hpl : es.all notStar = true := by rfl) :
    EM X (.Call (.Name x p) (e :: es) [] pos) (eCall F dds g) := by
  with_unfolding_all
    exact PE.imp (pe_call hF hr hg hm hk hb hd (E := E0) pass0 ha hdb (star_of he _ _) (star_any hpl)) fun σ H Q ⟨ρ, l, h, d, h', S, L, e, k⟩ => by
      obtain ⟨⟨ds1, h1⟩, e1, e⟩ := bindE e
      exact ⟨ρ, l, h, ds1, h1, S, L, e1, fun ρ1 vs H1 R1 S1 E1 => ⟨ρ1, _, h1, d, h', S1, R1.append (hdd H1 ρ1), hn F rfl _ _ _ e, e, k.ext E1⟩⟩
theorem fnI_len {n N : Nat} {body : RS} {ds : List Dt} {h : HI} {r : Dt × HI} (e : fnI n N body ds h = some r) : ds.length = n := by
  unfold fnI at e
  split at e
  · assumption
  · cases e
def eCall0 (F : FnI) (dds : List Dt) : RE := fun _ h => F dds h
theorem em_call0D (hF : FnOk X.prog X.w X.K X.mg X.base CX0 k f fd ps (spM X.K n F)) (hr : Room k X.A) (hg : Gl X x) (hm : X.mg x = some (.ref f)) (hk : PySem.W.keepIn X.K (.ref f) = true) (hb : Binds X.K fd ps ds) (hd : Vals dvs ds) (hdd : ∀ H ρ, RelDs X.K H ρ dds dvs)
    (hn : ∀ (F' : List Dt → HI → Option (Dt × HI)), F' = F → ∀ ds h r, F' ds h = some r → ds.length = n) (hdb : (x == ("__debug__" : Str)) = false := by decide) :
    EM X (.Call (.Name x p) [] [] pos) (eCall0 F dds) := by
  with_unfolding_all
    exact PE.imp (pe_call0 hF hr hg hm hk hb hd (E := E0) pass0 hdb) fun σ H Q ⟨ρ, l, h, d, h', S, L, e, k⟩ => by
      exact ⟨ρ, dds, h, d, h', S, hdd H ρ, hn F rfl _ _ _ e, e, k⟩
end
end SM
namespace L2
open PySem PySem.Spec PyProof.Rows

/-! ### list comprehensions (one for, at most one if; no variable of the comprehension is captured within it) -/
def closG (cells : List (Str × Addr)) : List (Str × NameKind) → List (Str × Addr) → Option (List (Str × Addr))
  | [], cs => some cs
  | (n, k) :: r, cs => if k == .free then match cells.lookup n with
      | some a => closG cells r ((n, a) :: cs)
      | none => none
    else closG cells r cs
theorem closG_ok {env : Env} : ∀ {l : List (Str × NameKind)} {cs cl : List (Str × Addr)}, closG env.cells l cs = some cl →
    (forIn l cs fun (x : Str × NameKind) (r : List (Str × Addr)) => if (x.2 == NameKind.free) = true then (do let a ← cellOf env x.1; pure (ForInStep.yield ((x.1, a) :: r)) : Sem _) else pure (ForInStep.yield r)) = pure cl
  | [], cs, cl, h => by
    simp only [closG] at h
    cases h
    rfl
  | (n, k) :: r, cs, cl, h => by
    simp only [closG] at h
    rw [List.forIn_cons]
    cases hk : k == NameKind.free with
    | true =>
      rw [hk, if_pos rfl] at h
      cases hc : env.cells.lookup n with
      | none => rw [hc] at h; cases h
      | some a =>
        rw [hc] at h
        have ih := closG_ok (env := env) h
        simp only [hk, if_true]
        have e : cellOf env n = pure a := by unfold cellOf; rw [hc]
        rw [e]
        simp only [pure_bind]
        exact ih
    | false =>
      rw [hk, if_neg (by decide)] at h
      have ih := closG_ok (env := env) h
      simp only [hk, Bool.false_eq_true, if_false, pure_bind]
      exact ih
theorem closG_clos {scope : Scope} {env : Env} {cl : List (Str × Addr)} (h : closG env.cells scope.names [] = some cl) : closureFor scope env = pure cl := by
  have e := closG_ok (env := env) h
  unfold closureFor
  simp only [bind_pure]
  exact e
theorem closG_sub {cells : List (Str × Addr)} : ∀ {l : List (Str × NameKind)} {cs cl : List (Str × Addr)}, closG cells l cs = some cl → (∀ x c, cs.lookup x = some c → cells.lookup x = some c) →
    (∀ x c, cl.lookup x = some c → cells.lookup x = some c) ∧ (∀ x c, cs.lookup x = some c → ∃ c', cl.lookup x = some c') ∧ ∀ n, (n, NameKind.free) ∈ l → ∃ c, cl.lookup n = some c
  | [], cs, cl, h, i => by
    simp only [closG] at h
    cases h
    exact ⟨i, fun x c e => ⟨c, e⟩, fun n hn => nomatch hn⟩
  | (n, k) :: r, cs, cl, h, i => by
    simp only [closG] at h
    cases hk : k == NameKind.free with
    | true =>
      rw [hk, if_pos rfl] at h
      cases hc : cells.lookup n with
      | none => rw [hc] at h; cases h
      | some a =>
        rw [hc] at h
        have i' : ∀ x c, ((n, a) :: cs).lookup x = some c → cells.lookup x = some c := fun x c e => by
          rw [List.lookup_cons] at e
          cases hx : x == n with
          | true =>
            rw [hx] at e
            cases e
            rw [eq_of_beq hx]
            exact hc
          | false =>
            rw [hx] at e
            exact i x c e
        obtain ⟨h1, h2, h3⟩ := closG_sub h i'
        refine ⟨h1, fun x c e => ?_, fun m hm => ?_⟩
        · cases hx : x == n with
          | true => exact h2 x a (by rw [List.lookup_cons, hx])
          | false => exact h2 x c (by rw [List.lookup_cons, hx]; exact e)
        · rcases List.mem_cons.mp hm with z | z
          · cases z
            exact h2 _ a (by rw [List.lookup_cons, beq_self_eq_true])
          · exact h3 m z
    | false =>
      rw [hk, if_neg (by decide)] at h
      obtain ⟨h1, h2, h3⟩ := closG_sub h i
      refine ⟨h1, h2, fun m hm => ?_⟩
      rcases List.mem_cons.mp hm with z | z
      · cases z
        cases hk
      · exact h3 m z

def cxComp (X : Cx) (Nc : List Str) (scope : Scope) (cl : List (Str × Addr)) (C : Addr) (s0 : Shared) (H0 : Hp) (fp : List Addr) : Cx :=
  { X with N := Nc, s₀ := s0, H₀ := H0, env := compEnvC scope cl C X.env, outer := X.stack, stack := X.stack, ex := fp, fn := fun _ => false, pn := [], xe := fun _ _ => False }

theorem relabel_free {env : Env} : ∀ {names : List (Str × NameKind)} {x : Str}, (∀ y ∈ names, y.2 ≠ .cell) →
    ((names.map fun (n, k) => if (k == NameKind.free && env.scope.kind == .function && env.kindOf n == some .cell) then (n, NameKind.cell) else (n, k)).lookup x = some .cell ∨
     (names.map fun (n, k) => if (k == NameKind.free && env.scope.kind == .function && env.kindOf n == some .cell) then (n, NameKind.cell) else (n, k)).lookup x = some .free) → (x, NameKind.free) ∈ names
  | [], _, _, h => by simp at h
  | (n, k) :: r, x, hc, h => by
    have ih := @relabel_free env r x (fun y hy => hc y (List.mem_cons_of_mem _ hy))
    have hk : k ≠ .cell := hc (n, k) List.mem_cons_self
    rw [List.map_cons] at h
    cases hx : x == n with
    | true =>
      have ex := eq_of_beq hx
      subst ex
      by_cases hf : k = .free
      · subst hf
        exact List.mem_cons_self
      · have hb : (k == NameKind.free) = false := by simpa using hf
        simp only [hb, Bool.false_and, Bool.false_eq_true, if_false, List.lookup_cons, beq_self_eq_true] at h
        rcases h with h | h
        · exact absurd (Option.some.inj h) hk
        · exact absurd (Option.some.inj h) hf
    | false =>
      refine List.mem_cons_of_mem _ (ih ?_)
      by_cases hq : (k == NameKind.free && env.scope.kind == .function && env.kindOf n == some .cell) = true
      · simp only [hq, if_true, List.lookup_cons, hx] at h
        exact h
      · rw [Bool.not_eq_true] at hq
        simp only [hq, Bool.false_eq_true, if_false, List.lookup_cons, hx] at h
        exact h

def CapOk (X : Cx) (scope : Scope) (cl : List (Str × Addr)) : List Str → List (Option Nat) → Prop
  | [], [] => True
  | _ :: N, none :: cs => CapOk X scope cl N cs
  | x :: N, some j :: cs => (X.N[j]? = some x ∧ (X.env.kindOf x = some .cell ∨ X.env.kindOf x = some .free) ∧ ((relabel scope X.env).names.lookup x = some .cell ∨ (relabel scope X.env).names.lookup x = some .free) ∧
      cl.lookup x = X.env.cells.lookup x) ∧ CapOk X scope cl N cs
  | _, _ => False
def capOf (σ : St) (cap : List (Option Nat)) : St := cap.map fun o => match o with | some j => (σ[j]?).join | none => none
theorem CapOk.get {X : Cx} {scope : Scope} {cl : List (Str × Addr)} : ∀ {N : List Str} {cs : List (Option Nat)}, CapOk X scope cl N cs → ∀ {i j : Nat} {x : Str}, N[i]? = some x → cs[i]? = some (some j) →
    X.N[j]? = some x ∧ (X.env.kindOf x = some .cell ∨ X.env.kindOf x = some .free) ∧ ((relabel scope X.env).names.lookup x = some .cell ∨ (relabel scope X.env).names.lookup x = some .free) ∧ cl.lookup x = X.env.cells.lookup x
  | [], [], _, i, j, x, h, _ => by simp at h
  | y :: N, none :: cs, h, 0, j, x, _, e => by simp at e
  | y :: N, none :: cs, h, i + 1, j, x, e1, e2 => CapOk.get (N := N) (cs := cs) h (i := i) (by simpa using e1) (by simpa using e2)
  | y :: N, some k :: cs, h, 0, j, x, e1, e2 => by
    simp at e1 e2
    subst e1 e2
    exact h.1
  | y :: N, some k :: cs, h, i + 1, j, x, e1, e2 => CapOk.get (N := N) (cs := cs) h.2 (i := i) (by simpa using e1) (by simpa using e2)
  | [], _ :: _, h, _, _, _, _, _ => h.elim
  | _ :: _, [], h, _, _, _, _, _ => h.elim
theorem CapOk.length {X : Cx} {scope : Scope} {cl : List (Str × Addr)} : ∀ {N : List Str} {cs : List (Option Nat)}, CapOk X scope cl N cs → cs.length = N.length
  | [], [], _ => rfl
  | y :: N, none :: cs, h => by rw [List.length_cons, List.length_cons, CapOk.length (N := N) (cs := cs) h]
  | y :: N, some k :: cs, h => by rw [List.length_cons, List.length_cons, CapOk.length (N := N) (cs := cs) h.2]
  | [], _ :: _, h => h.elim
  | _ :: _, [], h => h.elim

def PIfs (X : Cx) (ifs : List Expr) (t : TT) : Prop :=
  ∀ (pins : List (Addr × Obj)) (s : Shared) (σ : St) (H : Hp) (Q : Bool → Hp → Prop), Inv X pins σ H s → t σ H Q →
    wpAny (model X.prog X.w) X.A (forIn ifs true fun c r => if r = true then do let ok ← isTrue c X.env (eval c X.env); pure (ForInStep.yield ok) else pure (ForInStep.yield r)) (TP X pins σ Q) X.xe s
theorem pifs_nil {X : Cx} : PIfs X [] (fun _ H Q => Q true H) := fun _ _ _ H _ I q => wpAny_tests_nil ⟨H, I, q⟩
theorem pifs_one {X : Cx} {c : Expr} {t : TT} (h : PT X c t) : PIfs X [c] t := fun pins s σ H Q I q => wpAny_tests_one (h pins s σ H Q I q)

def tComp (wi : TI) (g : TG) (tc : TT) (te : TE) (cap : List (Option Nat)) : TE := fun σ H Q => wi σ H fun J H1 => ∀ D, H1 D = none → ∃ W : Nat → Nat → St → List V → Hp → Prop,
  (∃ m, W 0 m (capOf σ cap) [] (upd H1 D (.lst []))) ∧ ∀ i m σ' ys H', W i m σ' ys H' →
    (J.stop i H' ∧ Q (.ref D) H') ∨ (J.go i H' ∧ ∀ x H2, J.yld i H' x H2 → g x σ' H2 fun σ2 H3 => tc σ2 H3 fun b H4 => if b = true then te σ2 H4 fun y H5 =>
      H5 D = some (.lst ys) ∧ ys.length < sizeLine ∧ ∃ m', m' < m ∧ W (i + 1) m' σ2 (ys ++ [y]) (upd H5 D (.lst (ys ++ [y]))) else ∃ m', m' < m ∧ W (i + 1) m' σ2 ys H4)

section
variable {prog : Program} {w : World} {A : Around} {R : Result → Shared → Prop} {s : Shared}
theorem compLoop_any {elt target iter : Expr} {ifs : List Expr} {scope : Scope} {pos : Pos} {it acc : Value} {env : Env} (I : Nat → Shared → Prop)
    (turn : ∀ n s, I n s → wpAny (model prog w) A (pyNext it) (fun r s₁ => match r with
      | none => R (.ok .next) s₁
      | some v => wpAny (model prog w) A (letOwnedTupleGo target it v) (fun _ s₁' => wpAny (model prog w) A (assign target env v) (fun _ s₂ =>
          wpAny (model prog w) A (forIn ifs true fun c r => if r = true then do let ok ← isTrue c env (eval c env); pure (ForInStep.yield ok) else pure (ForInStep.yield r)) (fun ok s₃ =>
            if ok = true then wpAny (model prog w) A (eval elt env) (fun x s₄ =>
              wpAny (model prog w) A (call (.builtin "list.append") [acc, x]) (fun _ s₅ => ∃ m, m < n ∧ I m s₅) (fun _ _ => False) s₄) (fun _ _ => False) s₃
            else ∃ m, m < n ∧ I m s₃) (fun _ _ => False) s₂) (fun _ _ => False) s₁') (fun _ _ => False) s₁) (fun _ _ => False) s)
    (n : Nat) (h : I n s) : codeAny (model prog w) A (.compLoop (.ListComp elt [⟨target, iter, ifs, 0⟩] scope pos) 0 it acc env) R s := by
  refine codeAny_loop rfl I (fun n s hI => ?_) n h
  show wpAny _ A ((compTurn (.ListComp elt [⟨target, iter, ifs, 0⟩] scope pos) 0 it acc env).onRaise (fun x => do noteFrame x env; theTreesLotGoes x)) _ _ s
  refine wpAny_noted ?_
  rw [compTurn_list]
  refine wpAny_bind (wpAny_standAt (wpAny_bind (wpAny_mono (turn n s hI) (fun r s₁ h₁ => ?_) fun _ _ h' => h'.elim)))
  cases r with
  | none => exact wpAny_pure h₁
  | some v =>
    refine wpAny_bind (wpAny_mono h₁ (fun _ s₁' h₁' => ?_) fun _ _ h' => h'.elim)
    refine wpAny_bind (wpAny_mono h₁' (fun _ s₂ h₂ => wpAny_bind (wpAny_mono h₂ (fun ok s₃ h₃ => ?_) fun _ _ h' => h'.elim)) fun _ _ h' => h'.elim)
    cases ok with
    | false => exact wpAny_pure ⟨rfl, h₃⟩
    | true =>
      exact wpAny_bind (wpAny_bind (wpAny_mono h₃ (fun x s₄ h₄ => wpAny_bind (wpAny_mono h₄ (fun _ s₅ h₅ => wpAny_pure (wpAny_pure ⟨rfl, h₅⟩)) fun _ _ h' => h'.elim)) fun _ _ h' => h'.elim))
end

section
variable {X : Cx} {elt iter tg : Expr} {ifs : List Expr} {scope : Scope} {cl : List (Str × Addr)} {pos : Pos} {Nc : List Str} {wi : TI} {g : TG} {tc : TT} {te : TE} {cap : List (Option Nat)}
theorem comp_block {pins : List (Addr × Obj)} {σ : St} {H : Hp} {s : Shared} {it : Addr} {fp : List Addr} {tn : Nat → Heap → Prop} {J : It} {Q : VK} {RR : Value → Addr → Result → Shared → Prop} {E : Value → Shared → Prop}
    (hc : X.calm = true) (hcl : closG X.env.cells scope.names [] = some cl) (hcell : ∀ y ∈ scope.names, y.2 ≠ .cell) (hkind : scope.kind = .function) (hcap : CapOk X scope cl Nc cap)
    (hg : ∀ C s0 H0 fp, PG (cxComp X Nc scope cl C s0 H0 fp) tg g) (ht : ∀ C s0 H0 fp, PIfs (cxComp X Nc scope cl C s0 H0 fp) ifs tc) (he : ∀ C s0 H0 fp, PE (cxComp X Nc scope cl C s0 H0 fp) elt te)
    (I : Inv X pins σ H s) (T : Turn X.prog X.w X.K tg J fp it tn) (st : tn 0 s.heap) (hf : ∀ b ∈ fp, FpOk X pins H b)
    (read : ∀ D, H D = none → ∃ W : Nat → Nat → St → List V → Hp → Prop,
      (∃ m, W 0 m (capOf σ cap) [] (upd H D (.lst []))) ∧ ∀ i m σ' ys H', W i m σ' ys H' →
        (J.stop i H' ∧ Q (.ref D) H') ∨ (J.go i H' ∧ ∀ x H2, J.yld i H' x H2 → g x σ' H2 fun σ2 H3 => tc σ2 H3 fun b H4 => if b = true then te σ2 H4 fun y H5 =>
          H5 D = some (.lst ys) ∧ ys.length < sizeLine ∧ ∃ m', m' < m ∧ W (i + 1) m' σ2 (ys ++ [y]) (upd H5 D (.lst (ys ++ [y]))) else ∃ m', m' < m ∧ W (i + 1) m' σ2 ys H4))
    (hRR : ∀ (C D : Addr) (s' : Shared) (H' : Hp) m, Inv X pins σ H' s' → s'.heap.Ns C m → H' C = none → C ≠ X.env.locals → X.s₀.heap.objs.size ≤ C → (∀ x c, X.env.cells.lookup x = some c → c ≠ C) → (∀ p ∈ X.pn ++ pins, p.1 ≠ C) → Q (.ref D) H' → RR (.ref D) C (.ok .next) s') :
    wpAny (model X.prog X.w) X.A (newList []) (fun acc s₃ => wpAny (model X.prog X.w) X.A (newFunctionEnv scope X.env.globals cl [] X.env.qual none .none (some X.env)) (fun cenv s₄ =>
      codeAny (model X.prog X.w) X.A (.compStart (.ListComp elt [⟨tg, iter, ifs, 0⟩] scope pos) 0 (.ref it) acc { cenv with scope := relabel scope X.env }) (RR acc cenv.locals) s₄) E s₃) E s := by
  obtain ⟨sub, _, hasC⟩ := closG_sub hcl (fun _ _ e => by simp at e)
  refine wpAny_newObj_type (wpAny_newFunctionEnv hcell (by intro y hy; simp at hy) (fun h₁ hns₁ hsb₁ => ?_) hkind)
  have hD := I.fresh
  have I3 : Inv X pins σ (upd H s.heap.objs.size (.lst [])) { s with heap := s.heap.push { cls := .type "list", data := .seq ([] : List Value).toArray } } := I.lnew (ys := []) (its := []) (t' := s.toks) .nil (Nat.zero_le _)
  generalize hs3 : ({ s with heap := s.heap.push { cls := .type "list", data := .seq ([] : List Value).toArray } } : Shared) = s3 at I3
  generalize hH3 : upd H s.heap.objs.size (.lst []) = H3 at I3
  have hh3 : s3.heap = s.heap.push { cls := .type "list", dict := none, data := .seq ([] : List Value).toArray } := by rw [← hs3]
  dsimp only at hns₁ hsb₁ ⊢
  rw [← hh3] at hns₁ hsb₁
  -- C, the block's own names
  have hCn : H3 s3.heap.objs.size = none := I3.fresh
  have hCL : s3.heap.objs.size ≠ X.env.locals := fun z => by
    have := I3.lt
    rw [← z] at this
    exact Nat.lt_irrefl _ this
  have hC0 : X.s₀.heap.objs.size ≤ s3.heap.objs.size := I3.sz
  have cellLt : ∀ x c, X.env.cells.lookup x = some c → c < s3.heap.objs.size := fun x c e => by
    obtain ⟨v, o, ho, _⟩ := I3.cell x c e
    exact Heap.lt_size ho
  have hCc : ∀ x c, X.env.cells.lookup x = some c → c ≠ s3.heap.objs.size := fun x c e z => by
    have := cellLt x c e
    rw [z] at this
    exact Nat.lt_irrefl _ this
  have hCp : ∀ p ∈ X.pn ++ pins, p.1 ≠ s3.heap.objs.size := fun p hp z => by
    have := Heap.lt_size (I3.pin p hp).1
    rw [z] at this
    exact Nat.lt_irrefl _ this
  have fpLt : ∀ b ∈ fp, b < s.heap.objs.size := fun b hb => by
    obtain ⟨o, e, _⟩ := T.obj 0 _ st b hb
    exact Heap.lt_size e
  have sz3 : s3.heap.objs.size = s.heap.objs.size + 1 := by rw [hh3, Heap.size_push]
  have old : ∀ b o, s3.heap.get? b = some o → h₁.get? b = some o := fun b o e => hsb₁.extBut b o (Nat.ne_of_lt (Heap.lt_size e)) (Heap.get?_push_of_some _ e)
  have old0 : ∀ b o, s.heap.get? b = some o → s3.heap.get? b = some o := fun b o e => by
    rw [hh3]
    exact Heap.get?_push_of_some _ e
  have fpH : ∀ b ∈ fp, H3 b = none := fun b hb => by
    rw [← hH3, upd_ne (Nat.ne_of_lt (fpLt b hb))]
    exact (hf b hb).1
  -- the context is well made
  have okY : (cxComp X Nc scope cl s3.heap.objs.size s3 H3 fp).Ok := by
    refine ⟨I3.ok.mod, hkind, I3.ok.glob, I3.ok.blt, Nat.le_refl _, fun x y c e1 e2 => I3.ok.inj x y c (sub x c e1) (sub y c e2), fun x hx => ?_, fun x c e _ => absurd e Bool.false_ne_true, I3.ok.hd, I3.ok.frames, .inl rfl, fun b hb => ⟨?_, fun x c e => ?_⟩, fun b o e => I3.bs b o e, ?_, fun b o e => ?_, fun b hb => ?_, I3.stack, I3.stkFree⟩
    · exact hasC x (relabel_free hcell hx)
    · intro z
      have := fpLt b hb
      have z' : b = s3.heap.objs.size := z
      rw [z', sz3] at this
      exact absurd this (Nat.not_lt.mpr (Nat.le_succ _))
    · exact (hf b hb).2.2.2.2.1 x c (sub x c e)
    · exact Nat.le_trans I3.ok.bsz I3.sz
    · intro hb
      have h1 := (hf b hb).2.2.2.1
      have h2 := I3.ok.bs b o e
      rcases h1 with z | z
      · exact I3.ok.noex b o e z
      · exact absurd (Nat.lt_of_lt_of_le (Heap.lt_size h2.1) z) (Nat.lt_irrefl _)
    · intro z
      rcases List.mem_cons.mp (I3.stkSub b z) with z | z
      · exact (hf b hb).2.1 z
      · exact (hf b hb).2.2.1 z
  have IY : Inv (cxComp X Nc scope cl s3.heap.objs.size s3 H3 fp) [] (capOf σ cap) H3 { s3 with heap := h₁, toks := s3.toks + ([] : List (Str × Value)).length } := by
    refine ⟨okY, rfl, I3.bare, Un.kept old, ⟨_, hns₁, fun i x v e1 e2 _ => ?_⟩, fun x c e => ?_, hCn, fun x c e => I3.freeC x c (sub x c e), fun p hp => absurd hp (by simp [cxComp]), I3.hok.kept old, ?_⟩
    · have e2' : (capOf σ cap)[i]? = some (some v) := e2
      unfold capOf at e2'
      rw [List.getElem?_map] at e2'
      cases q : cap[i]? with
      | none => rw [q] at e2'; cases e2'
      | some o =>
        rw [q] at e2'
        cases o with
        | none => cases e2'
        | some j =>
          have e3 : (σ[j]?).join = some v := by simpa using e2'
          have e4 : σ[j]? = some (some v) := by
            cases z : σ[j]? with
            | none => rw [z] at e3; cases e3
            | some y => rw [z] at e3; simpa using e3
          obtain ⟨n1, n2, n3, n4⟩ := hcap.get e1 q
          obtain ⟨m, _, hl⟩ := I3.loc
          have hv : Vis X.env.scope x := .inr n2
          obtain ⟨u, r, lk⟩ := hl j x v n1 e4 hv
          refine ⟨u, r, .inr ⟨n3, ?_⟩⟩
          rcases lk with ⟨k, _⟩ | ⟨_, c, ec, ob, z1, z2⟩
          · rcases n2 with n2 | n2 <;> rw [k] at n2 <;> cases n2
          · exact ⟨c, n4.trans ec, ob, old c ob z1, z2⟩
    · obtain ⟨v, o, z1, z2⟩ := I3.cell x c (sub x c e)
      exact ⟨v, o, old c o z1, z2⟩
    · show (capOf σ cap).length = Nc.length
      unfold capOf
      rw [List.length_map]
      exact hcap.length
  obtain ⟨W, ⟨m0, w0⟩, turn⟩ := read s.heap.objs.size hD
  rw [hH3] at w0
  have st1 : tn 0 h₁ := T.keep 0 _ _ st fun b _ o e => old b o (old0 b o e)
  have fpY : ∀ {H' : Hp}, (∀ b ∈ fp, H' b = none) → ∀ b ∈ fp, FpOk (cxComp X Nc scope cl s3.heap.objs.size s3 H3 fp) [] H' b := fun hn b hb =>
    ⟨hn b hb, (okY.exf b hb).1, okY.exfs b hb, .inl hb, fun x c e => (okY.exf b hb).2 x c e, fun p hp => absurd hp (by simp [cxComp])⟩
  have loop : codeAny (model X.prog X.w) X.A (.compLoop (.ListComp elt [⟨tg, iter, ifs, 0⟩] scope pos) 0 (.ref it) (.ref s.heap.objs.size) (compEnvC scope cl s3.heap.objs.size X.env)) (RR (.ref s.heap.objs.size) s3.heap.objs.size)
      { s3 with heap := h₁, toks := s3.toks + ([] : List (Str × Value)).length } := by
    refine compLoop_any (fun n s' => ∃ i σ' ys H', Inv (cxComp X Nc scope cl s3.heap.objs.size s3 H3 fp) [] σ' H' s' ∧ tn i s'.heap ∧ (∀ b ∈ fp, H' b = none) ∧ W i n σ' ys H') ?_ m0 ⟨0, _, [], H3, IY, st1, fpH, w0⟩
    rintro n s4 ⟨i, σ4, ys, H4, I4, st4, fr4, w4⟩
    rcases turn i n σ4 ys H4 w4 with ⟨stop, qn⟩ | ⟨go, step⟩
    · refine thn (T.done (cxComp X Nc scope cl s3.heap.objs.size s3 H3 fp) rfl rfl rfl hc i [] s4 σ4 H4 _ I4 (fpY fr4) st4 stop) fun r s5 ⟨hr, I5⟩ => ?_
      subst hr
      have I6 : Inv X pins σ H4 s5 := I3.call' (ch := fp) I5.os I5.base I5.hok I5.bare fun b hb => ⟨(hf b hb).2.2.2.1, (hf b hb).2.1, (hf b hb).2.2.2.2.1, (hf b hb).2.2.2.2.2⟩
      obtain ⟨m, hn, _⟩ := I5.loc
      exact hRR _ _ s5 H4 m I6 hn I5.free hCL hC0 hCc hCp qn
    · refine thn (T.item (cxComp X Nc scope cl s3.heap.objs.size s3 H3 fp) rfl rfl rfl hc i [] s4 σ4 H4 _ I4 (fpY fr4) st4 go) fun r s5 ⟨u, hr, h5⟩ => ?_
      subst hr
      refine thn h5 fun _ s6 ⟨x, H6, I6, r6, y6, st6, fr6⟩ => ?_
      have I6' := I6.pinned (fpY fr6) (T.obj _ _ st6)
      refine thn (hg _ _ _ _ _ s6 σ4 H6 x u _ I6' r6 (step x H6 y6)) fun _ s7 ⟨σ7, H7, I7, q7⟩ => ?_
      refine thn (ht _ _ _ _ _ s7 σ7 H7 _ I7 q7) fun b s8 ⟨H8, I8, q8⟩ => ?_
      have again : ∀ {σ9 : St} {H9 : Hp} {s9 : Shared} {ys9 : List V}, Inv (cxComp X Nc scope cl s3.heap.objs.size s3 H3 fp) ([] ++ pinsAt fp s6.heap) σ9 H9 s9 → (∃ m', m' < n ∧ W (i + 1) m' σ9 ys9 H9) →
          ∃ m', m' < n ∧ ∃ i σ' ys H', Inv (cxComp X Nc scope cl s3.heap.objs.size s3 H3 fp) [] σ' H' s9 ∧ tn i s9.heap ∧ (∀ b ∈ fp, H' b = none) ∧ W i m' σ' ys H' := fun {σ9 H9 s9 ys9} I9 ⟨m', hm, w9⟩ => by
        refine ⟨m', hm, i + 1, σ9, ys9, H9, I9.unpinned, T.keep _ _ _ st6 fun b hb o e => (I9.pin (b, o) (List.mem_append_right _ (List.mem_append_right _ (mem_pinsAt hb e)))).1, fun b hb => ?_, w9⟩
        obtain ⟨o, e, d⟩ := T.obj _ _ st6 b hb
        exact (I9.pin (b, o) (List.mem_append_right _ (List.mem_append_right _ (mem_pinsAt hb e)))).2.1
      cases b with
      | false =>
        rw [if_neg Bool.false_ne_true] at q8 ⊢
        exact again I8 q8
      | true =>
        rw [if_pos rfl] at q8 ⊢
        refine thn (he _ _ _ _ _ s8 σ7 H8 _ I8 q8) fun y s9 ⟨v, H9, I9, r9, d9, z9, w9⟩ => ?_
        refine thn (mt_append (X := cxComp X Nc scope cl s3.heap.objs.size s3 H3 fp) _ s9 σ7 H9 (.ref s.heap.objs.size) [v] (.ref s.heap.objs.size) [y] (fun _ H' => H' = upd H9 s.heap.objs.size (.lst (ys ++ [v]))) I9 rfl (.cons r9 .nil) ⟨_, ys, v, rfl, rfl, d9, z9, rfl⟩) fun _ s10 ⟨_, H10, I10, _, e10⟩ => ?_
        subst e10
        exact again I10 w9
  exact codeAny_compStart_list loop (T.self X.A 0 _ _ _ st1 loop)
theorem pe_comp (hc : X.calm = true) (hi : PI X tg iter wi) (hcl : closG X.env.cells scope.names [] = some cl) (hcell : ∀ y ∈ scope.names, y.2 ≠ .cell) (hkind : scope.kind = .function)
    (hnames : ∀ y ∈ scope.names, y.2 = .local → scope.names.lookup y.1 = some .local) (hcap : CapOk X scope cl Nc cap)
    (hg : ∀ C s0 H0 fp, PG (cxComp X Nc scope cl C s0 H0 fp) tg g) (ht : ∀ C s0 H0 fp, PIfs (cxComp X Nc scope cl C s0 H0 fp) ifs tc) (he : ∀ C s0 H0 fp, PE (cxComp X Nc scope cl C s0 H0 fp) elt te)
    (hs : ∀ x, foldedSetIterable iter X.env x = pure x := by intro _; rfl) : PE X (.ListComp elt [⟨tg, iter, ifs, 0⟩] scope pos) (tComp wi g tc te cap) := by
  intro pins s σ H Q I h
  rw [eval_ListComp]
  refine wpAny_comprehension_free (use := none) rfl hs (closG_clos hcl) hkind hnames (thn (hi pins s σ H _ I h) fun v s1 h1 => thn h1 fun itv s2 h2 => ?_)
  obtain ⟨it, fp, tn, J, H2, e, I2, T, st2, f2, read⟩ := h2
  subst e
  refine comp_block hc hcl hcell hkind hcap hg ht he I2 T st2 f2 read fun C D s' H' m I' hn n1 n2 n3 n4 n5 q => ?_
  refine ⟨m, hn, fun h' hs' => ⟨.ref D, H', ?_, rfl, q⟩⟩
  exact I'.turned (t' := s'.toks) (fun b o hb e => hs'.extBut b o hb e) n1 n2 (.inr n3) n4 n5
theorem ps_setComp {i : Nat} {y : Str} {py spos : Pos} (hc : X.calm = true) (hN : X.N.Nodup) (hiN : X.N[i]? = some y) (hy : X.env.scope.names.lookup y = some .local) (hi : PI X tg iter wi) (hcl : closG X.env.cells scope.names [] = some cl) (hcell : ∀ y ∈ scope.names, y.2 ≠ .cell) (hkind : scope.kind = .function)
    (hnames : ∀ y ∈ scope.names, y.2 = .local → scope.names.lookup y.1 = some .local) (hcap : CapOk X scope cl Nc cap)
    (hg : ∀ C s0 H0 fp, PG (cxComp X Nc scope cl C s0 H0 fp) tg g) (ht : ∀ C s0 H0 fp, PIfs (cxComp X Nc scope cl C s0 H0 fp) ifs tc) (he : ∀ C s0 H0 fp, PE (cxComp X Nc scope cl C s0 H0 fp) elt te)
    (hsw : swapsWith (.ListComp elt [⟨tg, iter, ifs, 0⟩] scope pos) (some (.Name y py)) spos.line X.env = pure true)
    (hs : ∀ x, foldedSetIterable iter X.env x = pure x := by intro _; rfl) : PS X (.Assign [.Name y py] (.ListComp elt [⟨tg, iter, ifs, 0⟩] scope pos) spos) (tAsg (tComp wi g tc te cap) (gName i)) := by
  intro pins s σ H D I h
  rw [exec_Assign_Name_used _ _ _ _ hsw]
  refine wpAny_bind (wpAny_standAt (wpAny_bind ?_))
  show wpAny _ X.A (do let _ ← comprehension (.ListComp elt [⟨tg, iter, ifs, 0⟩] scope pos) scope X.env _ (newList []) false (eval iter X.env) (some (assign (.Name y py) X.env))) _ _ s
  refine wpAny_bind (wpAny_mono (wpAny_comprehension_free (use := some (assign (.Name y py) X.env)) (Q := fun _ s' => SP X pins D .next s') rfl hs (closG_clos hcl) hkind hnames
    (thn (hi pins s σ H _ I h) fun v s1 h1 => thn h1 fun itv s2 h2 => ?_)) (fun _ s' hq => wpAny_pure (wpAny_pure hq)) fun _ _ e => e)
  obtain ⟨it, fp, tn, J, H2, e, I2, T, st2, f2, read⟩ := h2
  subst e
  refine comp_block (Q := fun x H1 => gName i x σ H1 D.nx) hc hcl hcell hkind hcap hg ht he I2 T st2 f2 read fun C Dd s' H' m I' hn n1 n2 n3 n4 n5 q => ?_
  show wpAny _ X.A (assign (.Name y py) X.env (.ref Dd)) _ _ _
  refine wpAny_assign_Name (store_ok2 I' hN hiN (.inl hy) (v := .ref Dd) rfl (fun s4 I4 ⟨a, sb, ha⟩ => ?_) (.inr hy))
  have hCa : C ≠ a := by
    rcases ha with ha | ha
    · rw [ha]; exact n2
    · exact fun z => n4 _ _ ha z.symm
  refine ⟨m, hn.sameBut sb hCa, fun h' hs' => ⟨_, H', ?_, q⟩⟩
  exact I4.turned (t' := s4.toks) (fun b o hb e => hs'.extBut b o hb e) n1 n2 (.inr n3) n4 n5
end
end L2

namespace SM
open PySem PySem.Spec PyProof.Rows L2
def compL (bd : RG) (tc : RT) (te : RE) (s : Src) : Nat → Nat → LI → HI → List Dt → Option (List Dt × HI)
  | 0, _, _, _, _ => none
  | k + 1, i, l, h, ys => match s.at h i with
    | none => none
    | some none => some (ys, h)
    | some (some d) => (bd d l).bind fun l1 => (tc l1 h).bind fun b => if b.1 = true then (te l1 b.2).bind fun r => if ys.length < sizeLine then compL bd tc te s k (i + 1) l1 r.2 (ys ++ [r.1]) else none
      else compL bd tc te s k (i + 1) l1 b.2 ys
def capI (l : LI) (cap : List (Option Nat)) : LI := cap.map fun o => match o with | some j => (l[j]?).join | none => none
def eComp (g : RI) (bd : RG) (tc : RT) (te : RE) (cap : List (Option Nat)) : RE := fun l h => (g l h).bind fun r => (compL bd tc te r.1 (r.1.fuel r.2) 0 (capI l cap) r.2 []).bind fun q => some (.lst q.1, q.2)
def eCompN (g : RI) (bd : RG) (tc : RT) (te : RE) (cap : List (Option Nat)) : RE := fun l h => (g l h).bind fun r => (compL bd tc te r.1 (r.1.fuel r.2) 0 (capI l cap) r.2 []).bind fun q => some (.ref q.2.length, q.2 ++ [.lst q.1])
def tTrue : RT := fun _ h => some (true, h)
theorem cap_sim {K : PySem.W.Frag} {H : Hp} {ρ : Rg} {l : LI} {σ : L2.St} (L : SimL K H ρ l σ) (cap : List (Option Nat)) : SimL K H ρ (capI l cap) (capOf σ cap) := by
  refine ⟨by simp [capI, capOf], fun i d e => ?_⟩
  unfold capI at e
  unfold capOf
  rw [List.getElem?_map] at e ⊢
  cases q : cap[i]? with
  | none => rw [q] at e; cases e
  | some o =>
    rw [q] at e
    cases o with
    | none => cases e
    | some j =>
      have e3 : (l[j]?).join = some d := by simpa using e
      have e4 : l[j]? = some (some d) := by
        cases z : l[j]? with
        | none => rw [z] at e3; cases e3
        | some y => rw [z] at e3; simpa using e3
      obtain ⟨v, g1, g2⟩ := L.val j d e4
      refine ⟨v, ?_, g2⟩
      simp [g1]
section
variable {X : Cx} {elt iter tg : Expr} {ifs : List Expr} {scope : Scope} {cl : List (Str × Addr)} {pos : Pos} {Nc : List Str} {g : RI} {bd : RG} {tc : RT} {te : RE} {cap : List (Option Nat)}
@[irreducible] def CM (X : Cx) (ifs : List Expr) (f : RT) : Prop := PIfs X ifs (tMT X.K f)
theorem cm_nil : CM X [] tTrue := by
  with_unfolding_all
    exact fun pins s σ H Q I q => by
      obtain ⟨ρ, l, h, b, h', S, L, e, k⟩ := q
      cases e
      exact pifs_nil pins s σ H Q I (k ρ H S (Ext.refl _ _))
theorem cm_one {c : Expr} {f : RT} (h : TM X c f) : CM X [c] f := by
  with_unfolding_all
    exact pifs_one h
end
/-! a list that is being built is hidden -/
section
variable {K : PySem.W.Frag} {H : Hp} {ρ : Rg} {p : Addr} {o : HO} {h : HI}
theorem no_hide {a : Addr} {u : HO} (hp : H p = none) (e : H a = some u) (n : ρ.no a) : (ρ.hide p).no a :=
  ⟨n.1, fun z => by
    rcases List.mem_cons.mp z with z | z
    · rw [z, hp] at e
      cases e
    · exact n.2 z⟩
theorem Ext.unhide {τ : Rg} {H' : Hp} (x : Ext (ρ.hide p) τ H H') : ∃ ρ', τ = ρ'.hide p ∧ Ext ρ ρ' H H' := by
  refine ⟨⟨τ.v, ρ.z⟩, ?_, ⟨x.pre, rfl, x.keep, x.live, x.fz⟩⟩
  have e := x.hid
  cases τ with
  | mk v z =>
    have e' : z = p :: ρ.z := e
    subst e'
    rfl
theorem Ext.updNew {ρ' : Rg} {H' : Hp} (x : Ext ρ ρ' H H') (hp : H p = none) : Ext ρ ρ' H (upd H' p o) :=
  ⟨x.pre, x.hid, fun a u e n => by rw [upd_ne (ne_of_none e hp)]; exact x.keep a u e n, fun a e => by
    by_cases ha : a = p
    · rw [ha]
      exact hp
    · rw [upd_ne ha] at e
      exact x.live a e, fun a q u e => by rw [upd_ne (ne_of_none e hp)]; exact x.fz a q u e⟩
theorem ObAt.same {ρ' : Rg} {H' : Hp} {a : Addr} {u : Ob} (x : Same2 ρ ρ' H H') (e : H' a = H a) (q : ObAt K H ρ a u) : ObAt K H' ρ' a u := by
  cases u with
  | lst xs =>
    obtain ⟨vs, h1, h2⟩ := q
    exact ⟨vs, e.trans h1, RelDs.same x _ h2⟩
  | ins y fs =>
    obtain ⟨C, dx, vs, h0, h1, h2, h3⟩ := q
    exact ⟨C, dx, vs, h0, e.trans h1, h2, RelDs.same x _ h3⟩
  | dk kvs =>
    obtain ⟨vs, h1, h2, h3⟩ := q
    exact ⟨vs, e.trans h1, h2, RelDs.same x _ h3⟩
  | dt kvs =>
    obtain ⟨vs, h1, h2, h3⟩ := q
    exact ⟨vs, e.trans h1, h2, RelDs.same x _ h3⟩
  | df kvs =>
    obtain ⟨o, vs, h1, h2, h3⟩ := q
    exact ⟨o, vs, e.trans h1, h2, RelDs.same x _ h3⟩
theorem SimL.same {ρ' : Rg} {H' : Hp} {l : LI} {σ : L2.St} (x : Same2 ρ ρ' H H') (L : SimL K H ρ l σ) : SimL K H' ρ' l σ :=
  ⟨L.len, fun i d e => let ⟨v, e1, r⟩ := L.val i d e; ⟨v, e1, RelD.same x d r⟩⟩
theorem same_hide (hp : H p = none) : Same2 ρ (ρ.hide p) H (upd H p o) :=
  ⟨fun _ _ e n => no_hide hp e n, fun a u e _ => by rw [upd_ne (ne_of_none e hp)]; exact e, fun _ _ e => e, fun a q u e => by rw [upd_ne (ne_of_none e hp)]; exact e⟩
theorem same_write {o : HO} (nf : Nfz H p) : Same2 (ρ.hide p) (ρ.hide p) H (upd H p o) :=
  ⟨fun _ _ _ n => n, fun a u e n => by rw [upd_ne (fun z => n.2 (by rw [z]; exact List.mem_cons_self))]; exact e, fun _ _ e => e, fun a q u e => by rw [upd_ne (fun z : a = p => nf q u (by rw [← z]; exact e))]; exact e⟩
theorem same_show : Same2 (ρ.hide p) ρ H H := ⟨fun _ _ _ n => ⟨n.1, fun z => n.2 (List.mem_cons_of_mem _ z)⟩, fun _ _ e _ => e, fun _ _ e => e, fun _ _ _ e => e⟩
theorem same_own : Same2 (ρ.hide p) (ρ.add p) H H :=
  ⟨fun a _ _ n => ⟨fun z => (List.mem_append.mp z).elim n.1 fun z => n.2 (by rw [List.mem_singleton.mp z]; exact List.mem_cons_self), fun z => n.2 (List.mem_cons_of_mem _ z)⟩, fun _ _ e _ => e, fun n a e => by
    have e' : ρ.v[n]? = some a := e
    have := (List.getElem?_eq_some_iff.mp e').1
    show (ρ.v ++ [p])[n]? = some a
    rw [List.getElem?_append_left this]
    exact e', fun _ _ _ e => e⟩
theorem SimH.hide {xs : List V} (S : SimH K ρ h H) (hp : H p = none) : SimH K (ρ.hide p) h (upd H p (.lst xs)) :=
  ⟨S.nd, S.len, fun n a u e1 e2 => (S.ob n a u e1 e2).same (same_hide hp) (upd_ne (fun z => (S.out hp).1 (z ▸ List.mem_of_getElem? e1))), fun a ha => by
    rcases List.mem_cons.mp ha with z | z
    · rw [z]
      exact ⟨(S.out hp).1, xs, upd_same⟩
    · obtain ⟨m, u, e⟩ := S.zt a z
      exact ⟨m, u, by rw [upd_ne (ne_of_none e hp)]; exact e⟩⟩
theorem SimH.hwrite {xs : List V} (S : SimH K (ρ.hide p) h H) : SimH K (ρ.hide p) h (upd H p (.lst xs)) :=
  ⟨S.nd, S.len, fun n a u e1 e2 => (S.ob n a u e1 e2).same (same_write (nfz (S.zt p List.mem_cons_self).2.choose_spec)) (upd_ne (fun z => (S.zt p List.mem_cons_self).1 (z ▸ List.mem_of_getElem? e1))), fun a ha => by
    obtain ⟨m, u, e⟩ := S.zt a ha
    by_cases hap : a = p
    · subst hap
      exact ⟨m, xs, upd_same⟩
    · exact ⟨m, u, by rw [upd_ne hap]; exact e⟩⟩
theorem SimH.show (S : SimH K (ρ.hide p) h H) : SimH K ρ h H :=
  ⟨S.nd, S.len, fun n a u e1 e2 => (S.ob n a u e1 e2).same same_show rfl, fun a ha => S.zt a (List.mem_cons_of_mem _ ha)⟩
theorem SimH.show_own (S : SimH K (ρ.hide p) h H) (hz : p ∉ ρ.z) {ds : List Dt} {vs : List V} (e : H p = some (.lst vs)) (R : RelDs K H (ρ.hide p) ds vs) : SimH K (ρ.add p) (h ++ [.lst ds]) H := by
  have nv := (S.zt p List.mem_cons_self).1
  refine ⟨?_, by simp only [Rg.add]; rw [List.length_append, List.length_append, ← S.len]; rfl, fun n a ob e1 e2 => ?_, fun a ha => ?_⟩
  · simp only [Rg.add]
    rw [List.nodup_append]
    refine ⟨S.nd, List.nodup_cons.mpr ⟨by simp, List.nodup_nil⟩, fun a ha b hb => ?_⟩
    rw [List.mem_singleton.mp hb]
    intro z
    exact nv (z ▸ ha)
  · simp only [Rg.add] at e1
    have hl : ρ.v.length = h.length := S.len
    by_cases hn : n < h.length
    · rw [List.getElem?_append_left hn] at e2
      rw [List.getElem?_append_left (by rw [hl]; exact hn)] at e1
      exact (S.ob n a ob e1 e2).same same_own rfl
    · have hn' : h.length ≤ n := Nat.not_lt.mp hn
      rw [List.getElem?_append_right hn'] at e2
      rw [List.getElem?_append_right (by rw [hl]; exact hn'), hl] at e1
      cases hk : n - h.length with
      | zero =>
        rw [hk] at e1 e2
        simp at e1 e2
        subst e1 e2
        exact ⟨vs, e, RelDs.same same_own _ R⟩
      | succ k =>
        rw [hk] at e2
        simp at e2
  · obtain ⟨n, u, e'⟩ := S.zt a (List.mem_cons_of_mem _ ha)
    refine ⟨fun hm => ?_, u, e'⟩
    rcases List.mem_append.mp hm with hm | hm
    · exact n hm
    · exact hz ((List.mem_singleton.mp hm) ▸ ha)
end
section
variable {X : Cx} {elt iter tg : Expr} {ifs : List Expr} {scope : Scope} {cl : List (Str × Addr)} {pos : Pos} {Nc : List Str} {g : RI} {bd : RG} {tc : RT} {te : RE} {cap : List (Option Nat)}
theorem comp_read {σ : L2.St} {H : Hp} {Q : VK} (own : Bool) {d : Dt} {h' : HI} {ρ : Rg} {l : LI} {h : HI} (S : SimH X.K ρ h H) (L : SimL X.K H ρ l σ)
    (e : (if own = true then eCompN g bd tc te cap else eComp g bd tc te cap) l h = some (d, h')) (k : Out X.K ρ H d h' Q) : tComp (iM X.K g) (gM X.K bd) (tMT X.K tc) (tM X.K te) cap σ H Q := by
  have e0 : ∃ s1 h1, g l h = some (s1, h1) ∧ ∃ ys h2, compL bd tc te s1 (s1.fuel h1) 0 (capI l cap) h1 [] = some (ys, h2) ∧ h' = (if own = true then h2 ++ [.lst ys] else h2) ∧ d = (if own = true then .ref h2.length else .lst ys) := by
    cases own with
    | true =>
      rw [if_pos rfl] at e
      obtain ⟨⟨s1, h1⟩, e1, e⟩ := bindE e
      obtain ⟨⟨ys, h2⟩, e2, e⟩ := bindE e
      cases e
      exact ⟨s1, h1, e1, ys, h2, e2, rfl, rfl⟩
    | false =>
      rw [if_neg Bool.false_ne_true] at e
      obtain ⟨⟨s1, h1⟩, e1, e⟩ := bindE e
      obtain ⟨⟨ys, h2⟩, e2, e⟩ := bindE e
      cases e
      exact ⟨s1, h1, e1, ys, h2, e2, rfl, rfl⟩
  obtain ⟨s1, h1, e1, zs, h2, e2, eh, ed⟩ := e0
  refine ⟨ρ, l, h, s1, h1, S, L, e1, fun ρ1 J H1 ok S1 E1 D hD => ?_⟩
  have hDz : D ∉ ρ1.z := (S1.out hD).2
  refine ⟨fun i m σ' ys H' => ∃ ρ' l' h' ds, SimH X.K (ρ'.hide D) h' H' ∧ SimL X.K H' (ρ'.hide D) l' σ' ∧ Ext ρ1 ρ' H1 H' ∧ H' D = some (.lst ys) ∧ RelDs X.K H' (ρ'.hide D) ds ys ∧ compL bd tc te s1 m i l' h' ds = some (zs, h2), ?_, ?_⟩
  · exact ⟨_, ρ1, _, h1, [], S1.hide hD, cap_sim (SimL.same (same_hide hD) (L.ext E1)) cap, Ext.fresh hD, upd_same, .nil, e2⟩
  · rintro i m σ' ys H' ⟨ρ', l', h3, ds, S', L', E', hD', R', e'⟩
    cases m with
    | zero => simp only [compL] at e'; cases e'
    | succ m =>
      simp only [compL] at e'
      have sm : Same2 ρ1 (ρ'.hide D) H1 H' := ⟨fun a u z n => ⟨(E'.notin z n).1, fun w => by
          rcases List.mem_cons.mp w with w | w
          · rw [w, hD] at z
            cases z
          · exact (E'.notin z n).2 w⟩, fun a u z n => E'.keep a u z n.1, fun n a z => E'.get z, E'.fz⟩
      have ok' := ok H' (ρ'.hide D) h3 sm S' i
      cases q : s1.at h3 i with
      | none => rw [q] at e'; cases e'
      | some o =>
        rw [q] at e' ok'
        cases o with
        | none =>
          cases e'
          refine .inl ⟨ok', ?_⟩
          have nD : ρ'.no D := ⟨(S'.zt D List.mem_cons_self).1, by rw [E'.hid]; exact hDz⟩
          cases own with
          | false =>
            rw [if_neg Bool.false_ne_true] at eh ed
            subst eh ed
            exact k ρ' _ H' (rel_lst.mpr ⟨D, ys, rfl, .inl ⟨nD, .inl hD'⟩, RelDs.same same_show _ R'⟩) S'.show (E1.trans E')
          | true =>
            rw [if_pos rfl] at eh ed
            subst eh ed
            refine k (ρ'.add D) _ H' (rel_ref.mpr ⟨D, rfl, ?_⟩) (S'.show_own nD.2 hD' R') (E1.trans ⟨?_, E'.hid, E'.keep, E'.live, E'.fz⟩)
            · have hl : ρ'.v.length = h2.length := S'.len
              show (ρ'.v ++ [D])[h2.length]? = some D
              rw [← hl, List.getElem?_append_right (Nat.le_refl _), Nat.sub_self]
              rfl
            · obtain ⟨x, q1, q2⟩ := E'.pre
              refine ⟨x ++ [D], by show ρ'.v ++ [D] = _; rw [q1, List.append_assoc], fun a ha => ?_⟩
              rcases List.mem_append.mp ha with ha | ha
              · exact q2 a ha
              · rw [List.mem_singleton.mp ha]
                exact hD
        | some d0 =>
          dsimp only at e'
          obtain ⟨l1, b1, e'⟩ := bindE e'
          obtain ⟨⟨b, h4⟩, b2, e'⟩ := bindE e'
          refine .inr ⟨ok'.1, fun v H3 y => ?_⟩
          obtain ⟨R3, E3, S3⟩ := ok'.2 v H3 y
          have nDv := (S'.zt D List.mem_cons_self).1
          refine ⟨ρ'.hide D, l', h3, d0, l1, S3, L'.ext E3, R3, b1, fun σ4 L4 => ⟨ρ'.hide D, l1, h3, b, h4, S3, L4, b2, fun ρ5 H5 S5 E5 => ?_⟩⟩
          cases b with
          | true =>
            dsimp only at e'
            rw [if_pos rfl] at e'
            obtain ⟨⟨d5, h5⟩, b3, e'⟩ := bindE e'
            by_cases hz : ds.length < sizeLine
            · rw [if_pos hz] at e'
              refine iteT ⟨ρ5, l1, h4, d5, h5, S5, L4.ext E5, b3, fun ρ6 v6 H6 R6 S6 E6 => ⟨?_, by rw [R'.length]; exact hz, m, Nat.lt_succ_self _, ?_⟩⟩
              · exact (E3.trans (E5.trans E6)).keep D _ hD' nDv
              · obtain ⟨ρ7, rfl, E7⟩ := (E3.trans (E5.trans E6)).unhide
                refine ⟨ρ7, l1, h5, ds ++ [d5], S6.hwrite, SimL.same (same_write (nfz (S6.zt D List.mem_cons_self).2.choose_spec)) (L4.ext (E5.trans E6)), (E'.trans E7).updNew hD, upd_same, ?_, e'⟩
                exact RelDs.same (same_write (nfz (S6.zt D List.mem_cons_self).2.choose_spec)) _ ((R'.ext (E3.trans (E5.trans E6))).append (.cons R6 .nil))
            · rw [if_neg hz] at e'
              cases e'
          | false =>
            dsimp only at e'
            rw [if_neg Bool.false_ne_true] at e'
            refine iteF ⟨m, Nat.lt_succ_self _, ?_⟩
            obtain ⟨ρ7, rfl, E7⟩ := (E3.trans E5).unhide
            exact ⟨ρ7, l1, h4, ds, S5, L4.ext E5, E'.trans E7, (E3.trans E5).keep D _ hD' nDv, R'.ext (E3.trans E5), e'⟩
theorem em_comp (hc : X.calm = true) (hi : IM X tg iter g) (hcell : ∀ y ∈ scope.names, y.2 ≠ .cell) (hkind : scope.kind = .function)
    (hnames : ∀ y ∈ scope.names, y.2 = .local → scope.names.lookup y.1 = some .local) (hcl : closG X.env.cells scope.names [] = some cl) (hcap : CapOk X scope cl Nc cap)
    (hg : ∀ C s0 H0 fp, GM (cxComp X Nc scope cl C s0 H0 fp) tg bd) (ht : ∀ C s0 H0 fp, CM (cxComp X Nc scope cl C s0 H0 fp) ifs tc) (he : ∀ C s0 H0 fp, EM (cxComp X Nc scope cl C s0 H0 fp) elt te)
    (hs : ∀ x, foldedSetIterable iter X.env x = pure x := by intro _; rfl) : EM X (.ListComp elt [⟨tg, iter, ifs, 0⟩] scope pos) (eComp g bd tc te cap) := by
  with_unfolding_all
    exact PE.imp (pe_comp (g := gM X.K bd) (tc := tMT X.K tc) (te := tM X.K te) hc hi hcl hcell hkind hnames hcap hg ht he hs) fun σ H Q ⟨ρ, l, h, d, h', S, L, e, k⟩ => comp_read (X := X) false S L e k
theorem zm_setComp (i : Nat) {y : Str} {py spos : Pos} (hc : X.calm = true) (hN : X.N.Nodup) (hi : IM X tg iter g) (hcell : ∀ y ∈ scope.names, y.2 ≠ .cell) (hkind : scope.kind = .function)
    (hnames : ∀ y ∈ scope.names, y.2 = .local → scope.names.lookup y.1 = some .local) (hcl : closG X.env.cells scope.names [] = some cl) (hcap : CapOk X scope cl Nc cap)
    (hg : ∀ C s0 H0 fp, GM (cxComp X Nc scope cl C s0 H0 fp) tg bd) (ht : ∀ C s0 H0 fp, CM (cxComp X Nc scope cl C s0 H0 fp) ifs tc) (he : ∀ C s0 H0 fp, EM (cxComp X Nc scope cl C s0 H0 fp) elt te)
    (hsw : swapsWith (.ListComp elt [⟨tg, iter, ifs, 0⟩] scope pos) (some (.Name y py)) spos.line X.env = pure true)
    (hiN : X.N[i]? = some y := by rfl) (hy : X.env.scope.names.lookup y = some .local := by rfl) (hs : ∀ x, foldedSetIterable iter X.env x = pure x := by intro _; rfl) :
    ZM X (.Assign [.Name y py] (.ListComp elt [⟨tg, iter, ifs, 0⟩] scope pos) spos) (sSet i (eComp g bd tc te cap)) := by
  with_unfolding_all
    exact PS.imp (ps_setComp (g := gM X.K bd) (tc := tMT X.K tc) (te := tM X.K te) hc hN hiN hy hi hcl hcell hkind hnames hcap hg ht he hsw hs) fun D σ H ⟨ρ, l, h, r, S, L, e, k⟩ => by
        obtain ⟨⟨d1, h1⟩, e1, e⟩ := bindE e
        cases e
        exact comp_read (X := X) false S L e1 fun ρ1 v H1 R1 S1 E1 => k ρ1 _ H1 S1 ((L.ext E1).set i R1) E1
theorem zm_setCompN (i : Nat) {y : Str} {py spos : Pos} (hc : X.calm = true) (hN : X.N.Nodup) (hi : IM X tg iter g) (hcell : ∀ y ∈ scope.names, y.2 ≠ .cell) (hkind : scope.kind = .function)
    (hnames : ∀ y ∈ scope.names, y.2 = .local → scope.names.lookup y.1 = some .local) (hcl : closG X.env.cells scope.names [] = some cl) (hcap : CapOk X scope cl Nc cap)
    (hg : ∀ C s0 H0 fp, GM (cxComp X Nc scope cl C s0 H0 fp) tg bd) (ht : ∀ C s0 H0 fp, CM (cxComp X Nc scope cl C s0 H0 fp) ifs tc) (he : ∀ C s0 H0 fp, EM (cxComp X Nc scope cl C s0 H0 fp) elt te)
    (hsw : swapsWith (.ListComp elt [⟨tg, iter, ifs, 0⟩] scope pos) (some (.Name y py)) spos.line X.env = pure true)
    (hiN : X.N[i]? = some y := by rfl) (hy : X.env.scope.names.lookup y = some .local := by rfl) (hs : ∀ x, foldedSetIterable iter X.env x = pure x := by intro _; rfl) :
    ZM X (.Assign [.Name y py] (.ListComp elt [⟨tg, iter, ifs, 0⟩] scope pos) spos) (sSet i (eCompN g bd tc te cap)) := by
  with_unfolding_all
    exact PS.imp (ps_setComp (g := gM X.K bd) (tc := tMT X.K tc) (te := tM X.K te) hc hN hiN hy hi hcl hcell hkind hnames hcap hg ht he hsw hs) fun D σ H ⟨ρ, l, h, r, S, L, e, k⟩ => by
        obtain ⟨⟨d1, h1⟩, e1, e⟩ := bindE e
        cases e
        exact comp_read (X := X) true S L e1 fun ρ1 v H1 R1 S1 E1 => k ρ1 _ H1 S1 ((L.ext E1).set i R1) E1
end
end SM
namespace L2
open PySem PySem.Spec PyProof.Rows
/-! comprehensions one variable of which is captured within -/
structure OneCell (names : List (Str × NameKind)) (x : Str) : Prop where
  fr : ∀ n cl, cellsFrom n names cl = (x, n) :: cl
  hp : ∀ h : Heap, pushCells h names = h.push { cls := .type "cell", data := .cell none }
theorem wpAny_newEnvC {M : Model} {A : Around} {E : Value → Shared → Prop} {s : Shared} {scope : Scope} {globals : Addr} {cl : List (Str × Addr)} {qual : Str} {env : Env} {x : Str} {Q : Env → Shared → Prop} (one : OneCell scope.names x)
    (h : Q (newEnv scope s.heap.objs.size globals ((x, s.heap.objs.size + 1) :: cl) qual none .none (some env) builtinsNs) { s with heap := (s.heap.push { cls := .type "dict", data := .dict #[] }).push { cls := .type "cell", data := .cell none } }) :
    wpAny M A (newFunctionEnv scope globals cl [] qual none .none (some env)) Q E s := by
  simp only [newFunctionEnv, Option.isSome_some, if_true]
  refine wpAny_bind (wpAny_alloc ?_)
  refine wpAny_bind (wpAny_layCells _ (fun name kind cells => by cases hkc : kind == NameKind.cell <;> simp [hkc]) _ _ _ _ ?_)
  rw [one.fr, one.hp]
  rw [show ({ s with heap := s.heap.push { cls := .type "dict", data := .dict #[] } } : Shared).heap.objs.size = s.heap.objs.size + 1 from Heap.size_push ..]
  rw [List.forIn_nil]
  exact wpAny_bind (wpAny_pure (wpAny_pure h))
def compEnvX (scope : Scope) (cl : List (Str × Addr)) (C : Addr) (x : Str) (env : Env) : Env :=
  { scope := relabel scope env, locals := C, globals := env.globals, cells := (x, C + 1) :: cl, qual := env.qual, func := none, code := env.code, frame := env.frame, builtins := env.builtins }
def cxCompX (X : Cx) (Nc : List Str) (scope : Scope) (cl : List (Str × Addr)) (C : Addr) (x : Str) (s0 : Shared) (H0 : Hp) (fp : List Addr) : Cx :=
  { X with N := Nc, s₀ := s0, H₀ := H0, env := compEnvX scope cl C x X.env, outer := X.stack, stack := X.stack, ex := fp, fn := fun y => y == x, pn := [], xe := fun _ _ => False }
theorem relabel_free1 {env : Env} {x0 : Str} : ∀ {names : List (Str × NameKind)} {x : Str}, (∀ y ∈ names, y.2 = .cell → y.1 = x0) → x ≠ x0 →
    ((names.map fun (n, k) => if (k == NameKind.free && env.scope.kind == .function && env.kindOf n == some .cell) then (n, NameKind.cell) else (n, k)).lookup x = some .cell ∨
     (names.map fun (n, k) => if (k == NameKind.free && env.scope.kind == .function && env.kindOf n == some .cell) then (n, NameKind.cell) else (n, k)).lookup x = some .free) → (x, NameKind.free) ∈ names
  | [], _, _, _, h => by simp at h
  | (n, k) :: r, x, hc, hx0, h => by
    have ih := @relabel_free1 env x0 r x (fun y hy => hc y (List.mem_cons_of_mem _ hy)) hx0
    rw [List.map_cons] at h
    cases hx : x == n with
    | true =>
      have ex := eq_of_beq hx
      subst ex
      have hk : k ≠ .cell := fun z => hx0 (hc (x, k) List.mem_cons_self z)
      by_cases hf : k = .free
      · subst hf
        exact List.mem_cons_self
      · have hb : (k == NameKind.free) = false := by simpa using hf
        simp only [hb, Bool.false_and, Bool.false_eq_true, if_false, List.lookup_cons, beq_self_eq_true] at h
        rcases h with h | h
        · exact absurd (Option.some.inj h) hk
        · exact absurd (Option.some.inj h) hf
    | false =>
      refine List.mem_cons_of_mem _ (ih ?_)
      by_cases hq : (k == NameKind.free && env.scope.kind == .function && env.kindOf n == some .cell) = true
      · simp only [hq, if_true, List.lookup_cons, hx] at h
        exact h
      · rw [Bool.not_eq_true] at hq
        simp only [hq, Bool.false_eq_true, if_false, List.lookup_cons, hx] at h
        exact h
section
variable {X : Cx} {elt iter tg : Expr} {ifs : List Expr} {scope : Scope} {cl : List (Str × Addr)} {pos : Pos} {Nc : List Str} {wi : TI} {g : TG} {tc : TT} {te : TE} {cap : List (Option Nat)} {x0 : Str}
theorem comp_blockX {pins : List (Addr × Obj)} {σ : St} {H : Hp} {s : Shared} {it : Addr} {fp : List Addr} {tn : Nat → Heap → Prop} {J : It} {Q : VK} {RR : Value → Addr → Result → Shared → Prop} {E : Value → Shared → Prop}
    (hc : X.calm = true) (hcl : closG X.env.cells scope.names [] = some cl) (one : OneCell scope.names x0) (hone : ∀ y ∈ scope.names, y.2 = .cell → y.1 = x0) (hcl0 : cl.lookup x0 = none) (hkind : scope.kind = .function) (hcap : CapOk X scope cl Nc cap) (hcapx : ∀ (i j : Nat), Nc[i]? = some x0 → cap[i]? = some (some j) → False)
    (hg : ∀ C s0 H0 fp, PG (cxCompX X Nc scope cl C x0 s0 H0 fp) tg g) (ht : ∀ C s0 H0 fp, PIfs (cxCompX X Nc scope cl C x0 s0 H0 fp) ifs tc) (he : ∀ C s0 H0 fp, PE (cxCompX X Nc scope cl C x0 s0 H0 fp) elt te)
    (I : Inv X pins σ H s) (T : Turn X.prog X.w X.K tg J fp it tn) (st : tn 0 s.heap) (hf : ∀ b ∈ fp, FpOk X pins H b)
    (read : ∀ D, H D = none → ∃ W : Nat → Nat → St → List V → Hp → Prop,
      (∃ m, W 0 m (capOf σ cap) [] (upd H D (.lst []))) ∧ ∀ i m σ' ys H', W i m σ' ys H' →
        (J.stop i H' ∧ Q (.ref D) H') ∨ (J.go i H' ∧ ∀ x H2, J.yld i H' x H2 → g x σ' H2 fun σ2 H3 => tc σ2 H3 fun b H4 => if b = true then te σ2 H4 fun y H5 =>
          H5 D = some (.lst ys) ∧ ys.length < sizeLine ∧ ∃ m', m' < m ∧ W (i + 1) m' σ2 (ys ++ [y]) (upd H5 D (.lst (ys ++ [y]))) else ∃ m', m' < m ∧ W (i + 1) m' σ2 ys H4))
    (hRR : ∀ (C D : Addr) (s' : Shared) (H' : Hp) m, Inv X pins σ H' s' → s'.heap.Ns C m → H' C = none → C ≠ X.env.locals → X.s₀.heap.objs.size ≤ C → (∀ x c, X.env.cells.lookup x = some c → c ≠ C) → (∀ p ∈ X.pn ++ pins, p.1 ≠ C) → Q (.ref D) H' → RR (.ref D) C (.ok .next) s') :
    wpAny (model X.prog X.w) X.A (newList []) (fun acc s₃ => wpAny (model X.prog X.w) X.A (newFunctionEnv scope X.env.globals cl [] X.env.qual none .none (some X.env)) (fun cenv s₄ =>
      codeAny (model X.prog X.w) X.A (.compStart (.ListComp elt [⟨tg, iter, ifs, 0⟩] scope pos) 0 (.ref it) acc { cenv with scope := relabel scope X.env }) (RR acc cenv.locals) s₄) E s₃) E s := by
  obtain ⟨sub, _, hasC⟩ := closG_sub hcl (fun _ _ e => by simp at e)
  refine wpAny_newObj_type (wpAny_newEnvC one ?_)
  have hD := I.fresh
  have I3 : Inv X pins σ (upd H s.heap.objs.size (.lst [])) { s with heap := s.heap.push { cls := .type "list", data := .seq ([] : List Value).toArray } } := I.lnew (ys := []) (its := []) (t' := s.toks) .nil (Nat.zero_le _)
  generalize hs3 : ({ s with heap := s.heap.push { cls := .type "list", data := .seq ([] : List Value).toArray } } : Shared) = s3 at I3
  generalize hH3 : upd H s.heap.objs.size (.lst []) = H3 at I3
  have hh3 : s3.heap = s.heap.push { cls := .type "list", dict := none, data := .seq ([] : List Value).toArray } := by rw [← hs3]
  have hs3' : ({ s with heap := s.heap.push { cls := .type "list", dict := none, data := .seq ([] : List Value).toArray } } : Shared) = s3 := hs3
  obtain ⟨h₁, hh₁⟩ : ∃ h₁, h₁ = (s3.heap.push { cls := .type "dict", data := .dict #[] }).push { cls := .type "cell", data := .cell none } := ⟨_, rfl⟩
  rw [← hh₁]
  have hns₁ : h₁.Ns s3.heap.objs.size (fun _ => none) := by rw [hh₁]; exact (Heap.Ns.new s3.heap (.type "dict")).keeps fun b o e => Heap.get?_push_of_some _ e
  have hcel : h₁.IsCell (s3.heap.objs.size + 1) none := by
    rw [hh₁]
    refine ⟨{ cls := .type "cell", data := .cell none }, ?_, rfl⟩
    rw [show s3.heap.objs.size + 1 = (s3.heap.push { cls := .type "dict", data := .dict #[] }).objs.size from (Heap.size_push ..).symm]
    exact Heap.get?_push_size _ rfl
  -- C, the block's own names
  have hCn : H3 s3.heap.objs.size = none := I3.fresh
  have hCn1 : H3 (s3.heap.objs.size + 1) = none := I3.hok.fresh (Nat.le_succ _)
  have hCL : s3.heap.objs.size ≠ X.env.locals := fun z => by
    have := I3.lt
    rw [← z] at this
    exact Nat.lt_irrefl _ this
  have hC0 : X.s₀.heap.objs.size ≤ s3.heap.objs.size := I3.sz
  have cellLt : ∀ x c, X.env.cells.lookup x = some c → c < s3.heap.objs.size := fun x c e => by
    obtain ⟨v, o, ho, _⟩ := I3.cell x c e
    exact Heap.lt_size ho
  have hCc : ∀ x c, X.env.cells.lookup x = some c → c ≠ s3.heap.objs.size := fun x c e z => by
    have := cellLt x c e
    rw [z] at this
    exact Nat.lt_irrefl _ this
  have hCp : ∀ p ∈ X.pn ++ pins, p.1 ≠ s3.heap.objs.size := fun p hp z => by
    have := Heap.lt_size (I3.pin p hp).1
    rw [z] at this
    exact Nat.lt_irrefl _ this
  have fpLt : ∀ b ∈ fp, b < s.heap.objs.size := fun b hb => by
    obtain ⟨o, e, _⟩ := T.obj 0 _ st b hb
    exact Heap.lt_size e
  have sz3 : s3.heap.objs.size = s.heap.objs.size + 1 := by rw [hh3, Heap.size_push]
  have old : ∀ b o, s3.heap.get? b = some o → h₁.get? b = some o := fun b o e => by rw [hh₁]; exact Heap.get?_push_of_some _ (Heap.get?_push_of_some _ e)
  have old0 : ∀ b o, s.heap.get? b = some o → s3.heap.get? b = some o := fun b o e => by
    rw [hh3]
    exact Heap.get?_push_of_some _ e
  have fpH : ∀ b ∈ fp, H3 b = none := fun b hb => by
    rw [← hH3, upd_ne (Nat.ne_of_lt (fpLt b hb))]
    exact (hf b hb).1
  -- the cells
  have lk : ∀ x c, ((x0, s3.heap.objs.size + 1) :: cl).lookup x = some c → (x = x0 ∧ c = s3.heap.objs.size + 1) ∨ (x ≠ x0 ∧ cl.lookup x = some c) := fun x c e => by
    rw [List.lookup_cons] at e
    cases hx : x == x0 with
    | true => rw [hx] at e; cases e; exact .inl ⟨eq_of_beq hx, rfl⟩
    | false =>
      rw [hx] at e
      refine .inr ⟨fun z => ?_, e⟩
      rw [z, beq_self_eq_true] at hx
      cases hx
  have clLt : ∀ x c, cl.lookup x = some c → c ≠ s3.heap.objs.size + 1 := fun x c e z => by
    have := cellLt x c (sub x c e)
    rw [z] at this
    exact absurd this (Nat.not_lt.mpr (Nat.le_succ _))
  -- the context is well made
  have okY : (cxCompX X Nc scope cl s3.heap.objs.size x0 s3 H3 fp).Ok := by
    refine ⟨I3.ok.mod, hkind, I3.ok.glob, I3.ok.blt, Nat.le_refl _, fun x y c e1 e2 => ?_, fun x hx => ?_, fun x c e1 e2 => ?_, I3.ok.hd, I3.ok.frames, .inl rfl, fun b hb => ⟨?_, fun x c e => ?_⟩, fun b o e => I3.bs b o e, ?_, fun b o e => ?_, fun b hb => ?_, I3.stack, I3.stkFree⟩
    · rcases lk x c e1 with ⟨p1, p2⟩ | ⟨p1, p2⟩ <;> rcases lk y c e2 with ⟨q1, q2⟩ | ⟨q1, q2⟩
      · rw [p1, q1]
      · exact absurd p2 (clLt y c q2)
      · exact absurd q2 (clLt x c p2)
      · exact I3.ok.inj x y c (sub x c p2) (sub y c q2)
    · by_cases hx0 : x = x0
      · exact ⟨s3.heap.objs.size + 1, by rw [hx0]; show ((x0, s3.heap.objs.size + 1) :: cl).lookup x0 = _; rw [List.lookup_cons, beq_self_eq_true]⟩
      · obtain ⟨c, e⟩ := hasC x (relabel_free1 hone hx0 hx)
        refine ⟨c, ?_⟩
        show ((x0, s3.heap.objs.size + 1) :: cl).lookup x = _
        rw [List.lookup_cons, show (x == x0) = false from beq_eq_false_iff_ne.mpr hx0]
        exact e
    · rcases lk x c e2 with ⟨p1, p2⟩ | ⟨p1, p2⟩
      · rw [p2]; exact Nat.le_succ _
      · exact absurd (eq_of_beq e1) p1
    · intro z
      have := fpLt b hb
      have z' : b = s3.heap.objs.size := z
      rw [z', sz3] at this
      exact absurd this (Nat.not_lt.mpr (Nat.le_succ _))
    · rcases lk x c e with ⟨p1, p2⟩ | ⟨p1, p2⟩
      · intro z
        have := fpLt b hb
        rw [← z, p2, sz3] at this
        exact absurd this (Nat.not_lt.mpr (Nat.le_succ_of_le (Nat.le_succ _)))
      · exact (hf b hb).2.2.2.2.1 x c (sub x c p2)
    · exact Nat.le_trans I3.ok.bsz I3.sz
    · intro hb
      have h1 := (hf b hb).2.2.2.1
      have h2 := I3.ok.bs b o e
      rcases h1 with z | z
      · exact I3.ok.noex b o e z
      · exact absurd (Nat.lt_of_lt_of_le (Heap.lt_size h2.1) z) (Nat.lt_irrefl _)
    · intro z
      rcases List.mem_cons.mp (I3.stkSub b z) with z | z
      · exact (hf b hb).2.1 z
      · exact (hf b hb).2.2.1 z
  have IY : Inv (cxCompX X Nc scope cl s3.heap.objs.size x0 s3 H3 fp) [] (capOf σ cap) H3 { s3 with heap := h₁ } := by
    refine ⟨okY, rfl, I3.bare, Un.kept old, ⟨_, hns₁, fun i x v e1 e2 _ => ?_⟩, fun x c e => ?_, hCn, fun x c e => ?_, fun p hp => absurd hp (by simp [cxCompX]), I3.hok.kept old, ?_⟩
    · have e2' : (capOf σ cap)[i]? = some (some v) := e2
      unfold capOf at e2'
      rw [List.getElem?_map] at e2'
      cases q : cap[i]? with
      | none => rw [q] at e2'; cases e2'
      | some o =>
        rw [q] at e2'
        cases o with
        | none => cases e2'
        | some j =>
          have e3 : (σ[j]?).join = some v := by simpa using e2'
          have e4 : σ[j]? = some (some v) := by
            cases z : σ[j]? with
            | none => rw [z] at e3; cases e3
            | some y => rw [z] at e3; simpa using e3
          have hxx : x ≠ x0 := fun z => hcapx i j (z ▸ e1) q
          obtain ⟨n1, n2, n3, n4⟩ := hcap.get e1 q
          obtain ⟨m, _, hl⟩ := I3.loc
          have hv : Vis X.env.scope x := .inr n2
          obtain ⟨u, r, lk'⟩ := hl j x v n1 e4 hv
          refine ⟨u, r, .inr ⟨n3, ?_⟩⟩
          rcases lk' with ⟨k, _⟩ | ⟨_, c, ec, ob, z1, z2⟩
          · rcases n2 with n2 | n2 <;> rw [k] at n2 <;> cases n2
          · refine ⟨c, ?_, ob, old c ob z1, z2⟩
            show ((x0, s3.heap.objs.size + 1) :: cl).lookup x = _
            rw [List.lookup_cons, show (x == x0) = false from beq_eq_false_iff_ne.mpr hxx]
            exact n4.trans ec
    · rcases lk x c e with ⟨p1, p2⟩ | ⟨p1, p2⟩
      · exact ⟨none, p2 ▸ hcel⟩
      · obtain ⟨v, o, z1, z2⟩ := I3.cell x c (sub x c p2)
        exact ⟨v, o, old c o z1, z2⟩
    · rcases lk x c e with ⟨p1, p2⟩ | ⟨p1, p2⟩
      · rw [p2]; exact hCn1
      · exact I3.freeC x c (sub x c p2)
    · show (capOf σ cap).length = Nc.length
      unfold capOf
      rw [List.length_map]
      exact hcap.length
  obtain ⟨W, ⟨m0, w0⟩, turn⟩ := read s.heap.objs.size hD
  rw [hH3] at w0
  have st1 : tn 0 h₁ := T.keep 0 _ _ st fun b _ o e => old b o (old0 b o e)
  have fpY : ∀ {H' : Hp}, (∀ b ∈ fp, H' b = none) → ∀ b ∈ fp, FpOk (cxCompX X Nc scope cl s3.heap.objs.size x0 s3 H3 fp) [] H' b := fun hn b hb =>
    ⟨hn b hb, (okY.exf b hb).1, okY.exfs b hb, .inl hb, fun x c e => (okY.exf b hb).2 x c e, fun p hp => absurd hp (by simp [cxCompX])⟩
  have loop : codeAny (model X.prog X.w) X.A (.compLoop (.ListComp elt [⟨tg, iter, ifs, 0⟩] scope pos) 0 (.ref it) (.ref s.heap.objs.size) (compEnvX scope cl s3.heap.objs.size x0 X.env)) (RR (.ref s.heap.objs.size) s3.heap.objs.size)
      { s3 with heap := h₁ } := by
    refine compLoop_any (fun n s' => ∃ i σ' ys H', Inv (cxCompX X Nc scope cl s3.heap.objs.size x0 s3 H3 fp) [] σ' H' s' ∧ tn i s'.heap ∧ (∀ b ∈ fp, H' b = none) ∧ W i n σ' ys H') ?_ m0 ⟨0, _, [], H3, IY, st1, fpH, w0⟩
    rintro n s4 ⟨i, σ4, ys, H4, I4, st4, fr4, w4⟩
    rcases turn i n σ4 ys H4 w4 with ⟨stop, qn⟩ | ⟨go, step⟩
    · refine thn (T.done (cxCompX X Nc scope cl s3.heap.objs.size x0 s3 H3 fp) rfl rfl rfl hc i [] s4 σ4 H4 _ I4 (fpY fr4) st4 stop) fun r s5 ⟨hr, I5⟩ => ?_
      subst hr
      have I6 : Inv X pins σ H4 s5 := I3.call' (ch := fp) I5.os I5.base I5.hok I5.bare fun b hb => ⟨(hf b hb).2.2.2.1, (hf b hb).2.1, (hf b hb).2.2.2.2.1, (hf b hb).2.2.2.2.2⟩
      obtain ⟨m, hn, _⟩ := I5.loc
      exact hRR _ _ s5 H4 m I6 hn I5.free hCL hC0 hCc hCp qn
    · refine thn (T.item (cxCompX X Nc scope cl s3.heap.objs.size x0 s3 H3 fp) rfl rfl rfl hc i [] s4 σ4 H4 _ I4 (fpY fr4) st4 go) fun r s5 ⟨u, hr, h5⟩ => ?_
      subst hr
      refine thn h5 fun _ s6 ⟨x, H6, I6, r6, y6, st6, fr6⟩ => ?_
      have I6' := I6.pinned (fpY fr6) (T.obj _ _ st6)
      refine thn (hg _ _ _ _ _ s6 σ4 H6 x u _ I6' r6 (step x H6 y6)) fun _ s7 ⟨σ7, H7, I7, q7⟩ => ?_
      refine thn (ht _ _ _ _ _ s7 σ7 H7 _ I7 q7) fun b s8 ⟨H8, I8, q8⟩ => ?_
      have again : ∀ {σ9 : St} {H9 : Hp} {s9 : Shared} {ys9 : List V}, Inv (cxCompX X Nc scope cl s3.heap.objs.size x0 s3 H3 fp) ([] ++ pinsAt fp s6.heap) σ9 H9 s9 → (∃ m', m' < n ∧ W (i + 1) m' σ9 ys9 H9) →
          ∃ m', m' < n ∧ ∃ i σ' ys H', Inv (cxCompX X Nc scope cl s3.heap.objs.size x0 s3 H3 fp) [] σ' H' s9 ∧ tn i s9.heap ∧ (∀ b ∈ fp, H' b = none) ∧ W i m' σ' ys H' := fun {σ9 H9 s9 ys9} I9 ⟨m', hm, w9⟩ => by
        refine ⟨m', hm, i + 1, σ9, ys9, H9, I9.unpinned, T.keep _ _ _ st6 fun b hb o e => (I9.pin (b, o) (List.mem_append_right _ (List.mem_append_right _ (mem_pinsAt hb e)))).1, fun b hb => ?_, w9⟩
        obtain ⟨o, e, d⟩ := T.obj _ _ st6 b hb
        exact (I9.pin (b, o) (List.mem_append_right _ (List.mem_append_right _ (mem_pinsAt hb e)))).2.1
      cases b with
      | false =>
        rw [if_neg Bool.false_ne_true] at q8 ⊢
        exact again I8 q8
      | true =>
        rw [if_pos rfl] at q8 ⊢
        refine thn (he _ _ _ _ _ s8 σ7 H8 _ I8 q8) fun y s9 ⟨v, H9, I9, r9, d9, z9, w9⟩ => ?_
        refine thn (mt_append (X := cxCompX X Nc scope cl s3.heap.objs.size x0 s3 H3 fp) _ s9 σ7 H9 (.ref s.heap.objs.size) [v] (.ref s.heap.objs.size) [y] (fun _ H' => H' = upd H9 s.heap.objs.size (.lst (ys ++ [v]))) I9 rfl (.cons r9 .nil) ⟨_, ys, v, rfl, rfl, d9, z9, rfl⟩) fun _ s10 ⟨_, H10, I10, _, e10⟩ => ?_
        subst e10
        exact again I10 w9
  exact codeAny_compStart_list loop (T.self X.A 0 _ _ _ st1 loop)
theorem ps_setCompX {i : Nat} {y : Str} {py spos : Pos} (hc : X.calm = true) (hN : X.N.Nodup) (hiN : X.N[i]? = some y) (hy : X.env.scope.names.lookup y = some .local) (hi : PI X tg iter wi) (hcl : closG X.env.cells scope.names [] = some cl) (one : OneCell scope.names x0) (hone : ∀ y ∈ scope.names, y.2 = .cell → y.1 = x0) (hcl0 : cl.lookup x0 = none) (hkind : scope.kind = .function)
    (hnames : ∀ y ∈ scope.names, y.2 = .local → scope.names.lookup y.1 = some .local) (hcap : CapOk X scope cl Nc cap) (hcapx : ∀ (i j : Nat), Nc[i]? = some x0 → cap[i]? = some (some j) → False)
    (hg : ∀ C s0 H0 fp, PG (cxCompX X Nc scope cl C x0 s0 H0 fp) tg g) (ht : ∀ C s0 H0 fp, PIfs (cxCompX X Nc scope cl C x0 s0 H0 fp) ifs tc) (he : ∀ C s0 H0 fp, PE (cxCompX X Nc scope cl C x0 s0 H0 fp) elt te)
    (hsw : swapsWith (.ListComp elt [⟨tg, iter, ifs, 0⟩] scope pos) (some (.Name y py)) spos.line X.env = pure true)
    (hs : ∀ x, foldedSetIterable iter X.env x = pure x := by intro _; rfl) : PS X (.Assign [.Name y py] (.ListComp elt [⟨tg, iter, ifs, 0⟩] scope pos) spos) (tAsg (tComp wi g tc te cap) (gName i)) := by
  intro pins s σ H D I h
  rw [exec_Assign_Name_used _ _ _ _ hsw]
  refine wpAny_bind (wpAny_standAt (wpAny_bind ?_))
  show wpAny _ X.A (do let _ ← comprehension (.ListComp elt [⟨tg, iter, ifs, 0⟩] scope pos) scope X.env _ (newList []) false (eval iter X.env) (some (assign (.Name y py) X.env))) _ _ s
  refine wpAny_bind (wpAny_mono (wpAny_comprehension_free (use := some (assign (.Name y py) X.env)) (Q := fun _ s' => SP X pins D .next s') rfl hs (closG_clos hcl) hkind hnames
    (thn (hi pins s σ H _ I h) fun v s1 h1 => thn h1 fun itv s2 h2 => ?_)) (fun _ s' hq => wpAny_pure (wpAny_pure hq)) fun _ _ e => e)
  obtain ⟨it, fp, tn, J, H2, e, I2, T, st2, f2, read⟩ := h2
  subst e
  refine comp_blockX (Q := fun x H1 => gName i x σ H1 D.nx) hc hcl one hone hcl0 hkind hcap hcapx hg ht he I2 T st2 f2 read fun C Dd s' H' m I' hn n1 n2 n3 n4 n5 q => ?_
  show wpAny _ X.A (assign (.Name y py) X.env (.ref Dd)) _ _ _
  refine wpAny_assign_Name (store_ok2 I' hN hiN (.inl hy) (v := .ref Dd) rfl (fun s4 I4 ⟨a, sb, ha⟩ => ?_) (.inr hy))
  have hCa : C ≠ a := by
    rcases ha with ha | ha
    · rw [ha]; exact n2
    · exact fun z => n4 _ _ ha z.symm
  refine ⟨m, hn.sameBut sb hCa, fun h' hs' => ⟨_, H', ?_, q⟩⟩
  exact I4.turned (t' := s4.toks) (fun b o hb e => hs'.extBut b o hb e) n1 n2 (.inr n3) n4 n5
end
end L2
namespace SM
open PySem PySem.Spec PyProof.Rows L2
def capFree (Nc : List Str) (cap : List (Option Nat)) (x : Str) : Bool := (Nc.zip cap).all fun p => !(p.1 == x && p.2.isSome)
theorem capFree_no {Nc : List Str} {cap : List (Option Nat)} {x : Str} (h : capFree Nc cap x = true) : ∀ (i j : Nat), Nc[i]? = some x → cap[i]? = some (some j) → False := fun i j e1 e2 => by
  unfold capFree at h
  rw [List.all_eq_true] at h
  have hm : (x, some j) ∈ Nc.zip cap := by
    rw [List.mem_iff_getElem?]
    exact ⟨i, by rw [List.getElem?_zip_eq_some]; exact ⟨e1, e2⟩⟩
  have := h _ hm
  simp at this
section
variable {X : Cx} {elt iter tg : Expr} {ifs : List Expr} {scope : Scope} {cl : List (Str × Addr)} {pos : Pos} {Nc : List Str} {g : RI} {bd : RG} {tc : RT} {te : RE} {cap : List (Option Nat)} {x0 : Str}
theorem zm_setCompX (i : Nat) {y : Str} {py spos : Pos} (hc : X.calm = true) (hN : X.N.Nodup) (hi : IM X tg iter g) (one : OneCell scope.names x0) (hone : ∀ y ∈ scope.names, y.2 = .cell → y.1 = x0) (hkind : scope.kind = .function)
    (hnames : ∀ y ∈ scope.names, y.2 = .local → scope.names.lookup y.1 = some .local) (hcl : closG X.env.cells scope.names [] = some cl) (hcl0 : cl.lookup x0 = none) (hcap : CapOk X scope cl Nc cap) (hcapx : capFree Nc cap x0 = true)
    (hg : ∀ C s0 H0 fp, GM (cxCompX X Nc scope cl C x0 s0 H0 fp) tg bd) (ht : ∀ C s0 H0 fp, CM (cxCompX X Nc scope cl C x0 s0 H0 fp) ifs tc) (he : ∀ C s0 H0 fp, EM (cxCompX X Nc scope cl C x0 s0 H0 fp) elt te)
    (hsw : swapsWith (.ListComp elt [⟨tg, iter, ifs, 0⟩] scope pos) (some (.Name y py)) spos.line X.env = pure true)
    (hiN : X.N[i]? = some y := by rfl) (hy : X.env.scope.names.lookup y = some .local := by rfl) (hs : ∀ x, foldedSetIterable iter X.env x = pure x := by intro _; rfl) :
    ZM X (.Assign [.Name y py] (.ListComp elt [⟨tg, iter, ifs, 0⟩] scope pos) spos) (sSet i (eComp g bd tc te cap)) := by
  with_unfolding_all
    exact PS.imp (ps_setCompX (g := gM X.K bd) (tc := tMT X.K tc) (te := tM X.K te) hc hN hiN hy hi hcl one hone hcl0 hkind hnames hcap (capFree_no hcapx) hg ht he hsw hs) fun D σ H ⟨ρ, l, h, r, S, L, e, k⟩ => by
        obtain ⟨⟨d1, h1⟩, e1, e⟩ := bindE e
        cases e
        exact comp_read (X := X) false S L e1 fun ρ1 v H1 R1 S1 E1 => k ρ1 _ H1 S1 ((L.ext E1).set i R1) E1
end
end SM
namespace SM
open PySem PySem.Spec PyProof.Rows L2
/-! ### deep equality -/
mutual
/-- data without anything of ours in it -/
def pureD : Dt → Bool
  | .tup xs => pureDs xs
  | .lst xs => pureDs xs
  | .ref _ => false
  | .ntp _ => false
  | _ => true
def pureDs : List Dt → Bool
  | [] => true
  | x :: xs => pureD x && pureDs xs
end
mutual
def depD : Dt → Nat
  | .tup xs => depDs xs + 1
  | .lst xs => depDs xs + 1
  | _ => 0
def depDs : List Dt → Nat
  | [] => 0
  | x :: xs => max (depD x) (depDs xs)
end
mutual
def eqD : Dt → Dt → Bool
  | .non, .non => true
  | .bl a, .bl b => a == b
  | .bl a, .int b => (if a then 1 else 0) == b
  | .int a, .bl b => a == (if b then 1 else 0)
  | .int a, .int b => a == b
  | .str a, .str b => a == b
  | .tup xs, .tup ys => eqDs xs ys
  | .lst xs, .lst ys => eqDs xs ys
  | _, _ => false
def eqDs : List Dt → List Dt → Bool
  | [], [] => true
  | x :: xs, y :: ys => eqD x y && eqDs xs ys
  | _, _ => false
end
mutual
theorem eqD_refl : ∀ d : Dt, pureD d = true → eqD d d = true
  | .non, _ => by simp only [eqD]
  | .bl b, _ => by simp only [eqD, beq_self_eq_true]
  | .int i, _ => by simp only [eqD, beq_self_eq_true]
  | .str x, _ => by simp only [eqD, beq_self_eq_true]
  | .tup xs, h => by simp only [eqD]; exact eqDs_refl xs (by simpa only [pureD] using h)
  | .lst xs, h => by simp only [eqD]; exact eqDs_refl xs (by simpa only [pureD] using h)
  | .ref _, h => by simp [pureD] at h
  | .ntp _, h => by simp [pureD] at h
theorem eqDs_refl : ∀ ds : List Dt, pureDs ds = true → eqDs ds ds = true
  | [], _ => by simp only [eqDs]
  | d :: ds, h => by
    simp only [pureDs, Bool.and_eq_true] at h
    simp only [eqDs, Bool.and_eq_true]
    exact ⟨eqD_refl d h.1, eqDs_refl ds h.2⟩
end
section
variable {X : Cx} {pins : List (Addr × Obj)} {σ : L2.St} {H : Hp} {s : Shared} {ρ : Rg}
mutual
theorem rel_inj (I : Inv X pins σ H s) : ∀ (d d' : Dt) {v : V}, pureD d = true → pureD d' = true → RelD X.K H ρ d v → RelD X.K H ρ d' v → d = d'
  | .non, d', v, _, p, r, r' => by
    have e := rel_non.mp r
    subst e
    cases d' with
    | non => rfl
    | bl b => have := rel_bl.mp r'; cases this
    | int b => have := rel_int.mp r'; cases this
    | str b => have := rel_str.mp r'; cases this
    | tup b => obtain ⟨_, _, z, _⟩ := rel_tup.mp r'; cases z
    | lst b => obtain ⟨_, _, z, _⟩ := rel_lst.mp r'; cases z
    | ref b => obtain ⟨_, z, _⟩ := rel_ref.mp r'; cases z
    | ntp b => obtain ⟨_, z, _⟩ := rel_ntp.mp r'; cases z
  | .bl i, d', v, _, p, r, r' => by
    have e := rel_bl.mp r
    subst e
    cases d' with
    | non => have := rel_non.mp r'; cases this
    | bl b => have := rel_bl.mp r'; cases this; rfl
    | int b => have := rel_int.mp r'; cases this
    | str b => have := rel_str.mp r'; cases this
    | tup b => obtain ⟨_, _, z, _⟩ := rel_tup.mp r'; cases z
    | lst b => obtain ⟨_, _, z, _⟩ := rel_lst.mp r'; cases z
    | ref b => obtain ⟨_, z, _⟩ := rel_ref.mp r'; cases z
    | ntp b => obtain ⟨_, z, _⟩ := rel_ntp.mp r'; cases z
  | .int i, d', v, _, p, r, r' => by
    have e := rel_int.mp r
    subst e
    cases d' with
    | non => have := rel_non.mp r'; cases this
    | bl b => have := rel_bl.mp r'; cases this
    | int b => have := rel_int.mp r'; cases this; rfl
    | str b => have := rel_str.mp r'; cases this
    | tup b => obtain ⟨_, _, z, _⟩ := rel_tup.mp r'; cases z
    | lst b => obtain ⟨_, _, z, _⟩ := rel_lst.mp r'; cases z
    | ref b => obtain ⟨_, z, _⟩ := rel_ref.mp r'; cases z
    | ntp b => obtain ⟨_, z, _⟩ := rel_ntp.mp r'; cases z
  | .str i, d', v, _, p, r, r' => by
    have e := rel_str.mp r
    subst e
    cases d' with
    | non => have := rel_non.mp r'; cases this
    | bl b => have := rel_bl.mp r'; cases this
    | int b => have := rel_int.mp r'; cases this
    | str b => have := rel_str.mp r'; cases this; rfl
    | tup b => obtain ⟨_, _, z, _⟩ := rel_tup.mp r'; cases z
    | lst b => obtain ⟨_, _, z, _⟩ := rel_lst.mp r'; cases z
    | ref b => obtain ⟨_, z, _⟩ := rel_ref.mp r'; cases z
    | ntp b => obtain ⟨_, z, _⟩ := rel_ntp.mp r'; cases z
  | .tup xs, d', v, p0, p, r, r' => by
    obtain ⟨a, vs, e, q, rs⟩ := rel_tup.mp r
    subst e
    cases d' with
    | non => have := rel_non.mp r'; cases this
    | bl b => have := rel_bl.mp r'; cases this
    | int b => have := rel_int.mp r'; cases this
    | str b => have := rel_str.mp r'; cases this
    | tup ys =>
      obtain ⟨b, ws, z, q', rs'⟩ := rel_tup.mp r'
      cases z
      have ee := I.tuple_inj q.sq q'.sq
      subst ee
      rw [rels_inj I xs ys (by simpa only [pureD] using p0) (by simpa only [pureD] using p) rs rs']
    | lst ys =>
      obtain ⟨b, ws, z, q', rs'⟩ := rel_lst.mp r'
      cases z
      obtain ⟨_, _, ⟨o, e1, e2, _⟩, _⟩ := I.tuple q.sq
      obtain ⟨_, _, ⟨o', _, e1', e2', _⟩, _⟩ := I.list q'.sq
      rw [e1] at e1'
      cases e1'
      rw [e2] at e2'
      injection e2' with e3
      exact absurd e3 (by decide)
    | ref b => simp [pureD] at p
    | ntp b => simp [pureD] at p
  | .lst xs, d', v, p0, p, r, r' => by
    obtain ⟨a, vs, e, q, rs⟩ := rel_lst.mp r
    subst e
    cases d' with
    | non => have := rel_non.mp r'; cases this
    | bl b => have := rel_bl.mp r'; cases this
    | int b => have := rel_int.mp r'; cases this
    | str b => have := rel_str.mp r'; cases this
    | lst ys =>
      obtain ⟨b, ws, z, q', rs'⟩ := rel_lst.mp r'
      cases z
      have ee := I.list_inj q.sq q'.sq
      subst ee
      rw [rels_inj I xs ys (by simpa only [pureD] using p0) (by simpa only [pureD] using p) rs rs']
    | tup ys =>
      obtain ⟨b, ws, z, q', rs'⟩ := rel_tup.mp r'
      cases z
      obtain ⟨_, _, ⟨o, e1, e2, _⟩, _⟩ := I.tuple q'.sq
      obtain ⟨_, _, ⟨o', _, e1', e2', _⟩, _⟩ := I.list q.sq
      rw [e1] at e1'
      cases e1'
      rw [e2] at e2'
      injection e2' with e3
      exact absurd e3 (by decide)
    | ref b => simp [pureD] at p
    | ntp b => simp [pureD] at p
  | .ref _, _, _, p, _, _, _ => by simp [pureD] at p
  | .ntp _, _, _, p, _, _, _ => by simp [pureD] at p
theorem rels_inj (I : Inv X pins σ H s) : ∀ (ds ds' : List Dt) {vs : List V}, pureDs ds = true → pureDs ds' = true → RelDs X.K H ρ ds vs → RelDs X.K H ρ ds' vs → ds = ds'
  | [], [], _, _, _, _, _ => rfl
  | [], d' :: ds', _, _, _, r, r' => by
    rw [r.unnil] at r'
    obtain ⟨_, _, z, _⟩ := r'.uncons
    cases z
  | d :: ds, [], _, _, _, r, r' => by
    rw [r'.unnil] at r
    obtain ⟨_, _, z, _⟩ := r.uncons
    cases z
  | d :: ds, d' :: ds', _, p, p', r, r' => by
    simp only [pureDs, Bool.and_eq_true] at p p'
    obtain ⟨v, vs, e, r1, r2⟩ := r.uncons
    subst e
    obtain ⟨v', vs', e, r1', r2'⟩ := r'.uncons
    cases e
    rw [rel_inj I d d' p.1 p'.1 r1 r1', rels_inj I ds ds' p.2 p'.2 r2 r2']
end
def eqIx (xs ys : List Dt) (j : Nat) : Bool := match xs[j]?, ys[j]? with
  | some x, some y => eqD x y
  | _, _ => false
theorem eqIx_all : ∀ (xs ys : List Dt), xs.length = ys.length → (List.range xs.length).all (eqIx xs ys) = eqDs xs ys
  | [], [], _ => by simp [eqDs]
  | [], _ :: _, h => by simp at h
  | _ :: _, [], h => by simp at h
  | x :: xs, y :: ys, h => by
    have ih := eqIx_all xs ys (by simpa using h)
    rw [List.length_cons, List.range_succ_eq_map, List.all_cons, List.all_map]
    simp only [eqDs]
    rw [← ih]
    rfl
theorem eqDs_len : ∀ (xs ys : List Dt), xs.length ≠ ys.length → eqDs xs ys = false
  | [], [], h => absurd rfl h
  | [], _ :: _, _ => by simp only [eqDs]
  | _ :: _, [], _ => by simp only [eqDs]
  | x :: xs, y :: ys, h => by
    simp only [eqDs]
    rw [eqDs_len xs ys (fun z => h (by simp [z])), Bool.and_false]
theorem in1_units (A : Around) : A.in1.units ≤ A.units + 1 := by
  first | exact Nat.le_refl _ | simp [Around.in1]
theorem isTuple_of {h : Heap} {a : Addr} {its : Array Value} (p : IsTup h a its) : h.IsTuple a its := by
  obtain ⟨o, h1, h2, n, h3⟩ := p
  exact ⟨o, h1, h2, n, h3⟩
mutual
theorem eqAt_D (I : Inv X pins σ H s) : ∀ (d d' : Dt) {v v' : V} {u u' : Value} (A : Around), pureD d = true → pureD d' = true → A.units + depD d < cLine → RelD X.K H ρ d v → RelD X.K H ρ d' v' → RelV v u → RelV v' u' → SeqAt.EqAt A s u u' (eqD d d')
  | .tup xs, d', v, v', u, u', A, p, p', hu, r, r', q, q' => by
    obtain ⟨a, vs, e, t, rs⟩ := rel_tup.mp r
    subst e
    cases q
    simp only [depD] at hu
    have hu0 : A.units < cLine := by omega
    obtain ⟨its, rv, tp, _⟩ := I.tuple t.sq
    cases d' with
    | non => cases rel_non.mp r'; cases q'; simpa only [eqD] using SeqAt.EqAt.tuple_none (isTuple_of tp) hu0
    | bl b => cases rel_bl.mp r'; cases q'; simpa only [eqD] using SeqAt.EqAt.tuple_bool b (isTuple_of tp) hu0
    | int b => cases rel_int.mp r'; obtain ⟨t', rfl⟩ := q'; simpa only [eqD] using SeqAt.EqAt.tuple_int b t' (isTuple_of tp) hu0
    | str b => cases rel_str.mp r'; obtain ⟨t', rfl⟩ := q'; simpa only [eqD] using SeqAt.EqAt.tuple_str b t' (isTuple_of tp) hu0
    | lst ys =>
      obtain ⟨b, ws, e, t', rs'⟩ := rel_lst.mp r'
      subst e
      cases q'
      obtain ⟨its', rv', tp', _⟩ := I.list t'.sq
      simpa only [eqD] using SeqAt.EqAt.tuple_list (isTuple_of tp) tp'.isList hu0
    | tup ys =>
      obtain ⟨b, ws, e, t', rs'⟩ := rel_tup.mp r'
      subst e
      cases q'
      obtain ⟨its', rv', tp', _⟩ := I.tuple t'.sq
      by_cases hab : a = b
      · subst hab
        have e := rel_inj I (.tup xs) (.tup ys) p p' r r'
        rw [← e, eqD_refl _ p]
        exact SeqAt.EqAt.same _
      · refine .of_refs hab ?_
        have l1 : its.length = xs.length := by rw [← rv.length, rs.length]
        have l2 : its'.length = ys.length := by rw [← rv'.length, rs'.length]
        have ih := eqAt_Ds I xs ys A.in1 (by simpa only [pureD] using p) (by simpa only [pureD] using p') (by have := in1_units A; omega) rs rs' rv rv'
        have z := SeqAt.RcAt.tuples (e := eqIx xs ys) (isTuple_of tp) (isTuple_of tp') hu0 fun j h1 h2 => by
          rw [List.size_toArray] at h1 h2
          simpa using ih j h1 h2
        rw [List.size_toArray, List.size_toArray, l1, l2] at z
        simp only [eqD]
        by_cases hl : xs.length = ys.length
        · rw [← hl, Nat.min_self, eqIx_all xs ys hl, beq_self_eq_true, Bool.and_true] at z
          exact z
        · rw [eqDs_len xs ys hl]
          have hb : (xs.length == ys.length) = false := by simpa using hl
          rw [hb, Bool.and_false] at z
          exact z
    | ref b => simp [pureD] at p'
    | ntp b => simp [pureD] at p'
  | .lst xs, d', v, v', u, u', A, p, p', hu, r, r', q, q' => by
    obtain ⟨a, vs, e, t, rs⟩ := rel_lst.mp r
    subst e
    cases q
    simp only [depD] at hu
    have hu0 : A.units < cLine := by omega
    obtain ⟨its, rv, tp, _⟩ := I.list t.sq
    cases d' with
    | non => cases rel_non.mp r'; cases q'; simpa only [eqD] using SeqAt.EqAt.list_none tp.isList hu0
    | bl b => cases rel_bl.mp r'; cases q'; simpa only [eqD] using SeqAt.EqAt.list_bool b tp.isList hu0
    | int b => cases rel_int.mp r'; obtain ⟨t', rfl⟩ := q'; simpa only [eqD] using SeqAt.EqAt.list_int b t' tp.isList hu0
    | str b => cases rel_str.mp r'; obtain ⟨t', rfl⟩ := q'; simpa only [eqD] using SeqAt.EqAt.list_str b t' tp.isList hu0
    | tup ys =>
      obtain ⟨b, ws, e, t', rs'⟩ := rel_tup.mp r'
      subst e
      cases q'
      obtain ⟨its', rv', tp', _⟩ := I.tuple t'.sq
      simpa only [eqD] using SeqAt.EqAt.list_tuple tp.isList (isTuple_of tp') hu0
    | lst ys =>
      obtain ⟨b, ws, e, t', rs'⟩ := rel_lst.mp r'
      subst e
      cases q'
      obtain ⟨its', rv', tp', _⟩ := I.list t'.sq
      by_cases hab : a = b
      · subst hab
        have e := rel_inj I (.lst xs) (.lst ys) p p' r r'
        rw [← e, eqD_refl _ p]
        exact SeqAt.EqAt.same _
      · refine .of_refs hab ?_
        have l1 : its.length = xs.length := by rw [← rv.length, rs.length]
        have l2 : its'.length = ys.length := by rw [← rv'.length, rs'.length]
        simp only [eqD]
        by_cases hl : xs.length = ys.length
        · have ih := eqAt_Ds I xs ys A.in1 (by simpa only [pureD] using p) (by simpa only [pureD] using p') (by have := in1_units A; omega) rs rs' rv rv'
          have z := SeqAt.RcAt.lists (e := eqIx xs ys) tp.isList tp'.isList (by rw [List.size_toArray, List.size_toArray, l1, l2, hl]) hu0 fun j h1 h2 => by
            rw [List.size_toArray] at h1 h2
            simpa using ih j h1 h2
          rw [List.size_toArray, l1, eqIx_all xs ys hl] at z
          exact z
        · rw [eqDs_len xs ys hl]
          exact SeqAt.RcAt.lists_lengths tp.isList tp'.isList (by rw [List.size_toArray, List.size_toArray, l1, l2]; simpa using hl) hu0
    | ref b => simp [pureD] at p'
    | ntp b => simp [pureD] at p'
  | .ref _, _, _, _, _, _, _, p, _, _, _, _, _, _ => by simp [pureD] at p
  | .ntp _, _, _, _, _, _, _, p, _, _, _, _, _, _ => by simp [pureD] at p
  | .non, d', v, v', u, u', A, p, p', hu, r, r', q, q' => by
    cases rel_non.mp r
    cases q
    have hu0 : A.units < cLine := by omega
    cases d' with
    | non => cases rel_non.mp r'; cases q'; simp only [eqD]; exact SeqAt.EqAt.same _
    | bl b => cases rel_bl.mp r'; cases q'; simpa only [eqD] using SeqAt.EqAt.none_bool b
    | int b => cases rel_int.mp r'; obtain ⟨t', rfl⟩ := q'; simpa only [eqD] using SeqAt.EqAt.none_int b t'
    | str b => cases rel_str.mp r'; obtain ⟨t', rfl⟩ := q'; simpa only [eqD] using SeqAt.EqAt.none_str b t'
    | tup ys =>
      obtain ⟨b, ws, e, t', rs'⟩ := rel_tup.mp r'
      subst e
      cases q'
      obtain ⟨its', rv', tp', _⟩ := I.tuple t'.sq
      simpa only [eqD] using SeqAt.EqAt.none_tuple (isTuple_of tp') hu0
    | lst ys =>
      obtain ⟨b, ws, e, t', rs'⟩ := rel_lst.mp r'
      subst e
      cases q'
      obtain ⟨its', rv', tp', _⟩ := I.list t'.sq
      simpa only [eqD] using SeqAt.EqAt.none_list tp'.isList hu0
    | ref b => simp [pureD] at p'
    | ntp b => simp [pureD] at p'
  | .bl i, d', v, v', u, u', A, p, p', hu, r, r', q, q' => by
    cases rel_bl.mp r
    cases q
    have hu0 : A.units < cLine := by omega
    cases d' with
    | non => cases rel_non.mp r'; cases q'; simpa only [eqD] using SeqAt.EqAt.bool_none i
    | bl b => cases rel_bl.mp r'; cases q'; simpa only [eqD] using SeqAt.EqAt.bool_bool i b
    | int b => cases rel_int.mp r'; obtain ⟨t', rfl⟩ := q'; simpa only [eqD] using SeqAt.EqAt.bool_int i b t'
    | str b => cases rel_str.mp r'; obtain ⟨t', rfl⟩ := q'; simpa only [eqD] using SeqAt.EqAt.bool_str i b t'
    | tup ys =>
      obtain ⟨b, ws, e, t', rs'⟩ := rel_tup.mp r'
      subst e
      cases q'
      obtain ⟨its', rv', tp', _⟩ := I.tuple t'.sq
      simpa only [eqD] using SeqAt.EqAt.bool_tuple i (isTuple_of tp') hu0
    | lst ys =>
      obtain ⟨b, ws, e, t', rs'⟩ := rel_lst.mp r'
      subst e
      cases q'
      obtain ⟨its', rv', tp', _⟩ := I.list t'.sq
      simpa only [eqD] using SeqAt.EqAt.bool_list i tp'.isList hu0
    | ref b => simp [pureD] at p'
    | ntp b => simp [pureD] at p'
  | .int i, d', v, v', u, u', A, p, p', hu, r, r', q, q' => by
    cases rel_int.mp r
    obtain ⟨ti, rfl⟩ := q
    have hu0 : A.units < cLine := by omega
    cases d' with
    | non => cases rel_non.mp r'; cases q'; simpa only [eqD] using SeqAt.EqAt.int_none i ti
    | bl b => cases rel_bl.mp r'; cases q'; simpa only [eqD] using SeqAt.EqAt.int_bool i ti b
    | int b => cases rel_int.mp r'; obtain ⟨t', rfl⟩ := q'; simpa only [eqD] using SeqAt.EqAt.int_int i ti b t'
    | str b => cases rel_str.mp r'; obtain ⟨t', rfl⟩ := q'; simpa only [eqD] using SeqAt.EqAt.int_str i ti b t'
    | tup ys =>
      obtain ⟨b, ws, e, t', rs'⟩ := rel_tup.mp r'
      subst e
      cases q'
      obtain ⟨its', rv', tp', _⟩ := I.tuple t'.sq
      simpa only [eqD] using SeqAt.EqAt.int_tuple i ti (isTuple_of tp') hu0
    | lst ys =>
      obtain ⟨b, ws, e, t', rs'⟩ := rel_lst.mp r'
      subst e
      cases q'
      obtain ⟨its', rv', tp', _⟩ := I.list t'.sq
      simpa only [eqD] using SeqAt.EqAt.int_list i ti tp'.isList hu0
    | ref b => simp [pureD] at p'
    | ntp b => simp [pureD] at p'
  | .str i, d', v, v', u, u', A, p, p', hu, r, r', q, q' => by
    cases rel_str.mp r
    obtain ⟨ti, rfl⟩ := q
    have hu0 : A.units < cLine := by omega
    cases d' with
    | non => cases rel_non.mp r'; cases q'; simpa only [eqD] using SeqAt.EqAt.str_none i ti
    | bl b => cases rel_bl.mp r'; cases q'; simpa only [eqD] using SeqAt.EqAt.str_bool i ti b
    | int b => cases rel_int.mp r'; obtain ⟨t', rfl⟩ := q'; simpa only [eqD] using SeqAt.EqAt.str_int i ti b t'
    | str b => cases rel_str.mp r'; obtain ⟨t', rfl⟩ := q'; simpa only [eqD] using SeqAt.EqAt.str_str i ti b t'
    | tup ys =>
      obtain ⟨b, ws, e, t', rs'⟩ := rel_tup.mp r'
      subst e
      cases q'
      obtain ⟨its', rv', tp', _⟩ := I.tuple t'.sq
      simpa only [eqD] using SeqAt.EqAt.str_tuple i ti (isTuple_of tp') hu0
    | lst ys =>
      obtain ⟨b, ws, e, t', rs'⟩ := rel_lst.mp r'
      subst e
      cases q'
      obtain ⟨its', rv', tp', _⟩ := I.list t'.sq
      simpa only [eqD] using SeqAt.EqAt.str_list i ti tp'.isList hu0
    | ref b => simp [pureD] at p'
    | ntp b => simp [pureD] at p'
theorem eqAt_Ds (I : Inv X pins σ H s) : ∀ (xs ys : List Dt) {vs vs' : List V} {us us' : List Value} (A : Around), pureDs xs = true → pureDs ys = true → A.units + depDs xs < cLine → RelDs X.K H ρ xs vs → RelDs X.K H ρ ys vs' → Vals vs us → Vals vs' us' →
    ∀ (j : Nat) (h1 : j < us.length) (h2 : j < us'.length), SeqAt.EqAt A s us[j] us'[j] (eqIx xs ys j)
  | [], _, _, _, _, _, _, _, _, _, r, _, q, _, _, h1, _ => by
    rw [r.unnil] at q
    cases q
    exact absurd h1 (by simp)
  | _ :: _, [], _, _, _, _, _, _, _, _, _, r', _, q', _, _, h2 => by
    rw [r'.unnil] at q'
    cases q'
    exact absurd h2 (by simp)
  | x :: xs, y :: ys, vs, vs', us, us', A, p, p', hu, r, r', q, q', j, h1, h2 => by
    simp only [pureDs, Bool.and_eq_true] at p p'
    simp only [depDs] at hu
    obtain ⟨v, r0, e, a1, a2⟩ := r.uncons
    subst e
    obtain ⟨v', r0', e, b1, b2⟩ := r'.uncons
    subst e
    cases q with
    | cons q1 q2 =>
      cases q' with
      | cons q1' q2' =>
        cases j with
        | zero => exact eqAt_D I x y A p.1 p'.1 (by omega) a1 b1 q1 q1'
        | succ j =>
          have ih := eqAt_Ds I xs ys A p.2 p'.2 (by omega) a2 b2 q2 q2' j (by simpa using h1) (by simpa using h2)
          simpa [eqIx] using ih
end
end
end SM
namespace SM
open PySem PySem.Spec PyProof.Rows L2
section
variable {X : Cx} {a b c e : Expr} {es : List Expr} {fa fb fc f : RE} {g : RA} {p p2 pos : Pos}
/-! ### == and != of tuples, lists, flat things -/
def deepOk (xs ys : List Dt) : Bool := pureDs xs && pureDs ys && decide (depDs xs ≤ 50)
def oEqD : Op2 := fun a b h => match a, b with
  | .tup xs, .tup ys => if deepOk xs ys = true then some (.bl (eqDs xs ys), h) else none
  | .lst xs, .lst ys => if deepOk xs ys = true then some (.bl (eqDs xs ys), h) else none
  | a, b => oEq a b h
def oNeD : Op2 := fun a b h => match a, b with
  | .tup xs, .tup ys => if deepOk xs ys = true then some (.bl (!eqDs xs ys), h) else none
  | .lst xs, .lst ys => if deepOk xs ys = true then some (.bl (!eqDs xs ys), h) else none
  | a, b => oNe a b h
theorem tup_items {pins : List (Addr × Obj)} {σ : L2.St} {H : Hp} {s : Shared} {ρ : Rg} {xs ys : List Dt} {vs ws : List V} {its its' : List Value} (I : Inv X pins σ H s) (hu : X.A.units + 64 < cLine) (ok : deepOk xs ys = true) (rs : RelDs X.K H ρ xs vs) (rs' : RelDs X.K H ρ ys ws) (rv : Vals vs its) (rv' : Vals ws its') :
    ∀ (j : Nat) (h1 : j < its.toArray.size) (h2 : j < its'.toArray.size), SeqAt.EqAt X.A.in1 s its.toArray[j] its'.toArray[j] (eqIx xs ys j) := fun j h1 h2 => by
  simp only [deepOk, Bool.and_eq_true, decide_eq_true_eq] at ok
  rw [List.size_toArray] at h1 h2
  have := eqAt_Ds I xs ys X.A.in1 ok.1.1 ok.1.2 (by have := in1_units X.A; omega) rs rs' rv rv' j h1 h2
  simpa using this
theorem om_eqD (hu : X.A.units + 64 < cLine) : OM X (compareOp .Eq) oEqD := by
  with_unfolding_all
    intro pins s σ H x y v u Q I rx ry h
    obtain ⟨ρ, h, d1, d2, d, h', S, R1, R2, e, k⟩ := h
    unfold oEqD at e
    split at e
    · rename_i xs ys
      obtain ⟨ok, e⟩ := ifE e
      cases e
      obtain ⟨a, vs, z, t, rs⟩ := rel_tup.mp R1
      obtain ⟨b, ws, z', t', rs'⟩ := rel_tup.mp R2
      subst z z'
      cases rx
      cases ry
      obtain ⟨its, rv, tp, _⟩ := I.tuple t.sq
      obtain ⟨its', rv', tp', _⟩ := I.tuple t'.sq
      have l1 : its.length = xs.length := by rw [← rv.length, rs.length]
      have l2 : its'.length = ys.length := by rw [← rv'.length, rs'.length]
      refine SeqAt.eq_tupleAt (e := eqIx xs ys) (isTuple_of tp) (isTuple_of tp') (by omega) (tup_items I hu ok rs rs' rv rv') ?_
      refine ⟨.bl _, H, I, rfl, k ρ _ H (rel_bl.mpr (congrArg V.bl ?_)) S (Ext.refl _ _)⟩
      rw [List.size_toArray, List.size_toArray, l1, l2]
      by_cases hl : xs.length = ys.length
      · rw [← hl, Nat.min_self, eqIx_all xs ys hl, beq_self_eq_true, Bool.and_true]
      · have hb : (xs.length == ys.length) = false := by simpa using hl
        rw [eqDs_len xs ys hl, hb, Bool.and_false]
    · rename_i xs ys
      obtain ⟨ok, e⟩ := ifE e
      cases e
      obtain ⟨a, vs, z, t, rs⟩ := rel_lst.mp R1
      obtain ⟨b, ws, z', t', rs'⟩ := rel_lst.mp R2
      subst z z'
      cases rx
      cases ry
      obtain ⟨its, rv, tp, _⟩ := I.list t.sq
      obtain ⟨its', rv', tp', _⟩ := I.list t'.sq
      have l1 : its.length = xs.length := by rw [← rv.length, rs.length]
      have l2 : its'.length = ys.length := by rw [← rv'.length, rs'.length]
      by_cases hl : xs.length = ys.length
      · refine SeqAt.eq_listAt (e := eqIx xs ys) tp.isList tp'.isList (by rw [List.size_toArray, List.size_toArray, l1, l2, hl]) (by omega) (tup_items I hu ok rs rs' rv rv') ?_
        refine ⟨.bl _, H, I, rfl, k ρ _ H (rel_bl.mpr (congrArg V.bl ?_)) S (Ext.refl _ _)⟩
        rw [List.size_toArray, l1, eqIx_all xs ys hl]
      · refine SeqAt.eq_list_lengthsAt tp.isList tp'.isList (by rw [List.size_toArray, List.size_toArray, l1, l2]; simpa using hl) (by omega) ?_
        exact ⟨.bl _, H, I, rfl, k ρ _ H (rel_bl.mpr (by rw [eqDs_len xs ys hl])) S (Ext.refl _ _)⟩
    · exact om_eq pins s σ H x y v u Q I rx ry ⟨ρ, h, d1, d2, d, h', S, R1, R2, e, k⟩
theorem om_neD (hu : X.A.units + 64 < cLine) : OM X (compareOp .NotEq) oNeD := by
  with_unfolding_all
    intro pins s σ H x y v u Q I rx ry h
    obtain ⟨ρ, h, d1, d2, d, h', S, R1, R2, e, k⟩ := h
    unfold oNeD at e
    split at e
    · rename_i xs ys
      obtain ⟨ok, e⟩ := ifE e
      cases e
      obtain ⟨a, vs, z, t, rs⟩ := rel_tup.mp R1
      obtain ⟨b, ws, z', t', rs'⟩ := rel_tup.mp R2
      subst z z'
      cases rx
      cases ry
      obtain ⟨its, rv, tp, _⟩ := I.tuple t.sq
      obtain ⟨its', rv', tp', _⟩ := I.tuple t'.sq
      have l1 : its.length = xs.length := by rw [← rv.length, rs.length]
      have l2 : its'.length = ys.length := by rw [← rv'.length, rs'.length]
      refine ne_tuples (e := eqIx xs ys) (isTuple_of tp) (isTuple_of tp') (by omega) (tup_items I hu ok rs rs' rv rv') ?_
      refine ⟨.bl _, H, I, rfl, k ρ _ H (rel_bl.mpr (congrArg V.bl ?_)) S (Ext.refl _ _)⟩
      rw [List.size_toArray, List.size_toArray, l1, l2]
      by_cases hl : xs.length = ys.length
      · rw [← hl, Nat.min_self, eqIx_all xs ys hl, beq_self_eq_true, Bool.and_true]
      · have hb : (xs.length == ys.length) = false := by simpa using hl
        rw [eqDs_len xs ys hl, hb, Bool.and_false]
    · rename_i xs ys
      obtain ⟨ok, e⟩ := ifE e
      cases e
      obtain ⟨a, vs, z, t, rs⟩ := rel_lst.mp R1
      obtain ⟨b, ws, z', t', rs'⟩ := rel_lst.mp R2
      subst z z'
      cases rx
      cases ry
      obtain ⟨its, rv, tp, _⟩ := I.list t.sq
      obtain ⟨its', rv', tp', _⟩ := I.list t'.sq
      have l1 : its.length = xs.length := by rw [← rv.length, rs.length]
      have l2 : its'.length = ys.length := by rw [← rv'.length, rs'.length]
      by_cases hl : xs.length = ys.length
      · refine ne_lists (e := eqIx xs ys) tp.isList tp'.isList (by rw [List.size_toArray, List.size_toArray, l1, l2, hl]) (by omega) (tup_items I hu ok rs rs' rv rv') ?_
        refine ⟨.bl _, H, I, rfl, k ρ _ H (rel_bl.mpr (congrArg V.bl ?_)) S (Ext.refl _ _)⟩
        rw [List.size_toArray, l1, eqIx_all xs ys hl]
      · refine ne_lists_len tp.isList tp'.isList (by rw [List.size_toArray, List.size_toArray, l1, l2]; simpa using hl) (by omega) ?_
        exact ⟨.bl _, H, I, rfl, k ρ _ H (rel_bl.mpr (by rw [eqDs_len xs ys hl]; rfl)) S (Ext.refl _ _)⟩
    · exact om_ne pins s σ H x y v u Q I rx ry ⟨ρ, h, d1, d2, d, h', S, R1, R2, e, k⟩
/-! ### in, not in: flat items -/
/-! ### + of lists, texts -/
def oCat : Op2 := fun a b h => (seqL h a).bind fun xs => (seqL h b).bind fun ys => if xs.length + ys.length ≤ sizeLine then some (.lst (xs ++ ys), h) else none
theorem om_cat : OM X (binaryOp .Add) oCat := by
  with_unfolding_all
    exact OpR.imp op_catQ fun x y H Q ⟨ρ, h, d1, d2, d, h', S, R1, R2, e, k⟩ => by
      obtain ⟨xs, e1, e⟩ := bindE e
      obtain ⟨ys, e2, e⟩ := bindE e
      obtain ⟨hz, e⟩ := ifE e
      cases e
      obtain ⟨l, vs, z1, q1, r1⟩ := seqL_at S R1 e1
      obtain ⟨b, ws, z2, q2, r2⟩ := seqL_at S R2 e2
      exact ⟨l, b, vs, ws, z1, z2, q1, q2, by rw [r1.length, r2.length]; exact hz, fun p hp => k ρ _ _ (newLst S (r1.append r2) hp) (S.fresh hp) (Ext.fresh hp)⟩
/-! ### calls of built-ins -/
def eF1 (F : Dt → HI → Option (Dt × HI)) (f : RE) : RE := fun l h => (f l h).bind fun r => F r.1 r.2
theorem em_b1 {x : Str} {id : String} {r : List V → Hp → VK → Prop} {F : Dt → HI → Option (Dt × HI)} (hc : CallR X (.builtin id) r) (hF : ∀ ρ h d v d' h' H Q, SimH X.K ρ h H → RelD X.K H ρ d v → F d h = some (d', h') → Out X.K ρ H d' h' Q → r [v] H Q)
    (hg : Gl X x) (hm : X.mg x = none) (hv : bootBuiltins x = some (.builtin id)) (ha : EM X e f) (hn : x ≠ "__name__" := by decide) (hdb : (x == ("__debug__" : Str)) = false := by decide) (hs : notStar e = true := by rfl) :
    EM X (.Call (.Name x p) [e] [] pos) (eF1 F f) := by
  with_unfolding_all
    exact PE.imp (pe_callB hc hg hm hv (pa_cons ha pa_nil (star_of hs _ _)) hn hdb (he := star_of hs _ _)) fun σ H Q ⟨ρ, l, h, d, h', S, L, e, k⟩ => by
      obtain ⟨⟨d1, h1⟩, e1, e⟩ := bindE e
      exact ⟨ρ, l, h, d1, h1, S, L, e1, fun ρ1 v H1 R1 S1 E1 => hF ρ1 h1 d1 v d h' H1 Q S1 R1 e (k.ext E1)⟩
theorem em_t1 {x : Str} {T : String} {r : List V → Hp → VK → Prop} {F : Dt → HI → Option (Dt × HI)} (hc : CallR X (.type T) r) (hF : ∀ ρ h d v d' h' H Q, SimH X.K ρ h H → RelD X.K H ρ d v → F d h = some (d', h') → Out X.K ρ H d' h' Q → r [v] H Q)
    (hg : Gl X x) (hm : X.mg x = none) (hv : bootBuiltins x = some (.type T)) (ha : EM X e f) (hn : x ≠ "__name__" := by decide) (hdb : (x == ("__debug__" : Str)) = false := by decide) (hs : notStar e = true := by rfl) :
    EM X (.Call (.Name x p) [e] [] pos) (eF1 F f) := by
  with_unfolding_all
    exact PE.imp (pe_callTy hc hg hm hv (pa_cons ha pa_nil (star_of hs _ _)) hn hdb (he := star_of hs _ _)) fun σ H Q ⟨ρ, l, h, d, h', S, L, e, k⟩ => by
      obtain ⟨⟨d1, h1⟩, e1, e⟩ := bindE e
      exact ⟨ρ, l, h, d1, h1, S, L, e1, fun ρ1 v H1 R1 S1 E1 => hF ρ1 h1 d1 v d h' H1 Q S1 R1 e (k.ext E1)⟩
def fLen : Dt → HI → Option (Dt × HI) := fun d h => match d with
  | .str z => if z.length ≤ sizeLine then some (.int z.length, h) else none
  | d => (seqA h d).map fun xs => (.int xs.length, h)
theorem em_len (hg : Gl X "len") (hm : X.mg "len" = none) (ha : EM X e f) (hs : notStar e = true := by rfl) : EM X (.Call (.Name "len" p) [e] [] pos) (eF1 fLen f) := by
  with_unfolding_all
    exact em_b1 (CallR.or call_len_seq call_len_str) (fun ρ h d v d' h' H Q S R e k => by
        unfold fLen at e
        split at e
        · rename_i z
          obtain ⟨hz, e⟩ := ifE e
          cases e
          exact .inr ⟨z, by rw [rel_str.mp R], hz, k ρ _ H (rel_int.mpr rfl) S (Ext.refl _ _)⟩
        · cases q : seqA h d with
          | none => rw [q] at e; cases e
          | some xs =>
            rw [q] at e
            cases e
            obtain ⟨a, vs, z, sq, r⟩ := seqA_at S R q
            exact .inl ⟨a, vs, by rw [z], sq, by rw [r.length]; exact k ρ _ H (rel_int.mpr rfl) S (Ext.refl _ _)⟩) hg hm PySem.boot_len ha (hs := hs)
def fInt : Dt → HI → Option (Dt × HI) := fun d h => match d with
  | .int i => some (.int i, h)
  | .bl b => some (.int (if b then 1 else 0), h)
  | _ => none
theorem em_int1 (hg : Gl X "int") (hm : X.mg "int" = none) (ha : EM X e f) (hs : notStar e = true := by rfl) : EM X (.Call (.Name "int" p) [e] [] pos) (eF1 fInt f) := by
  with_unfolding_all
    exact em_t1 call_int1 (fun ρ h d v d' h' H Q S R e k => by
        unfold fInt at e
        split at e
        · rename_i i
          cases e
          exact .inl ⟨i, by rw [rel_int.mp R], k ρ _ H (rel_int.mpr rfl) S (Ext.refl _ _)⟩
        · rename_i b
          cases e
          exact .inr ⟨b, by rw [rel_bl.mp R], k ρ _ H (rel_int.mpr rfl) S (Ext.refl _ _)⟩
        · cases e) hg hm PyProof.Rows.boot_int ha (hs := hs)
def fList : Dt → HI → Option (Dt × HI) := fun d h => (seqA h d).map fun xs => (.lst xs, h)
def fListN : Dt → HI → Option (Dt × HI) := fun d h => (seqA h d).map fun xs => (.ref h.length, h ++ [.lst xs])
def intsOf : List Dt → Option (List Int)
  | [] => some []
  | .int i :: ds => (intsOf ds).map fun ns => i :: ns
  | _ :: _ => none
theorem intsOf_eq : ∀ {ds : List Dt} {ns : List Int}, intsOf ds = some ns → ds = ns.map Dt.int
  | [], _, e => by simp only [intsOf] at e; cases e; rfl
  | d :: ds, _, e => by
    cases d with
    | int i =>
      simp only [intsOf] at e
      cases q : intsOf ds with
      | none => rw [q] at e; cases e
      | some ns =>
        rw [q] at e
        cases e
        rw [intsOf_eq q]
        rfl
    | _ => simp only [intsOf] at e <;> cases e
def maxL : List Int → Int
  | [] => 0
  | [a] => a
  | a :: b :: r => max a (maxL (b :: r))
def minL : List Int → Int
  | [] => 0
  | [a] => a
  | a :: b :: r => min a (minL (b :: r))
theorem maxL_spec : ∀ (ns : List Int), ns ≠ [] → maxL ns ∈ ns ∧ ∀ a ∈ ns, a ≤ maxL ns
  | [], h => absurd rfl h
  | [a], _ => by simp [maxL]
  | a :: b :: r, _ => by
    obtain ⟨h1, h2⟩ := maxL_spec (b :: r) (by simp)
    simp only [maxL]
    refine ⟨?_, fun c hc => ?_⟩
    · rcases Int.le_total a (maxL (b :: r)) with z | z
      · rw [Int.max_eq_right z]; exact List.mem_cons_of_mem _ h1
      · rw [Int.max_eq_left z]; exact List.mem_cons_self
    · rcases List.mem_cons.mp hc with z | z
      · rw [z]; exact Int.le_max_left _ _
      · exact Int.le_trans (h2 c z) (Int.le_max_right _ _)
theorem minL_spec : ∀ (ns : List Int), ns ≠ [] → minL ns ∈ ns ∧ ∀ a ∈ ns, minL ns ≤ a
  | [], h => absurd rfl h
  | [a], _ => by simp [minL]
  | a :: b :: r, _ => by
    obtain ⟨h1, h2⟩ := minL_spec (b :: r) (by simp)
    simp only [minL]
    refine ⟨?_, fun c hc => ?_⟩
    · rcases Int.le_total a (minL (b :: r)) with z | z
      · rw [Int.min_eq_left z]; exact List.mem_cons_self
      · rw [Int.min_eq_right z]; exact List.mem_cons_of_mem _ h1
    · rcases List.mem_cons.mp hc with z | z
      · rw [z]; exact Int.min_le_left _ _
      · exact Int.le_trans (Int.min_le_right _ _) (h2 c z)
def fMax : Dt → HI → Option (Dt × HI) := fun d h => (seqL h d).bind fun xs => (intsOf xs).bind fun ns => if ns ≠ [] then some (.int (maxL ns), h) else none
def fMin : Dt → HI → Option (Dt × HI) := fun d h => (seqL h d).bind fun xs => (intsOf xs).bind fun ns => if ns ≠ [] then some (.int (minL ns), h) else none
theorem em_max (hc : X.calm = true) (hg : Gl X "max") (hm : X.mg "max" = none) (ha : EM X e f) (hs : notStar e = true := by rfl) : EM X (.Call (.Name "max" p) [e] [] pos) (eF1 fMax f) := by
  with_unfolding_all
    exact em_b1 (call_maxL hc) (fun ρ h d v d' h' H Q S R e k => by
        obtain ⟨xs, e1, e⟩ := bindE e
        obtain ⟨ns, q, e⟩ := bindE e
        obtain ⟨hne, e⟩ := ifE e
        cases e
        obtain ⟨a, vs, z, sq, r⟩ := seqL_at S R e1
        rw [intsOf_eq q] at r
        rw [r.unints] at sq
        obtain ⟨m1, m2⟩ := maxL_spec ns hne
        refine ⟨a, ns, by rw [z], sq, hne, fun M h1 h2 => ?_⟩
        have : M = maxL ns := Int.le_antisymm (m2 M h1) (h2 _ m1)
        rw [this]
        exact k ρ _ H (rel_int.mpr rfl) S (Ext.refl _ _)) hg hm PyProof.Rows.boot_max ha (hs := hs)
theorem em_min (hc : X.calm = true) (hg : Gl X "min") (hm : X.mg "min" = none) (ha : EM X e f) (hs : notStar e = true := by rfl) : EM X (.Call (.Name "min" p) [e] [] pos) (eF1 fMin f) := by
  with_unfolding_all
    exact em_b1 (call_minL hc) (fun ρ h d v d' h' H Q S R e k => by
        obtain ⟨xs, e1, e⟩ := bindE e
        obtain ⟨ns, q, e⟩ := bindE e
        obtain ⟨hne, e⟩ := ifE e
        cases e
        obtain ⟨a, vs, z, sq, r⟩ := seqL_at S R e1
        rw [intsOf_eq q] at r
        rw [r.unints] at sq
        obtain ⟨m1, m2⟩ := minL_spec ns hne
        refine ⟨a, ns, by rw [z], sq, hne, fun M h1 h2 => ?_⟩
        have : M = minL ns := Int.le_antisymm (h2 _ m1) (m2 M h1)
        rw [this]
        exact k ρ _ H (rel_int.mpr rfl) S (Ext.refl _ _)) hg hm PyProof.Rows.boot_min ha (hs := hs)
/-! ### isinstance with a built-in class -/
def tyN (h : HI) : Dt → Option String
  | .non => some "NoneType"
  | .bl _ => some "bool"
  | .int _ => some "int"
  | .str _ => some "str"
  | .tup _ => some "tuple"
  | .lst _ => some "list"
  | .ref n => match h[n]? with | some (.lst _) => some "list" | _ => none
  | .ntp _ => none
def isT (t T : String) : Bool := t == T || (t == "bool" && T == "int")
def eIsi (T : String) (f : RE) : RE := fun l h => (f l h).bind fun r => (tyN r.2 r.1).map fun t => (.bl (isT t T), r.2)
theorem kit_all (K : PySem.W.Frag) : ∀ t ∈ ["NoneType", "bool", "int", "str", "tuple", "list"], ∀ T ∈ ["bool", "int", "str", "tuple", "list"], PySem.W.kitOne K (.type t) (.type T) = some (isT t T) := by
  intro t ht T hT
  simp only [List.mem_cons, List.mem_nil_iff, or_false] at ht hT
  rcases ht with rfl | rfl | rfl | rfl | rfl | rfl <;> rcases hT with rfl | rfl | rfl | rfl | rfl <;> with_unfolding_all rfl
theorem tyN_in {h : HI} {d : Dt} {t : String} (e : tyN h d = some t) : t ∈ ["NoneType", "bool", "int", "str", "tuple", "list"] := by
  cases d with
  | ref n =>
    simp only [tyN] at e
    split at e
    · cases e; decide
    · cases e
  | ntp n => simp only [tyN] at e; cases e
  | _ => simp only [tyN] at e <;> cases e <;> decide
theorem tyN_D {K : PySem.W.Frag} {H : Hp} {ρ : Rg} {h : HI} {d : Dt} {v : V} {t : String} (S : SimH K ρ h H) (R : RelD K H ρ d v) (e : tyN h d = some t) : TyD K H v t := by
  cases d with
  | non => cases rel_non.mp R; simp only [tyN] at e; cases e; rfl
  | bl b => cases rel_bl.mp R; simp only [tyN] at e; cases e; rfl
  | int b => cases rel_int.mp R; simp only [tyN] at e; cases e; rfl
  | str b => cases rel_str.mp R; simp only [tyN] at e; cases e; rfl
  | tup xs =>
    obtain ⟨a, vs, z, t, rs⟩ := rel_tup.mp R
    subst z
    simp only [tyN] at e
    cases e
    exact .inr ⟨rfl, vs, t.sq⟩
  | lst xs =>
    obtain ⟨a, vs, z, t, rs⟩ := rel_lst.mp R
    subst z
    simp only [tyN] at e
    cases e
    exact .inl ⟨rfl, vs, t.sq⟩
  | ref n =>
    obtain ⟨a, z, ha⟩ := rel_ref.mp R
    subst z
    simp only [tyN] at e
    split at e
    · rename_i xs q
      cases e
      obtain ⟨vs, h1, _⟩ := S.lst ha q
      exact .inl ⟨rfl, vs, SqL.of h1⟩
    · cases e
  | ntp n => simp only [tyN] at e; cases e
theorem em_isi {T : Str} {TT : String} (hg : Gl X "isinstance") (hm : X.mg "isinstance" = none) (hgT : Gl X T) (hmT : X.mg T = none) (hv : bootBuiltins T = some (.type TT)) (hT : TT ∈ ["bool", "int", "str", "tuple", "list"]) (ha : EM X e f)
    (hnT : T ≠ "__name__" := by decide) (hdT : (T == ("__debug__" : Str)) = false := by decide)
    (hs : notStar e = true := by rfl) :
    EM X (.Call (.Name "isinstance" p) [e, .Name T p2] [] pos) (eIsi TT f) := by
  with_unfolding_all
    exact PE.imp (pe_callB (call_isi (T := TT)) hg hm PyProof.Rows.boot_isinstance (pa_cons ha (pa_cons (pe_bltn hgT hmT hv (v := .ty TT) rfl hnT hdT) pa_nil (star_of rfl _ _)) (star_of hs _ _)) (he := star_of hs _ _)) fun σ H Q ⟨ρ, l, h, d, h', S, L, e, k⟩ => by
        obtain ⟨⟨d1, h1⟩, e1, e⟩ := bindE e
        refine ⟨ρ, l, h, d1, h1, S, L, e1, fun ρ1 v H1 R1 S1 E1 => ?_⟩
        cases q : tyN h1 d1 with
        | none => rw [q] at e; cases e
        | some t =>
          rw [q] at e
          cases e
          exact ⟨v, t, isT t TT, rfl, tyN_D S1 R1 q, kit_all X.K t (tyN_in q) TT hT, k ρ1 _ H1 (rel_bl.mpr rfl) S1 E1⟩
/-! ### slices of lists -/
abbrev RO := LI → HI → Option (Option Int × HI)
def pNo : RO := fun _ h => some (none, h)
def pAt (f : RE) : RO := fun l h => (f l h).bind fun r => match r.1 with | .int i => some (some i, r.2) | _ => none
def tMO (K : PySem.W.Frag) (f : RO) : TO := fun σ H Q => ∃ ρ l h o h', SimH K ρ h H ∧ SimL K H ρ l σ ∧ f l h = some (o, h') ∧ OutB K ρ H h' (Q o)
@[irreducible] def OMo (X : Cx) (e : Option Expr) (f : RO) : Prop := PO X e (tMO X.K f)
theorem PO.imp {X : Cx} {e : Option Expr} {t t' : TO} (h : PO X e t) (i : ∀ σ H Q, t' σ H Q → t σ H Q) : PO X e t' := fun pins s σ H Q I q => h pins s σ H Q I (i σ H Q q)
theorem om_some (ha : EM X a fa) : OMo X (some a) (pAt fa) := by
  with_unfolding_all
    exact PO.imp (po_some ha) fun σ H Q ⟨ρ, l, h, o, h', S, L, e, k⟩ => by
      obtain ⟨⟨d1, h1⟩, e1, e⟩ := bindE e
      refine ⟨ρ, l, h, d1, h1, S, L, e1, fun ρ1 v H1 R1 S1 E1 => ?_⟩
      cases d1 with
      | int i =>
        cases e
        exact ⟨i, rel_int.mp R1, k ρ1 H1 S1 E1⟩
      | _ => cases e
def cutD (xs : List Dt) (lo hi : Option Int) : List Dt := (xs.drop (HT.sIx xs.length 0 lo)).take (HT.sIx xs.length xs.length hi - HT.sIx xs.length 0 lo)
def eSl (f : RE) (lo hi : RO) : RE := fun l h => (f l h).bind fun r => (lo l r.2).bind fun o => (hi l o.2).bind fun u => (seqL u.2 r.1).map fun xs => (.lst (cutD xs o.1 u.1), u.2)
theorem cut_rel {K : PySem.W.Frag} {H : Hp} {ρ : Rg} {xs : List Dt} {vs : List V} (r : RelDs K H ρ xs vs) (lo hi : Option Int) : RelDs K H ρ (cutD xs lo hi) (cutV vs lo hi) := by
  unfold cutD cutV
  rw [r.length]
  exact (r.drop _).take _
theorem em_slice {lo hi : Option Expr} {fl fh : RO} (ha : EM X a fa) (hl : OMo X lo fl) (hh : OMo X hi fh) : EM X (.Subscript a (.Slice lo hi none p2) pos) (eSl fa fl fh) := by
  with_unfolding_all
    exact PE.imp (pe_slice sl_list ha hl hh) fun σ H Q ⟨ρ, l, h, d, h', S, L, e, k⟩ => by
      obtain ⟨⟨d1, h1⟩, e1, e⟩ := bindE e
      obtain ⟨⟨o, h2⟩, e2, e⟩ := bindE e
      obtain ⟨⟨u, h3⟩, e3, e⟩ := bindE e
      refine ⟨ρ, l, h, d1, h1, S, L, e1, fun ρ1 v H1 R1 S1 E1 => ⟨ρ1, l, h1, o, h2, S1, L.ext E1, e2, fun ρ2 H2 S2 E2 => ⟨ρ2, l, h2, u, h3, S2, L.ext (E1.trans E2), e3, fun ρ3 H3 S3 E3 => ?_⟩⟩⟩
      cases q : seqL h3 d1 with
      | none => dsimp only at e; rw [q] at e; cases e
      | some xs =>
        dsimp only at e
        rw [q] at e
        cases e
        obtain ⟨x, vs, z, sq, r⟩ := seqL_at S3 (RelD.ext (E2.trans E3) _ R1) q
        exact ⟨x, vs, z, sq, fun p hp => k ρ3 _ _ (newLst S3 (cut_rel r o u) hp) (S3.fresh hp) (E1.trans (E2.trans (E3.trans (Ext.fresh hp))))⟩
/-! ### methods of lists and tuples -/
def eApp (fo fa : RE) : RE := fun l h => (fo l h).bind fun r => match r.1 with
  | .ref n => (fa l r.2).bind fun q => match q.2[n]? with
    | some (.lst xs) => if xs.length < sizeLine then some (.non, q.2.set n (.lst (xs ++ [q.1]))) else none
    | _ => none
  | _ => none
theorem lst_ty {K : PySem.W.Frag} {H : Hp} {ρ : Rg} {h : HI} {n : Nat} {xs : List Dt} {v : V} (S : SimH K ρ h H) (R : RelD K H ρ (.ref n) v) (e : h[n]? = some (.lst xs)) : tyV K "list" v H := by
  obtain ⟨a, z, ha⟩ := rel_ref.mp R
  subst z
  obtain ⟨vs, h1, _⟩ := S.lst ha e
  exact .inl ⟨rfl, vs, SqL.of h1⟩
def eAppend (fa fb : RE) : RE := fun l h => (fa l h).bind fun r => match r.1 with
      | .ref n => match r.2[n]? with
        | some (.lst _) => eApp (eC (.ref n)) fb l r.2
        | _ => none
      | _ => none
theorem em_append {apos cpos : Pos} (ho : EM X a fa) (hb : EM X b fb) (hbase : attributeBase a "append" X.env (eval a X.env) = eval a X.env := by rfl)
    (hline : (apos.endLine == cpos.line) = true := by rfl) (hs : notStar b = true := by rfl) :
    EM X (.Call (.Attribute a "append" apos) [b] [] cpos) (eAppend fa fb) := by
  with_unfolding_all
    exact PE.imp (pe_bm PySem.F.plainAttrs_list PySem.F.slot_list_append PySem.F.type_list_append mt_append ho (pa_cons hb pa_nil (star_of hs _ _)) hbase (star_few hs) hline (star_of hs _ _)) fun σ H Q ⟨ρ, l, h, d, h', S, L, e, k⟩ => by
      obtain ⟨⟨d1, h1⟩, e1, e⟩ := bindE e
      refine ⟨ρ, l, h, d1, h1, S, L, e1, fun ρ1 v H1 R1 S1 E1 => ?_⟩
      cases d1 with
      | ref n =>
        dsimp only at e
        split at e
        · rename_i xs0 q0
          obtain ⟨⟨d0, h0⟩, z0, e⟩ := bindE e
          cases z0
          dsimp only at e
          obtain ⟨⟨d2, h2⟩, e2, e⟩ := bindE e
          refine ⟨lst_ty S1 R1 q0, ρ1, l, h1, d2, h2, S1, L.ext E1, e2, fun ρ2 y H2 R2 S2 E2 => ?_⟩
          dsimp only at e
          split at e
          · rename_i xs q
            obtain ⟨hz, e⟩ := ifE e
            cases e
            obtain ⟨a, z, ha⟩ := rel_ref.mp R1
            subst z
            have ha2 := E2.get ha
            obtain ⟨vs, g1, g2⟩ := S2.lst ha2 q
            have hm := List.mem_of_getElem? ha2
            refine ⟨a, vs, y, rfl, rfl, g1, by rw [g2.length]; exact hz, k ρ2 _ _ (rel_non.mpr rfl) (S2.write ha2 (nfz g1) ⟨_, upd_same, ?_⟩) (E1.trans (E2.trans (Ext.write hm (nfz g1))))⟩
            exact (g2.append (.cons R2 .nil)).ext (Ext.write hm (nfz g1))
          · cases e
        · cases e
      | _ => cases e
end
end SM
namespace SM
open PySem PySem.Spec PyProof.Rows L2
/-! ### .index of lists and tuples -/
def idxD : List Dt → Dt → Option Nat
  | [], _ => none
  | y :: ys, x => if eqD y x = true then some 0 else (idxD ys x).map (· + 1)
theorem idxD_spec : ∀ {ys : List Dt} {x : Dt} {j : Nat}, idxD ys x = some j → (∃ y, ys[j]? = some y ∧ eqD y x = true) ∧ ∀ (m : Nat), m < j → ∃ y, ys[m]? = some y ∧ eqD y x = false
  | [], _, _, e => by simp only [idxD] at e; cases e
  | y :: ys, x, j, e => by
    simp only [idxD] at e
    by_cases h : eqD y x = true
    · rw [if_pos h] at e
      cases e
      exact ⟨⟨y, rfl, h⟩, fun m hm => absurd hm (Nat.not_lt_zero _)⟩
    · rw [if_neg h] at e
      cases q : idxD ys x with
      | none => rw [q] at e; cases e
      | some k =>
        rw [q] at e
        cases e
        obtain ⟨⟨z, z1, z2⟩, no⟩ := idxD_spec q
        refine ⟨⟨z, by simpa using z1, z2⟩, fun m hm => ?_⟩
        cases m with
        | zero => exact ⟨y, rfl, by simpa using h⟩
        | succ m =>
          obtain ⟨u, u1, u2⟩ := no m (Nat.lt_of_succ_lt_succ hm)
          exact ⟨u, by simpa using u1, u2⟩
section
variable {X : Cx} {pins : List (Addr × Obj)} {σ : L2.St} {H : Hp} {s : Shared} {ρ : Rg}
def csD (xs : List Dt) (d : Dt) (k : Nat) : Bool := match xs[k]? with | some z => eqD z d | none => false
theorem pureDs_get : ∀ {xs : List Dt} {k : Nat} {z : Dt}, pureDs xs = true → xs[k]? = some z → pureD z = true
  | [], _, _, _, e => by simp at e
  | x :: xs, 0, z, h, e => by simp only [pureDs, Bool.and_eq_true] at h; simp at e; subst e; exact h.1
  | x :: xs, k + 1, z, h, e => by simp only [pureDs, Bool.and_eq_true] at h; exact pureDs_get h.2 (by simpa using e)
theorem depDs_get : ∀ {xs : List Dt} {k : Nat} {z : Dt}, xs[k]? = some z → depD z ≤ depDs xs
  | [], _, _, e => by simp at e
  | x :: xs, 0, z, e => by simp at e; subst e; simp only [depDs]; exact Nat.le_max_left _ _
  | x :: xs, k + 1, z, e => by
    simp only [depDs]
    exact Nat.le_trans (depDs_get (xs := xs) (k := k) (by simpa using e)) (Nat.le_max_right _ _)
open Classical in
theorem idx_e (I : Inv X pins σ H s) {xs : List Dt} {d : Dt} {ws : List V} {v : V} {its : List Value} {u : Value} (A : Around) (p : pureDs xs = true) (p' : pureD d = true) (hu : A.units + depDs xs < cLine) (rs : RelDs X.K H ρ xs ws) (rd : RelD X.K H ρ d v) (rv : Vals ws its) (ru : RelV v u) :
    ∃ e : Value → Bool, (∀ (k : Nat) (hk : k < its.length), e its[k] = csD xs d k) ∧ ∀ y ∈ its, SeqAt.EqAt A s y u (e y) := by
  have key : ∀ (k : Nat) (y : Value), its[k]? = some y → ∃ z w, xs[k]? = some z ∧ ws[k]? = some w ∧ RelD X.K H ρ z w ∧ RelV w y := fun k y e => by
    have hl := rv.length
    have hk : k < xs.length := by
      have := (List.getElem?_eq_some_iff.mp e).1
      have h2 := rs.length
      omega
    obtain ⟨w, w1, w2⟩ := rs.get (List.getElem?_eq_getElem hk)
    obtain ⟨y', y1, y2⟩ := rv.get w1
    rw [e] at y1
    cases y1
    exact ⟨_, w, List.getElem?_eq_getElem hk, w1, w2, y2⟩
  have same : ∀ (k m : Nat) (y : Value), its[k]? = some y → its[m]? = some y → csD xs d k = csD xs d m := fun k m y e1 e2 => by
    obtain ⟨z, w, a1, _, a3, a4⟩ := key k y e1
    obtain ⟨z', w', b1, _, b3, b4⟩ := key m y e2
    have ew := RelV.inj a4 b4
    subst ew
    have ez := rel_inj I z z' (pureDs_get p a1) (pureDs_get p b1) a3 b3
    unfold csD
    rw [a1, b1, ez]
  refine ⟨fun y => if h : ∃ k, its[k]? = some y then csD xs d h.choose else false, fun k hk => ?_, fun y hy => ?_⟩
  · have hex : ∃ m, its[m]? = some its[k] := ⟨k, List.getElem?_eq_getElem hk⟩
    dsimp only
    rw [dif_pos hex]
    exact same _ _ _ hex.choose_spec (List.getElem?_eq_getElem hk)
  · obtain ⟨k, hk⟩ := List.mem_iff_getElem?.mp hy
    have hex : ∃ m, its[m]? = some y := ⟨k, hk⟩
    dsimp only
    rw [dif_pos hex]
    obtain ⟨z, w, a1, _, a3, a4⟩ := key _ y hex.choose_spec
    have ec : csD xs d hex.choose = eqD z d := by unfold csD; rw [a1]
    rw [ec]
    exact eqAt_D I z d A (pureDs_get p a1) p' (by have := depDs_get a1; omega) a3 rd a4 ru
theorem idx_hit {xs : List Dt} {d : Dt} {j : Nat} (h : idxD xs d = some j) : j < xs.length ∧ csD xs d j = true ∧ ∀ m, m < j → csD xs d m = false := by
  obtain ⟨⟨y, y1, y2⟩, no⟩ := idxD_spec h
  refine ⟨(List.getElem?_eq_some_iff.mp y1).1, by unfold csD; rw [y1]; exact y2, fun m hm => ?_⟩
  obtain ⟨z, z1, z2⟩ := no m hm
  unfold csD
  rw [z1]
  exact z2
end
def idxOk (xs : List Dt) (d : Dt) : Bool := pureDs xs && pureD d && decide (depDs xs ≤ 50)
def rIdx (K : PySem.W.Frag) (tup : Bool) : V → List V → Hp → VK → Prop := fun x vs H Q => ∃ ρ xs d y a ws j, x = .ref a ∧ vs = [y] ∧ (if tup = true then SqT K H a ws else SqL K H a ws) ∧ RelDs K H ρ xs ws ∧ RelD K H ρ d y ∧ idxOk xs d = true ∧ idxD xs d = some j ∧ Q (.int (j : Nat)) H
section
variable {X : Cx} {a b : Expr} {fa fb : RE}
theorem mt_lindex (hu : X.A.units + 64 < cLine) : MtR X "list.index" (rIdx X.K false) := by
  intro pins s σ H x vs v us Q I rx rv h
  obtain ⟨ρ, xs, d, y, p, ws, j, rfl, rfl, sq, rs, rd, ok, hj, q⟩ := h
  rw [if_neg Bool.false_ne_true] at sq
  cases rx
  obtain ⟨u, rfl, ru⟩ := vals1 rv
  simp only [idxOk, Bool.and_eq_true, decide_eq_true_eq] at ok
  obtain ⟨its, rw', ⟨⟨c1, d1, t1, sl1⟩, n, e0, k1, k2, k3⟩, z⟩ := I.list sq
  simp only at k1 k2 k3
  subst k1 k2 k3
  obtain ⟨e, e1, e2⟩ := idx_e I X.A.in1 ok.1.1 ok.1.2 (by have := in1_units X.A; omega) rs rd rw' ru
  obtain ⟨j1, j2, j3⟩ := idx_hit hj
  have hl : its.length = xs.length := by rw [← rw'.length, rs.length]
  have hz : j < its.length := by omega
  have hn := line63
  refine call_meets PySem.F.slot_list_index ⟨_, e0, rfl⟩ PySem.F.entry_list_index (PySem.F.args_list_index_2 _ _)
    (SeqAt.list_indexAt p its.toArray n none sl1 u e j (by rw [List.size_toArray]; exact hz) (by have := rw'.length; omega) ?_ ?_) ⟨e0, fun y hy => e2 y (by simpa using hy), ⟨.int (j : Nat), H, I.tok _, ⟨_, rfl⟩, q⟩⟩
  · have := e1 j hz
    rw [j2] at this
    simpa using this
  · intro m hm hmj
    rw [List.size_toArray] at hm
    have := e1 m hm
    rw [j3 m hmj] at this
    simpa using this
def eIdxL (fo fa : RE) : RE := fun l h => (fo l h).bind fun r => (fa l r.2).bind fun q => match r.1 with
  | .lst xs => if idxOk xs q.1 = true then (idxD xs q.1).map fun j => (.int (j : Nat), q.2) else none
  | _ => none
theorem em_index {apos cpos : Pos} (hu : X.A.units + 64 < cLine) (ho : EM X a fa) (hb : EM X b fb) (hbase : attributeBase a "index" X.env (eval a X.env) = eval a X.env := by rfl)
    (hline : (apos.endLine == cpos.line) = true := by rfl) (hs : notStar b = true := by rfl) :
    EM X (.Call (.Attribute a "index" apos) [b] [] cpos) (eIdxL fa fb) := by
  with_unfolding_all
    exact PE.imp (pe_bm PySem.F.plainAttrs_list PySem.F.slot_list_index PySem.F.type_list_index (mt_lindex hu) ho (pa_cons hb pa_nil (star_of hs _ _)) hbase (star_few hs) hline (star_of hs _ _)) fun σ H Q ⟨ρ, l, h, d, h', S, L, e, k⟩ => by
      obtain ⟨⟨d1, h1⟩, e1, e⟩ := bindE e
      obtain ⟨⟨d2, h2⟩, e2, e⟩ := bindE e
      refine ⟨ρ, l, h, d1, h1, S, L, e1, fun ρ1 v H1 R1 S1 E1 => ?_⟩
      cases d1 with
      | lst xs =>
        obtain ⟨x, ws, z, t, rs⟩ := rel_lst.mp R1
        subst z
        refine ⟨.inl ⟨rfl, ws, t.sq⟩, ρ1, l, h1, d2, h2, S1, L.ext E1, e2, fun ρ2 y H2 R2 S2 E2 => ?_⟩
        dsimp only at e
        by_cases ok : idxOk xs d2 = true
        · rw [if_pos ok] at e
          cases q : idxD xs d2 with
          | none => rw [q] at e; cases e
          | some j =>
            rw [q] at e
            cases e
            exact ⟨ρ2, xs, d2, y, x, ws, j, rfl, rfl, by rw [if_neg Bool.false_ne_true]; exact (t.same E2.same).sq, rs.ext E2, R2, ok, q, k ρ2 _ H2 (rel_int.mpr rfl) S2 (E1.trans E2)⟩
        · rw [if_neg ok] at e
          cases e
      | _ => cases e
/-! ### the module's constants, read off -/
def readK (K : PySem.W.Frag) : Nat → Value → Option Dt
  | _, .none => some .non
  | _, .bool b => some (.bl b)
  | _, .int i _ => some (.int i)
  | _, .str x _ => some (.str x)
  | 0, _ => none
  | n + 1, .ref a => match K.lookup a with
    | some ⟨.type T, dd, .seq its _, _⟩ => if its.size ≤ sizeLine then
        if T = "tuple" then (its.toList.mapM (readK K n)).map .tup
        else if T = "list" then match dd with | none => (its.toList.mapM (readK K n)).map .lst | some _ => none
        else none
      else none
    | _ => none
  | _, _ => none
def vOf : Value → V
  | .none => .non
  | .bool b => .bl b
  | .int i _ => .int i
  | .str x _ => .str x
  | .ref a => .ref a
  | _ => .non
theorem mapM_rel {K : PySem.W.Frag} {H : Hp} {ρ : Rg} {f : Value → Option Dt} (h : ∀ u d, f u = some d → RelV (vOf u) u ∧ RelD K H ρ d (vOf u)) : ∀ {us : List Value} {ds : List Dt}, us.mapM f = some ds → Vals (us.map vOf) us ∧ RelDs K H ρ ds (us.map vOf)
  | [], _, e => by
    simp at e
    subst e
    exact ⟨.nil, .nil⟩
  | u :: us, ds, e => by
    rw [List.mapM_cons] at e
    cases q : f u with
    | none => rw [q] at e; cases e
    | some d =>
      rw [q] at e
      cases q2 : us.mapM f with
      | none => rw [q2] at e; cases e
      | some ds' =>
        rw [q2] at e
        cases e
        obtain ⟨h1, h2⟩ := h u d q
        obtain ⟨h3, h4⟩ := mapM_rel h q2
        exact ⟨.cons h1 h3, .cons h2 h4⟩
theorem readK_rel {K : PySem.W.Frag} {H : Hp} {ρ : Rg} : ∀ (n : Nat) (u : Value) (d : Dt), readK K n u = some d → RelV (vOf u) u ∧ RelD K H ρ d (vOf u) := by
  intro n
  induction n with
  | zero =>
    intro u d e
    cases u with
    | none => simp only [readK] at e; cases e; exact ⟨rfl, rel_non.mpr rfl⟩
    | bool b => simp only [readK] at e; cases e; exact ⟨rfl, rel_bl.mpr rfl⟩
    | int i t => simp only [readK] at e; cases e; exact ⟨⟨_, rfl⟩, rel_int.mpr rfl⟩
    | str x t => simp only [readK] at e; cases e; exact ⟨⟨_, rfl⟩, rel_str.mpr rfl⟩
    | _ => simp only [readK] at e <;> cases e
  | succ n ih =>
    intro u d e
    cases u with
    | none => simp only [readK] at e; cases e; exact ⟨rfl, rel_non.mpr rfl⟩
    | bool b => simp only [readK] at e; cases e; exact ⟨rfl, rel_bl.mpr rfl⟩
    | int i t => simp only [readK] at e; cases e; exact ⟨⟨_, rfl⟩, rel_int.mpr rfl⟩
    | str x t => simp only [readK] at e; cases e; exact ⟨⟨_, rfl⟩, rel_str.mpr rfl⟩
    | ref a =>
      simp only [readK] at e
      split at e
      · rename_i T dd its m sl q
        by_cases hz : its.size ≤ sizeLine
        · rw [if_pos hz] at e
          by_cases hT : T = "tuple"
          · rw [if_pos hT] at e
            cases q2 : its.toList.mapM (readK K n) with
            | none => rw [q2] at e; cases e
            | some ds =>
              rw [q2] at e
              cases e
              obtain ⟨h1, h2⟩ := mapM_rel (K := K) (H := H) (ρ := ρ) ih q2
              subst hT
              exact ⟨rfl, rel_tup.mpr ⟨a, _, rfl, .inr ⟨_, its, m, q, rfl, rfl, hz, h1⟩, h2⟩⟩
          · rw [if_neg hT] at e
            by_cases hT2 : T = "list"
            · rw [if_pos hT2] at e
              split at e
              · cases q2 : its.toList.mapM (readK K n) with
                | none => rw [q2] at e; cases e
                | some ds =>
                  rw [q2] at e
                  cases e
                  obtain ⟨h1, h2⟩ := mapM_rel (K := K) (H := H) (ρ := ρ) ih q2
                  subst hT2
                  exact ⟨rfl, rel_lst.mpr ⟨a, _, rfl, .inr ⟨_, its, m, q, rfl, rfl, rfl, hz, h1⟩, h2⟩⟩
              · cases e
            · rw [if_neg hT2] at e
              cases e
        · rw [if_neg hz] at e
          cases e
      · cases e
    | _ => simp only [readK] at e <;> cases e
structure Con1 (K : PySem.W.Frag) (mg : Str → Option Value) (x : Str) (d : Dt) : Prop where
  ex : ∃ u n, mg x = some u ∧ readK K n u = some d
theorem em_con {x : Str} {d : Dt} {pos : Pos} (hg : Gl X x) (c : Con1 X.K X.mg x d) (hd : (x == ("__debug__" : Str)) = false := by decide) : EM X (.Name x pos) (eC d) := by
  with_unfolding_all
    obtain ⟨u, n, h1, h2⟩ := c.ex
    exact em_glob hg h1 (readK_rel (H := fun _ => none) (ρ := .nil) n u d h2).1 (fun H ρ => (readK_rel n u d h2).2) hd
def eIdxT (xs : List Dt) (fa : RE) : RE := fun l h => (fa l h).bind fun q => if idxOk xs q.1 = true then (idxD xs q.1).map fun j => (.int (j : Nat), q.2) else none
structure ConT (K : PySem.W.Frag) (mg : Str → Option Value) (x : Str) (xs : List Dt) : Prop where
  ex : ∃ a n o, mg x = some (.ref a) ∧ readK K n (.ref a) = some (.tup xs) ∧ K.lookup a = some o ∧ o.cls = .type "tuple" ∧ o.dict = none
end
/-! ### the law itself -/
theorem law_sp {K : PySem.W.Frag} {F : FnI} {n : Nat} (h : ∀ ns : List Int, ns.length ≤ n → ∃ h', F [.lst (ns.map Dt.int)] [] = some (.bl true, h')) (H : Hp) (a : Addr) (ns : List Int) (hl : ns.length ≤ n) (hS : SqL K H a (ns.map V.int)) :
    spM K 1 F [.ref a] H (fun v _ => v = .bl true) fun _ _ _ => False := by
  obtain ⟨h', e⟩ := h ns hl
  have R : RelD K H .nil (.lst (ns.map Dt.int)) (.ref a) := rel_lst.mpr ⟨a, _, rfl, by
    rcases hS with hS | hS
    · exact .inl ⟨⟨by simp [Rg.nil], by simp [Rg.nil]⟩, hS⟩
    · exact .inr hS, RelDs.ints ns⟩
  exact ⟨.nil, [.lst (ns.map Dt.int)], [], .bl true, h', SimH.nil, .cons R .nil, rfl, e, fun ρ' v H' R' S' E' => rel_bl.mp R'⟩
end SM
namespace SM
open PySem PySem.Spec PyProof.Rows L2
/-! ### defs that are called -/
structure Cal (P : Program) (w : World) (K : PySem.W.Frag) (mg : Str → Option Value) (base : Heap) (k n : Nat) (x : Str) (F : FnI) : Prop where
  ex : ∃ f fd ps, FnOk P w K mg base CX0 k f fd ps (spM K n F) ∧ mg x = some (.ref f) ∧ PySem.W.keepIn K (.ref f) = true ∧ Binds K fd ps []
  len : ∀ ds h r, F ds h = some r → ds.length = n
structure DefAt (K : PySem.W.Frag) (mg : Str → Option Value) (x : Str) (st : Stmt) (ps : List Str) : Prop where
  ex : ∃ f fd, Fun K x x st f fd ∧ mg x = some (.ref f) ∧ Binds K fd ps []
section
variable {P : Program} {w : World} {K : PySem.W.Frag} {mg : Str → Option Value} {base : Heap}
theorem fn_okN {x qual : Str} {st : Stmt} {f : Addr} {fd : FuncData} {N ps : List Str} {k n m : Nat} {body : RS} (F : Fun K x qual st f fd) (S : FnScope N ps (defScope st)) (hn : ps.length = n) (hm : N.length = m)
    (hb : ∀ (cdv : Value) (A : Around) (outer : List Env) (s : Shared) (H : Hp) (E : XK), Room k (A.deeper (envOfC qual (defScope st) s.heap.objs.size f cdv)) →
      ZMs (cxOf CX0 P w K mg base N qual (defScope st) f cdv A outer s H E).nox (defBody st) body) : FnOk P w K mg base CX0 (k + 1) f fd ps (spM K n (fnI n m body)) := by
  with_unfolding_all
    subst hn hm
    exact fn_ok F S hb
theorem cal_of {x : Str} {st : Stmt} {N ps : List Str} {k n m : Nat} {body : RS} (D : DefAt K mg x st ps) (S : FnScope N ps (defScope st)) (hn : ps.length = n) (hm : N.length = m)
    (hb : ∀ (f : Addr) (cdv : Value) (A : Around) (outer : List Env) (s : Shared) (H : Hp) (E : XK), Room k (A.deeper (envOfC x (defScope st) s.heap.objs.size f cdv)) →
      ZMs (cxOf CX0 P w K mg base N x (defScope st) f cdv A outer s H E).nox (defBody st) body) : Cal P w K mg base (k + 1) n x (fnI n m body) := by
  with_unfolding_all
    subst hn hm
    obtain ⟨f, fd, hF, hm, hB⟩ := D.ex
    exact ⟨⟨f, fd, ps, fn_ok hF S fun cdv A outer s H E hr => hb f cdv A outer s H E hr, hm, hF.kp, hB⟩, fun ds h r e => fnI_len e⟩
end
section
variable {X : Cx} {k k' n : Nat} {F : FnI} {x : Str} {p pos : Pos} {e : Expr} {es : List Expr} {g : RA}
theorem em_call (c : Cal X.prog X.w X.K X.mg X.base k n x F) (hr : Room k' X.A) (hk : k ≤ k') (hg : Gl X x) (ha : AM X (e :: es) g) (hdb : (x == ("__debug__" : Str)) = false := by decide)
    (he : notStar e = true := by rfl) (hpl : es.all notStar = true := by rfl) :
    EM X (.Call (.Name x p) (e :: es) [] pos) (eCall F [] g) := by
  with_unfolding_all
    obtain ⟨f, fd, ps, h1, h2, h3, h4⟩ := c.ex
    exact em_callD h1 (hr.mono hk) hg h2 h3 h4 .nil (fun _ _ => .nil) ha (fun F' e ds h r q => c.len ds h r (e ▸ q)) hdb he hpl
theorem em_call0 (c : Cal X.prog X.w X.K X.mg X.base k n x F) (hr : Room k' X.A) (hk : k ≤ k') (hg : Gl X x) (hdb : (x == ("__debug__" : Str)) = false := by decide) :
    EM X (.Call (.Name x p) [] [] pos) (eCall0 F []) := by
  with_unfolding_all
    obtain ⟨f, fd, ps, h1, h2, h3, h4⟩ := c.ex
    exact em_call0D h1 (hr.mono hk) hg h2 h3 h4 .nil (fun _ _ => .nil) (fun F' e ds h r q => c.len ds h r (e ▸ q)) hdb
end
theorem law_walk {l : PySem.W.OpenLaw} {q : Program} {loose : List Str} {XP : (Str → Option Value) → Heap → Prop} {YP : World → Heap → Prop} {d : DefRec} {K : Params → PySem.W.Frag} {F : FnI} {k : Nat} {x : Str} (hn : l.most = some 63) (hdf : d.params.defaults = []) (hr : Room k callerA)
    (hY : ∀ (w : World) (h : Heap), YP w h → (K w.params).In h)
    (hF : ∀ (w : World) (mg : Str → Option Value) (fa : Addr) (h : Heap), (K w.params).In h → h.Ns mainGlobals mg → mg d.name = some (.ref fa) →
      ∃ fd : FuncData, (∀ (s : Shared) (u : Value), BindsTo s fd ⟨[u], []⟩ [(x, u)]) ∧ ∀ base : Heap, (K w.params).In base → base.Ns mainGlobals mg → FnOk l.prog w (K w.params) mg base CX0 k fa fd [x] (spM (K w.params) 1 F))
    (h : ∀ ns : List Int, ns.length ≤ 63 → ∃ h', F [.lst (ns.map Dt.int)] [] = some (.bl true, h')) : PySem.W.WalkO q loose XP YP l.row.toRowW d [] (fun f vs => PySem.call f vs) :=
  L2.walk_of (n := 63) (k := k) (x := x) (CX := fun _ => CX0) (sp := fun w => spM (K w.params) 1 F) hn (by decide) hdf hr hY hF (fun w H a ns hl _ hS => law_sp h H a ns hl hS) fun _ _ _ _ _ z => z
end SM
/-! all(..), is True -/
namespace L2
open PySem PySem.Spec PyProof.Rows
section
variable {X : Cx}
theorem bls_at : ∀ {bs : List Bool} {us : List Value}, Vals (bs.map V.bl) us → ∀ (i : Nat) (v : Value), us[i]? = some v → v = .bool (bs.getD i false)
  | [], us, r, i, v, e => by
    cases r
    simp at e
  | b :: bs, us, r, i, v, e => by
    cases r with
    | cons r rr =>
      cases i with
      | zero =>
        simp at e
        subst e
        exact r
      | succ i =>
        simpa using bls_at rr i v (by simpa using e)
theorem all_getD (bs : List Bool) : (List.range bs.length).all (fun i => bs.getD i false) = bs.all id := by
  induction bs with
  | nil => rfl
  | cons b bs ih =>
    rw [List.length_cons, List.range_succ_eq_map, List.all_cons, List.all_map, List.all_cons]
    have : ((fun i => (b :: bs).getD i false) ∘ Nat.succ) = fun i => bs.getD i false := by
      funext i
      simp
    rw [this, ih]
    simp
theorem call_allL (hc : X.calm = true) : CallR X (.builtin "all") (fun xs H Q => ∃ (p : Addr) (bs : List Bool), xs = [.ref p] ∧ SqL X.K H p (bs.map V.bl) ∧ Q (.bl (bs.all id)) H) := by
  intro pins s σ H xs us Q I r h
  obtain ⟨p, bs, rfl, hq, q⟩ := h
  obtain ⟨u, rfl, rx⟩ := vals1 r
  cases rx
  obtain ⟨its, r', pl, hz⟩ := I.list hq
  have hlt : p < s.heap.objs.size := by obtain ⟨_, e, _⟩ := pl.isList; exact Heap.lt_size e
  refine call_all_walk (wpAny_pyIter_list pl.isList ?_)
  refine ⟨_, _, _, _, _, _, fun i => bs.getD i false, rfl, Walks.list (A := X.A.in1) (I.ok.hd hc) s.heap.objs.size p (Nat.ne_of_lt hlt) its.toArray, ⟨⟨_, Heap.get?_push_size _ rfl, rfl, rfl⟩, pl.isList.push _⟩, ?_, fun h' tk k => ?_⟩
  · intro i v s2 Q2 E2 hv hQ
    have e := bls_at r' i v (by simpa using hv)
    subst e
    exact wpAny_truthy_bool hQ
  · have hl := r'.length
    have e : (List.range its.toArray.size).all (fun i => bs.getD i false) = bs.all id := by
      rw [show its.toArray.size = bs.length by simp at hl ⊢; omega, all_getD]
    rw [e]
    exact ⟨.bl (bs.all id), H, I.kept (old_kept k), rfl, q⟩
end
end L2
namespace SM
open PySem PySem.Spec PyProof.Rows L2
def blsOf : List Dt → Option (List Bool)
  | [] => some []
  | .bl b :: ds => (blsOf ds).map fun bs => b :: bs
  | _ :: _ => none
theorem blsOf_eq : ∀ {ds : List Dt} {bs : List Bool}, blsOf ds = some bs → ds = bs.map Dt.bl
  | [], bs, e => by
    simp only [blsOf] at e
    cases e
    rfl
  | d :: ds, bs, e => by
    cases d with
    | bl b =>
      simp only [blsOf] at e
      cases q : blsOf ds with
      | none => rw [q] at e; cases e
      | some cs =>
        rw [q] at e
        cases e
        rw [blsOf_eq q]
        rfl
    | _ => simp only [blsOf] at e <;> cases e
theorem RelDs.unbls {K : PySem.W.Frag} {H : Hp} {ρ : Rg} : ∀ {bs : List Bool} {vs : List V}, RelDs K H ρ (bs.map Dt.bl) vs → vs = bs.map V.bl
  | [], _, h => h.unnil
  | n :: ns, _, h => by
    obtain ⟨v, r, rfl, h1, h2⟩ := RelDs.uncons h
    simp only [RelD] at h1
    rw [h1, RelDs.unbls h2]
    rfl
def fAll : Dt → HI → Option (Dt × HI) := fun d h => (seqL h d).bind fun xs => (blsOf xs).map fun bs => (.bl (bs.all id), h)
def oIsB : Op2 := fun a b h => match a, b with
  | .bl d, .bl c => some (.bl (d == c), h)
  | _, _ => none
section
variable {X : Cx} {e : Expr} {f : RE} {p pos : Pos}
theorem em_all (hc : X.calm = true) (hg : Gl X "all") (hm : X.mg "all" = none) (ha : EM X e f) (hs : notStar e = true := by rfl) : EM X (.Call (.Name "all" p) [e] [] pos) (eF1 fAll f) := by
  with_unfolding_all
    exact em_b1 (call_allL hc) (fun ρ h d v d' h' H Q S R e k => by
        obtain ⟨xs, e1, e⟩ := bindE e
        cases q : blsOf xs with
        | none => rw [q] at e; cases e
        | some ns =>
          rw [q] at e
          cases e
          obtain ⟨a, vs, z, sq, r⟩ := seqL_at S R e1
          rw [blsOf_eq q] at r
          rw [r.unbls] at sq
          exact ⟨a, ns, by rw [z], sq, k ρ _ H (rel_bl.mpr rfl) S (Ext.refl _ _)⟩) hg hm PyProof.Rows.boot_all ha (hs := hs)
end
def enumD : Nat → List Dt → List Dt
  | _, [] => []
  | k, x :: xs => .tup [.int (k : Int), x] :: enumD (k + 1) xs
def iEnum (f : RE) : RI := fun l h => (f l h).bind fun r => match r.1 with | .lst xs => some (.vals (enumD 0 xs), r.2) | _ => none
def gSet2 (i j : Nat) : RG := fun d l => match d with
  | .tup [a, b] => some ((l.set i (some a)).set j (some b))
  | _ => none
end SM
/-! enumerate, two names as a target -/
namespace L2
open PySem PySem.Spec PyProof.Rows
section
variable {X : Cx} {pins : List (Addr × Obj)} {σ : List (Option V)} {H : Hp} {s : Shared} {h' : Heap}
end
section
variable {X : Cx}
end
end L2
namespace SM
open PySem PySem.Spec PyProof.Rows L2
section
variable {X : Cx}
theorem gm_two (i j : Nat) {x y : Str} {px py pos : Pos} {x1} (hc : X.calm = true) (hN : X.N.Nodup) (hi : X.N[i]? = some x := by rfl) (hj : X.N[j]? = some y := by rfl)
    (hx : Loc X.env.scope x := by first | exact Or.inl rfl | exact Or.inr rfl) (hy : Loc X.env.scope y := by first | exact Or.inl rfl | exact Or.inr rfl)
    (hf : X.fn x = true ∨ X.env.scope.names.lookup x = some .local := by first | exact .inl rfl | exact .inr rfl | assumption)
    (hf' : X.fn y = true ∨ X.env.scope.names.lookup y = some .local := by first | exact .inl rfl | exact .inr rfl | assumption) : GM X (.Tuple [.Name x px, .Name y py] x1 pos) (gSet2 i j) := by
  with_unfolding_all
    refine PG.imp (pg_tup (n := 2) hc (pgs_cons (pg_name hN hi hx hf) (pgs_cons (pg_name hN hj hy hf') pgs_nil))) fun v σ H Q ⟨ρ, l, h, d, l', S, L, R, e, k⟩ => ?_
    unfold gSet2 at e
    split at e
    · cases e
      obtain ⟨a, vs, rfl, q, r⟩ := rel_tup.mp R
      obtain ⟨v1, r1, rfl, R1, r⟩ := r.uncons
      obtain ⟨v2, r2, rfl, R2, r⟩ := r.uncons
      cases r.unnil
      exact ⟨a, [v1, v2], rfl, q.sq, rfl, v1, [v2], rfl, v2, [], rfl, rfl, k _ ((L.set i R1).set j R2)⟩
    · cases e
end
end SM
/-! Stores at a place, lists times ints, any, zip, deep == through own lists, while, further methods: the functions. -/
namespace SM
open PySem PySem.Spec PyProof.Rows L2
def sSetIx (fe fo fi : RE) : RS := fun l h => (fe l h).bind fun v => (fo l v.2).bind fun o => (fi l o.2).bind fun i => match o.1, i.1 with
  | .ref n, .int k => match i.2[n]? with
    | some (.lst xs) => (ixN xs.length k).bind fun j => some (.nx l (i.2.set n (.lst (xs.set j v.1))))
    | _ => none
  | _, _ => none
def sAsg (g : RG) (fe : RE) : RS := fun l h => (fe l h).bind fun v => (g v.1 l).bind fun l' => some (.nx l' v.2)
def gSet3 (i j k : Nat) : RG := fun d l => match d with
  | .tup [a, b, c] => some (((l.set i (some a)).set j (some b)).set k (some c))
  | _ => none
def repD (d : Dt) (k : Int) : List Dt := List.replicate k.toNat d
def eRep (fa fb : RE) : RE := fun l h => (fa l h).bind fun a => (fb l a.2).bind fun k => match k.1 with
  | .int i => if -(2 ^ 62) ≤ i ∧ i ≤ 1000000 then some (.lst (repD a.1 i), k.2) else none
  | _ => none
def eRepN (fa fb : RE) : RE := fun l h => (fa l h).bind fun a => (fb l a.2).bind fun k => match k.1 with
  | .int i => if -(2 ^ 62) ≤ i ∧ i ≤ 1000000 then some (.ref k.2.length, k.2 ++ [.lst (repD a.1 i)]) else none
  | _ => none
def iZip (fa fb : RE) : RI := fun l h => (fa l h).bind fun r => (fb l r.2).bind fun q => match seqL q.2 r.1, seqL q.2 q.1 with
  | some _, some _ => some (.zp r.1 q.1, q.2)
  | _, _ => none
def allD (f : Dt → Option Dt) : List Dt → Option (List Dt)
  | [] => some []
  | x :: xs => (f x).bind fun y => (allD f xs).map fun ys => y :: ys
def resD (h : HI) : Nat → Dt → Option Dt
  | 0, _ => none
  | n + 1, .tup xs => (allD (resD h n) xs).map .tup
  | n + 1, .lst xs => (allD (resD h n) xs).map .lst
  | n + 1, .ref k => match h[k]? with | some (.lst xs) => (allD (resD h n) xs).map .lst | _ => none
  | _ + 1, .ntp _ => none
  | _ + 1, d => some d
def oEqX : Op2 := fun a b h => (resD h 8 a).bind fun a' => (resD h 8 b).bind fun b' => (oEqD a' b' []).map fun r => (r.1, h)
def oNeX : Op2 := fun a b h => (resD h 8 a).bind fun a' => (resD h 8 b).bind fun b' => (oNeD a' b' []).map fun r => (r.1, h)
def whileL (t : RT) (body : RS) : Nat → RS
  | 0, _, _ => none
  | n + 1, l, h => (t l h).bind fun c => if c.1 = true then (body l c.2).bind fun r => match r with
      | .nx l' h' => whileL t body n l' h'
      | .ct l' h' => whileL t body n l' h'
      | .bk l' h' => some (.nx l' h')
      | .rt d h' => some (.rt d h')
    else some (.nx l c.2)
def sWhile (n : Nat) (t : RT) (body : RS) : RS := fun l h => whileL t body n l h
def eExtend (fo fa : RE) : RE := fun l h => (fo l h).bind fun r => match r.1 with
  | .ref n => match r.2[n]? with
    | some (.lst _) => (fa l r.2).bind fun q => match q.1 with
      | .ref m => match q.2[n]?, q.2[m]? with
        | some (.lst xs), some (.lst ys) => if xs.length + ys.length ≤ sizeLine then some (.non, q.2.set n (.lst (xs ++ ys))) else none
        | _, _ => none
      | _ => none
    | _ => none
  | _ => none
def ePopAt (fo fa : RE) : RE := fun l h => (fo l h).bind fun r => match r.1 with
  | .ref n => match r.2[n]? with
    | some (.lst _) => (fa l r.2).bind fun q => match q.1 with
      | .int 0 => match q.2[n]? with
        | some (.lst (x :: xs)) => some (x, q.2.set n (.lst xs))
        | _ => none
      | _ => none
    | _ => none
  | _ => none
def eF2 (F : Dt → Dt → Option Dt) (fa fb : RE) : RE := fun l h => (fa l h).bind fun r => (fb l r.2).bind fun q => (F r.1 q.1).map fun d => (d, q.2)
def fMax2 : Dt → Dt → Option Dt := fun a b => match a, b with | .int i, .int j => some (.int (if j > i then j else i)) | _, _ => none
def fMin2 : Dt → Dt → Option Dt := fun a b => match a, b with | .int i, .int j => some (.int (if j < i then j else i)) | _, _ => none
def eInsert (fo fi fe : RE) : RE := fun l h => (fo l h).bind fun r => match r.1 with
  | .ref n => match r.2[n]? with
    | some (.lst _) => (fi l r.2).bind fun i => (fe l i.2).bind fun q => match i.1, q.2[n]? with
      | .int k, some (.lst xs) => if 0 ≤ k ∧ k ≤ 1000000 ∧ xs.length < sizeLine then some (.non, q.2.set n (.lst (xs.take k.toNat ++ q.1 :: xs.drop k.toNat))) else none
      | _, _ => none
    | _ => none
  | _ => none
def uInv (f : RE) : RE := fun l h => (f l h).bind fun r => match r.1 with | .int i => some (.int (Builtin.bitNot i), r.2) | _ => none
end SM
/-! Stores at a place, lists times ints, any, zip, deep == through own lists, while, further methods: the rules. -/
namespace L2
open PySem PySem.Spec PyProof.Rows
section
variable {X : Cx}
end
section
variable {X : Cx} {pins : List (Addr × Obj)} {σ : List (Option V)} {H : Hp} {s : Shared} {h' : Heap}
theorem Inv.enumL {t' : Nat} {fp : List Addr} {p : Addr} {xs : List V} (I : Inv X pins σ H s) (k : ∀ b o, b ∉ fp → s.heap.get? b = some o → h'.get? b = some o) (ff : ∀ b ∈ fp, FpOk X pins H b) (hp : s.heap.objs.size ≤ p)
    (new : ObjOk X.prog X.w (upd H p (.tup xs)) h' p (.tup xs)) : Inv X pins σ (upd H p (.tup xs)) { s with heap := h', toks := t' } := by
  have hn : H p = none := I.hok.fresh hp
  have nt : ∀ b u, H b = some u → b ∉ fp := fun b u q z => by rw [(ff b z).1] at q; cases q
  refine I.step (g' := s.gens) (d' := s.drawn) (ch := fp) (fun b hb => ?_) (fun b o _ _ hc q _ => k b o hc q) (fun b o _ _ hc q _ => ⟨o.slots, k b o hc q⟩)
    (fun b o _ q n => by rw [upd_ne (Nat.ne_of_lt (Nat.lt_of_lt_of_le (Heap.lt_size q) hp))]; exact n)
    (fun b o hc q => ⟨o, k b o hc q⟩) (fun b ys q => by rw [upd_ne (ne_of_none q hn)]; exact q) (fun b o u q => by rw [upd_ne (ne_of_none q hn)]; exact q)
    (fun b ps q => ⟨#[], by rw [upd_ne (ne_of_none q hn), q]; simp⟩) (fun m hm => ?_) (fun b u q => ?_) I.bare
  · obtain ⟨e0, e1, e2, e3, e4, e5⟩ := ff b hb
    exact ⟨e3, e1, e4, e5⟩
  · obtain ⟨o, es, ep, ho, r⟩ := hm
    exact ⟨o, es, ep, k _ o (fun z => (ff _ z).2.1 rfl) ho, r⟩
  · by_cases hb : b = p
    · subst hb
      rw [upd_same] at q
      cases q
      exact new
    · rw [upd_ne hb] at q
      refine (I.hok b u q).stay (fun c v hc q' => ?_) (fun c q => by rw [upd_ne (ne_of_none q hn)]; exact q) fun c ys q => by rw [upd_ne (ne_of_none q hn)]; exact q
      rcases hc with z | z
      · subst z
        exact k c v (nt c u q) q'
      · exact k c v (nt c _ z) q'
theorem Inv.turnedL {t' : Nat} {fp : List Addr} (I : Inv X pins σ H s) (k : ∀ b o, b ∉ fp → s.heap.get? b = some o → h'.get? b = some o) (ff : ∀ b ∈ fp, FpOk X pins H b) : Inv X pins σ H { s with heap := h', toks := t' } := by
  have nt : ∀ b u, H b = some u → b ∉ fp := fun b u q z => by rw [(ff b z).1] at q; cases q
  refine I.step (g' := s.gens) (d' := s.drawn) (ch := fp) (fun b hb => ?_) (fun b o _ _ hc q _ => k b o hc q) (fun b o _ _ hc q _ => ⟨o.slots, k b o hc q⟩)
    (fun b o _ q n => n) (fun b o hc q => ⟨o, k b o hc q⟩) (fun b ys q => q) (fun b o u q => q)
    (fun b ps q => ⟨#[], by rw [q]; simp⟩) (fun m hm => ?_) (fun b u q => ?_) I.bare
  · obtain ⟨e0, e1, e2, e3, e4, e5⟩ := ff b hb
    exact ⟨e3, e1, e4, e5⟩
  · obtain ⟨o, es, ep, ho, r⟩ := hm
    exact ⟨o, es, ep, k _ o (fun z => (ff _ z).2.1 rfl) ho, r⟩
  · refine (I.hok b u q).stay (fun c v hc q' => ?_) (fun c q => q) fun c ys q => q
    rcases hc with z | z
    · subst z
      exact k c v (nt c u q) q'
    · exact k c v (nt c _ z) q'
end
section
variable {X : Cx}
end
end L2
namespace SM
open PySem PySem.Spec PyProof.Rows L2
section
variable {X : Cx} {e o i a b : Expr} {f g fe fo fi fa fb : RE} {p pos pos' : Pos}
theorem zm_setIx (he : EM X e fe) (ho : EM X o fo) (hi : EM X i fi)
    (hs : swapsWithSole [.Subscript o i pos'] e pos.line X.env = pure false := by rfl) (hw : swappedStores [.Subscript o i pos'] e X.env = pure none := by rfl) (h1 : (assignEach [.Subscript o i pos'] X.env).map (·.2) = [assign (.Subscript o i pos') X.env] := by rfl)
    (ha : ∀ v, assign (.Subscript o i pos') X.env v = (do
      let ov ← holding [v] (eval o X.env)
      let iv ← holding [v, ov] (eval i X.env)
      standAt pos'
      holding [v, ov, iv] (setItem ov iv v)
      release [v, ov, iv] []) := by intro _; rfl) : ZM X (.Assign [.Subscript o i pos'] e pos) (sSetIx fe fo fi) := by
  with_unfolding_all
    exact PS.imp (ps_asg he (pg_sub ho hi set_list ha) hs hw h1) fun D σ H ⟨ρ, l, h, r, S, L, e, k⟩ => by
      obtain ⟨⟨v, hv⟩, e1, e⟩ := bindE e
      obtain ⟨⟨d, hd⟩, e2, e⟩ := bindE e
      obtain ⟨⟨j, hj⟩, e3, e⟩ := bindE e
      refine ⟨ρ, l, h, v, hv, S, L, e1, fun ρ1 u H1 R1 S1 E1 => ⟨ρ1, l, hv, d, hd, S1, L.ext E1, e2, fun ρ2 y H2 R2 S2 E2 => ⟨ρ2, l, hd, j, hj, S2, L.ext (E1.trans E2), e3, fun ρ3 z H3 R3 S3 E3 => ?_⟩⟩⟩
      cases d with
      | ref n =>
        cases j with
        | int kk =>
          dsimp only at e
          split at e
          · rename_i xs q
            obtain ⟨jj, e4, e⟩ := bindE e
            cases e
            obtain ⟨aa, zz, ha⟩ := rel_ref.mp (RelD.ext E3 _ R2)
            obtain ⟨vs, g1, g2⟩ := S3.lst ha q
            have hm := List.mem_of_getElem? ha
            refine ⟨aa, vs, kk, jj, zz, rel_int.mp R3, g1, by rw [g2.length]; exact e4, ?_⟩
            exact k ρ3 σ _ (S3.write ha (nfz g1) ⟨_, upd_same, (g2.set jj (RelD.ext (E2.trans E3) _ R1)).ext (Ext.write hm (nfz g1))⟩) (L.ext (E1.trans (E2.trans (E3.trans (Ext.write hm (nfz g1)))))) (E1.trans (E2.trans (E3.trans (Ext.write hm (nfz g1)))))
          · cases e
        | _ => cases e
      | _ => cases e
theorem gm_three (i j m : Nat) {x y z : Str} {px py pz pos : Pos} {x1} (hc : X.calm = true) (hN : X.N.Nodup) (hi : X.N[i]? = some x := by rfl) (hj : X.N[j]? = some y := by rfl) (hm : X.N[m]? = some z := by rfl)
    (hx : Loc X.env.scope x := by first | exact Or.inl rfl | exact Or.inr rfl) (hy : Loc X.env.scope y := by first | exact Or.inl rfl | exact Or.inr rfl) (hz : Loc X.env.scope z := by first | exact Or.inl rfl | exact Or.inr rfl)
    (hf : X.fn x = true ∨ X.env.scope.names.lookup x = some .local := by first | exact .inl rfl | exact .inr rfl | assumption)
    (hf' : X.fn y = true ∨ X.env.scope.names.lookup y = some .local := by first | exact .inl rfl | exact .inr rfl | assumption)
    (hf2 : X.fn z = true ∨ X.env.scope.names.lookup z = some .local := by first | exact .inl rfl | exact .inr rfl | assumption) : GM X (.Tuple [.Name x px, .Name y py, .Name z pz] x1 pos) (gSet3 i j m) := by
  with_unfolding_all
    refine PG.imp (pg_tup (n := 3) hc (pgs_cons (pg_name hN hi hx hf) (pgs_cons (pg_name hN hj hy hf') (pgs_cons (pg_name hN hm hz hf2) pgs_nil)))) fun v σ H Q ⟨ρ, l, h, d, l', S, L, R, e, k⟩ => ?_
    unfold gSet3 at e
    split at e
    · cases e
      obtain ⟨a, vs, rfl, q, r⟩ := rel_tup.mp R
      obtain ⟨v1, r1, rfl, R1, r⟩ := r.uncons
      obtain ⟨v2, r2, rfl, R2, r⟩ := r.uncons
      obtain ⟨v3, r3, rfl, R3, r⟩ := r.uncons
      cases r.unnil
      exact ⟨a, [v1, v2, v3], rfl, q.sq, rfl, v1, [v2, v3], rfl, v2, [v3], rfl, v3, [], rfl, rfl, k _ (((L.set i R1).set j R2).set m R3)⟩
    · cases e
theorem flat_rep {α : Type} (v : α) : ∀ k : Nat, (List.replicate k [v]).flatten = List.replicate k v
  | 0 => rfl
  | k + 1 => by rw [List.replicate_succ, List.flatten_cons, flat_rep v k]; rfl
theorem rep_rel {K : PySem.W.Frag} {H : Hp} {ρ : Rg} {d : Dt} {v : V} (r : RelD K H ρ d v) : ∀ k : Nat, RelDs K H ρ (List.replicate k d) (List.replicate k v)
  | 0 => .nil
  | k + 1 => .cons r (rep_rel r k)
theorem rep_read {σ : L2.St} {H : Hp} {Q : VK} (own : Bool) (h : tM X.K (if own = true then eRepN fa fb else eRep fa fb) σ H Q) : tOp rRep (tLst (tCons (tM X.K fa) tNil)) (tM X.K fb) σ H Q := by
  obtain ⟨ρ, l, h, d, h', S, L, e, k⟩ := h
  have e0 : ∃ d1 h1 d2 h2 i, fa l h = some (d1, h1) ∧ fb l h1 = some (d2, h2) ∧ d2 = .int i ∧ (-(2 ^ 62) ≤ i ∧ i ≤ 1000000) ∧ (if own = true then (Dt.ref h2.length, h2 ++ [.lst (repD d1 i)]) else (Dt.lst (repD d1 i), h2)) = (d, h') := by
    cases own with
    | true =>
      rw [if_pos rfl] at e
      obtain ⟨⟨d1, h1⟩, e1, e⟩ := bindE e
      obtain ⟨⟨d2, h2⟩, e2, e⟩ := bindE e
      cases d2 with
      | int i =>
        obtain ⟨c, e⟩ := ifE e
        exact ⟨d1, h1, _, h2, i, e1, e2, rfl, c, e⟩
      | _ => cases e
    | false =>
      rw [if_neg Bool.false_ne_true] at e
      obtain ⟨⟨d1, h1⟩, e1, e⟩ := bindE e
      obtain ⟨⟨d2, h2⟩, e2, e⟩ := bindE e
      cases d2 with
      | int i =>
        obtain ⟨c, e⟩ := ifE e
        exact ⟨d1, h1, _, h2, i, e1, e2, rfl, c, e⟩
      | _ => cases e
  obtain ⟨d1, h1, d2, h2, i, e1, e2, rfl, c, ed⟩ := e0
  refine ⟨ρ, l, h, d1, h1, S, L, e1, fun ρ1 v H1 R1 S1 E1 => ⟨by simp only [List.length_cons, List.length_nil]; rw [sizeLine_eq]; decide, fun q hq => ?_⟩⟩
  refine ⟨ρ1, l, h1, .int i, h2, S1.fresh hq, L.ext (E1.trans (Ext.fresh hq)), e2, fun ρ2 y H2 R2 S2 E2 => ?_⟩
  have hk := E2.keep q _ upd_same (S1.out hq).1
  have hi : i.toNat ≤ 1000000 := by omega
  refine ⟨q, i, [v], rfl, rel_int.mp R2, hk, by omega, by omega, by simp only [List.length_cons, List.length_nil]; rw [sizeLine_eq]; omega, fun q2 hq2 => ?_⟩
  rw [flat_rep]
  have RR : RelDs X.K H2 ρ2 (repD d1 i) (List.replicate i.toNat v) := rep_rel (RelD.ext ((Ext.fresh hq).trans E2) _ R1) _
  have EE := E1.trans ((Ext.fresh hq).trans E2)
  cases own with
  | true =>
    rw [if_pos rfl] at ed
    cases ed
    exact k _ _ _ (newRef S2 RR hq2).1 (newRef S2 RR hq2).2 (EE.trans (Ext.own hq2))
  | false =>
    rw [if_neg Bool.false_ne_true] at ed
    cases ed
    exact k ρ2 _ _ (newLst S2 RR hq2) (S2.fresh hq2) (EE.trans (Ext.fresh hq2))
theorem em_repN (ha : EM X a fa) (hb : EM X b fb) (hs : notStar a = true := by rfl) : EM X (.BinOp (.List [a] p) .Mult b pos) (eRepN fa fb) := by
  with_unfolding_all
    exact PE.imp (pe_op op_rep (pe_lst (pa_cons ha pa_nil (star_of hs _ _))) hb) fun σ H Q h => rep_read (fa := fa) (fb := fb) true h
end
/-! deep == through own lists -/
section
variable {K : PySem.W.Frag} {H : Hp} {ρ : Rg} {h : HI}
theorem SimH.bare (S : SimH K ρ h H) : SimH K ⟨[], ρ.z⟩ [] H := ⟨List.nodup_nil, rfl, fun _ _ _ e => by simp at e, fun a ha => ⟨by simp, (S.zt a ha).2⟩⟩
theorem TupAt.bare {a : Addr} {vs : List V} (t : TupAt K H ρ a vs) : TupAt K H ⟨[], ρ.z⟩ a vs := by
  rcases t with ⟨n, t⟩ | t
  · exact .inl ⟨⟨by simp, n.2⟩, t⟩
  · exact .inr t
theorem LstAt.bare {a : Addr} {vs : List V} (t : LstAt K H ρ a vs) : LstAt K H ⟨[], ρ.z⟩ a vs := by
  rcases t with ⟨n, t⟩ | t
  · exact .inl ⟨⟨by simp, n.2⟩, t⟩
  · exact .inr t
end
section
variable {X : Cx}
end
end SM
namespace SM
open PySem PySem.Spec PyProof.Rows L2
section
variable {X : Cx} {e o i a b : Expr} {f g fe fo fi fa fb : RE} {p pos pos' apos cpos : Pos}
theorem em_extend (ho : EM X a fa) (hb : EM X b fb) (hbase : attributeBase a "extend" X.env (eval a X.env) = eval a X.env := by rfl)
    (hline : (apos.endLine == cpos.line) = true := by rfl) (hs : notStar b = true := by rfl) :
    EM X (.Call (.Attribute a "extend" apos) [b] [] cpos) (eExtend fa fb) := by
  with_unfolding_all
    exact PE.imp (pe_bm PySem.F.plainAttrs_list PySem.F.slot_list_extend PySem.F.type_list_extend mt_extend ho (pa_cons hb pa_nil (star_of hs _ _)) hbase (star_few hs) hline (star_of hs _ _)) fun σ H Q ⟨ρ, l, h, d, h', S, L, e, k⟩ => by
      obtain ⟨⟨d1, h1⟩, e1, e⟩ := bindE e
      refine ⟨ρ, l, h, d1, h1, S, L, e1, fun ρ1 v H1 R1 S1 E1 => ?_⟩
      cases d1 with
      | ref n =>
        dsimp only at e
        split at e
        · rename_i xs0 q0
          obtain ⟨⟨d2, h2⟩, e2, e⟩ := bindE e
          refine ⟨lst_ty S1 R1 q0, ρ1, l, h1, d2, h2, S1, L.ext E1, e2, fun ρ2 y H2 R2 S2 E2 => ?_⟩
          dsimp only at e
          cases d2 with
          | ref m =>
            dsimp only at e
            split at e
            · rename_i xs ys q1 q2
              obtain ⟨hz, e⟩ := ifE e
              cases e
              obtain ⟨a, z, ha⟩ := rel_ref.mp R1
              subst z
              obtain ⟨a2, z2, ha2'⟩ := rel_ref.mp R2
              subst z2
              have ha2 := E2.get ha
              obtain ⟨vs, g1, g2⟩ := S2.lst ha2 q1
              obtain ⟨ws, g3, g4⟩ := S2.lst ha2' q2
              have hm := List.mem_of_getElem? ha2
              refine ⟨a, a2, vs, ws, rfl, rfl, g1, g3, by rw [g2.length, g4.length]; exact hz, k ρ2 _ _ (rel_non.mpr rfl) (S2.write ha2 (nfz g1) ⟨_, upd_same, ?_⟩) (E1.trans (E2.trans (Ext.write hm (nfz g1))))⟩
              exact (g2.append g4).ext (Ext.write hm (nfz g1))
            · cases e
          | _ => cases e
        · cases e
      | _ => cases e
theorem zm_while {c : Expr} {body : List Stmt} {t : RT} {u : RS} {n : Nat} (hp : PassesOwn (model X.prog X.w) X.A X.env X.xe) (hc : TM X c t) (hb : ZMs X body u) : ZM X (.While c body [] pos) (sWhile n t u) := by
  with_unfolding_all
    exact PS.imp (ps_while hp hc hb) fun D σ H ⟨ρ, l, h, r, S, L, e, k⟩ => by
      refine ⟨fun m σ' H' => ∃ ρ' l' h', SimH X.K ρ' h' H' ∧ SimL X.K H' ρ' l' σ' ∧ Ext ρ ρ' H H' ∧ whileL t u m l' h' = some r, ⟨n, ρ, l, h, S, L, Ext.refl _ _, e⟩, ?_⟩
      rintro m σ' H' ⟨ρ', l', h', S', L', E', e'⟩
      cases m with
      | zero => simp only [whileL] at e'; cases e'
      | succ m =>
        simp only [whileL] at e'
        obtain ⟨⟨b, h1⟩, e1, e'⟩ := bindE e'
        refine ⟨ρ', l', h', b, h1, S', L', e1, fun ρ2 H2 S2 E2 => ?_⟩
        cases b with
        | true =>
          rw [if_pos rfl] at e'
          obtain ⟨r1, e2, e'⟩ := bindE e'
          refine iteT ⟨fun σ3 H3 => ∃ m', m' < m + 1 ∧ ∃ ρ' l' h', SimH X.K ρ' h' H3 ∧ SimL X.K H3 ρ' l' σ3 ∧ Ext ρ ρ' H H3 ∧ whileL t u m' l' h' = some r, fun σ3 H3 q => q, ρ2, l', h1, r1, S2, L'.ext E2, e2, ?_⟩
          cases r1 with
          | nx l2 h2 => exact fun ρ5 σ5 H5 S5 L5 E5 => ⟨m, Nat.lt_succ_self _, ρ5, l2, h2, S5, L5, E'.trans (E2.trans E5), e'⟩
          | ct l2 h2 => exact fun ρ5 σ5 H5 S5 L5 E5 => ⟨m, Nat.lt_succ_self _, ρ5, l2, h2, S5, L5, E'.trans (E2.trans E5), e'⟩
          | bk l2 h2 =>
            cases e'
            exact fun ρ5 σ5 H5 S5 L5 E5 => k ρ5 σ5 H5 S5 L5 (E'.trans (E2.trans E5))
          | rt d2 h2 =>
            cases e'
            exact fun ρ5 v5 H5 R5 S5 E5 => k ρ5 v5 H5 R5 S5 (E'.trans (E2.trans E5))
        | false =>
          rw [if_neg Bool.false_ne_true] at e'
          cases e'
          exact iteF (k ρ2 σ' H2 S2 (L'.ext E2) (E'.trans E2))
theorem em_max2 (hc : X.calm = true) (hg : Gl X "max") (hm : X.mg "max" = none) (ha : EM X a fa) (hb : EM X b fb) (hs : notStar a = true := by rfl) (hs2 : notStar b = true := by rfl) : EM X (.Call (.Name "max" p) [a, b] [] pos) (eF2 fMax2 fa fb) := by
  with_unfolding_all
    exact PE.imp (pe_callB (call_max2 hc) hg hm PyProof.Rows.boot_max (pa_cons ha (pa_cons hb pa_nil (star_of hs2 _ _)) (star_of hs _ _)) (he := star_of hs _ _) (hpl := star_any (by rw [List.all_cons, hs2]; rfl))) fun σ H Q ⟨ρ, l, h, d, h', S, L, e, k⟩ => by
      obtain ⟨⟨d1, h1⟩, e1, e⟩ := bindE e
      obtain ⟨⟨d2, h2⟩, e2, e⟩ := bindE e
      refine ⟨ρ, l, h, d1, h1, S, L, e1, fun ρ1 v H1 R1 S1 E1 => ⟨ρ1, l, h1, d2, h2, S1, L.ext E1, e2, fun ρ2 u H2 R2 S2 E2 => ?_⟩⟩
      cases d1 with
      | int i =>
        cases d2 with
        | int j =>
          cases e
          exact ⟨i, j, by rw [rel_int.mp R1, rel_int.mp R2], k ρ2 _ H2 (rel_int.mpr rfl) S2 (E1.trans E2)⟩
        | _ => cases e
      | _ => cases e
theorem em_min2 (hc : X.calm = true) (hg : Gl X "min") (hm : X.mg "min" = none) (ha : EM X a fa) (hb : EM X b fb) (hs : notStar a = true := by rfl) (hs2 : notStar b = true := by rfl) : EM X (.Call (.Name "min" p) [a, b] [] pos) (eF2 fMin2 fa fb) := by
  with_unfolding_all
    exact PE.imp (pe_callB (call_min2 hc) hg hm PyProof.Rows.boot_min (pa_cons ha (pa_cons hb pa_nil (star_of hs2 _ _)) (star_of hs _ _)) (he := star_of hs _ _) (hpl := star_any (by rw [List.all_cons, hs2]; rfl))) fun σ H Q ⟨ρ, l, h, d, h', S, L, e, k⟩ => by
      obtain ⟨⟨d1, h1⟩, e1, e⟩ := bindE e
      obtain ⟨⟨d2, h2⟩, e2, e⟩ := bindE e
      refine ⟨ρ, l, h, d1, h1, S, L, e1, fun ρ1 v H1 R1 S1 E1 => ⟨ρ1, l, h1, d2, h2, S1, L.ext E1, e2, fun ρ2 u H2 R2 S2 E2 => ?_⟩⟩
      cases d1 with
      | int i =>
        cases d2 with
        | int j =>
          cases e
          exact ⟨i, j, by rw [rel_int.mp R1, rel_int.mp R2], k ρ2 _ H2 (rel_int.mpr rfl) S2 (E1.trans E2)⟩
        | _ => cases e
      | _ => cases e
end
end SM
namespace L2
open PySem PySem.Spec PyProof.Rows
section
variable {X : Cx}
end
end L2
namespace SM
open PySem PySem.Spec PyProof.Rows L2
section
variable {X : Cx} {e o i a b : Expr} {f g fe fo fi fa fb : RE} {p pos pos' apos cpos : Pos}
end
end SM
namespace L2
open PySem PySem.Spec PyProof.Rows

/-! ### lists of pairs as tables -/
section
variable {κ : Type} [DecidableEq κ]
def valV (kvs : List (κ × V)) (k : κ) : Option V := (kvs.find? fun kv => decide (kv.1 = k)).map (·.2)
def putK (kvs : List (κ × V)) (k : κ) (v : V) : List (κ × V) :=
  if (kvs.any fun kv => decide (kv.1 = k)) = true then kvs.map (fun kv => if kv.1 = k then (kv.1, v) else kv) else kvs ++ [(k, v)]
def dropK (kvs : List (κ × V)) (k : κ) : List (κ × V) := kvs.filter fun kv => decide (kv.1 ≠ k)

theorem valV_pos {p : κ × V} {r : List (κ × V)} {k : κ} (e : p.1 = k) : valV (p :: r) k = some p.2 := by simp [valV, List.find?_cons, e]
theorem valV_neg {p : κ × V} {r : List (κ × V)} {k : κ} (e : ¬ p.1 = k) : valV (p :: r) k = valV r k := by simp [valV, List.find?_cons, e]
theorem valV_any (k : κ) : ∀ kvs : List (κ × V), (kvs.any fun kv => decide (kv.1 = k)) = (valV kvs k).isSome
  | [] => rfl
  | p :: r => by
    rw [List.any_cons]
    by_cases e : p.1 = k
    · simp only [valV_pos e, decide_eq_true e, Bool.true_or, Option.isSome_some]
    · rw [valV_neg e, decide_eq_false e, Bool.false_or]; exact valV_any k r
theorem length_putK (kvs : List (κ × V)) (k : κ) (v : V) : (putK kvs k v).length ≤ kvs.length + 1 := by
  unfold putK
  split
  · rw [List.length_map]; omega
  · rw [List.length_append, List.length_cons, List.length_nil]; omega

theorem RelO.isSome_eq {o : Option V} {u : Option Value} (r : RelO o u) : o.isSome = u.isSome := by
  cases o with
  | none => cases u with
    | none => rfl
    | some _ => exact (show False from r).elim
  | some _ => cases u with
    | none => exact (show False from r).elim
    | some _ => rfl
theorem RelO.getD {o : Option V} {u : Option Value} {d : V} {d' : Value} (r : RelO o u) (rd : RelV d d') : RelV (o.getD d) (u.getD d') := by
  cases o with
  | none => cases u with
    | none => exact rd
    | some _ => exact (show False from r).elim
  | some _ => cases u with
    | none => exact (show False from r).elim
    | some _ => exact r

theorem KV.val {kvs : List (κ × V)} {vs : List (κ × Value)} (r : KV kvs vs) (k : κ) : RelO (valV kvs k) (valueAt vs k) := by
  unfold KV at r
  induction r with
  | nil => exact True.intro
  | @cons p q ps qs h t ih =>
    obtain ⟨h1, h2⟩ := h
    by_cases e : p.1 = k
    · have e' : q.1 = k := h1.symm.trans e
      have b : valueAt (q :: qs) k = some q.2 := by simp [valueAt, List.find?_cons, e']
      rw [valV_pos e, b]; exact h2
    · have e' : ¬ q.1 = k := fun z => e (h1.trans z)
      have b : valueAt (q :: qs) k = valueAt qs k := by simp [valueAt, List.find?_cons, e']
      rw [valV_neg e, b]; exact ih
theorem KV.any {kvs : List (κ × V)} {vs : List (κ × Value)} (r : KV kvs vs) (k : κ) : (kvs.any fun kv => decide (kv.1 = k)) = vs.any fun kv => decide (kv.1 = k) := by
  unfold KV at r
  induction r with
  | nil => rfl
  | cons h t ih => rw [List.any_cons, List.any_cons, ih, h.1]
theorem KV.repl {kvs : List (κ × V)} {vs : List (κ × Value)} (r : KV kvs vs) (k : κ) {y : V} {u : Value} (ry : RelV y u) :
    KV (kvs.map fun kv => if kv.1 = k then (kv.1, y) else kv) (vs.map fun kv => if kv.1 = k then (kv.1, u) else kv) := by
  unfold KV at r ⊢
  induction r with
  | nil => exact .nil
  | @cons p q ps qs h t ih =>
    rw [List.map_cons, List.map_cons]
    refine .cons ?_ ih
    obtain ⟨h1, h2⟩ := h
    by_cases e : p.1 = k
    · rw [if_pos e, if_pos (h1.symm.trans e)]; exact ⟨h1, ry⟩
    · rw [if_neg e, if_neg (fun z => e (h1.trans z))]; exact ⟨h1, h2⟩
theorem KV.put {kvs : List (κ × V)} {vs : List (κ × Value)} (r : KV kvs vs) (k : κ) {y : V} {u : Value} (ry : RelV y u) : KV (putK kvs k y) (stored vs k u) := by
  unfold putK stored
  rw [r.any k]
  by_cases e : (vs.any fun kv => decide (kv.1 = k)) = true
  · rw [if_pos e, if_pos e]; exact r.repl k ry
  · rw [if_neg e, if_neg e]; exact Paired.snoc r ⟨rfl, ry⟩
theorem KV.drop {kvs : List (κ × V)} {vs : List (κ × Value)} (r : KV kvs vs) (k : κ) : KV (dropK kvs k) (without vs k) := by
  unfold KV at r ⊢
  unfold dropK without
  induction r with
  | nil => exact .nil
  | @cons p q ps qs h t ih =>
    obtain ⟨h1, h2⟩ := h
    rw [List.filter_cons, List.filter_cons]
    by_cases e : p.1 = k
    · have a : ¬ decide (p.1 ≠ k) = true := by simp [e]
      have b : ¬ decide (q.1 ≠ k) = true := by simp [h1.symm.trans e]
      rw [if_neg a, if_neg b]; exact ih
    · have e' : ¬ q.1 = k := fun z => e (h1.trans z)
      have a : decide (p.1 ≠ k) = true := by simp [e]
      have b : decide (q.1 ≠ k) = true := by simp [e']
      rw [if_pos a, if_pos b]; exact .cons ⟨h1, h2⟩ ih
theorem KV.keys {kvs : List (κ × V)} {vs : List (κ × Value)} (r : KV kvs vs) : kvs.map (·.1) = vs.map (·.1) := by
  unfold KV at r
  induction r with
  | nil => rfl
  | cons h t ih => rw [List.map_cons, List.map_cons, ih, h.1]
theorem KV.length {kvs : List (κ × V)} {vs : List (κ × Value)} (r : KV kvs vs) : kvs.length = vs.length := Paired.length r
end


/-! ### a tracked dict, its keys ints and texts or tuples of these -/
theorem kV_is {P : Program} {w : World} {k : Key} {u : Value} (r : RelV (kV k) u) : (mixKind P w).is k u = true := by
  cases k with
  | inl i => obtain ⟨t, e⟩ := (show ∃ t, u = Value.int i t from r); subst e; exact mixKind_int P w i t
  | inr x => obtain ⟨t, e⟩ := (show ∃ t, u = Value.str x t from r); subst e; exact mixKind_str P w x t
theorem items_are {P : Program} {w : World} : ∀ {ks : List Key} {us : List Value}, Vals (ks.map kV) us → ItemsAre (mixKind P w) ks us
  | [], _, r => by rw [List.map_nil] at r; cases r; exact .nil
  | k :: ks, _, r => by
    rw [List.map_cons] at r
    cases r with
    | cons h t => exact .cons (kV_is h) (items_are t)

abbrev KT (H : Hp) : List (List Key × V) → List (List Key × Addr × Value) → Prop := Paired fun p q => p.1 = q.1 ∧ H q.2.1 = some (.tup (p.1.map kV)) ∧ RelV p.2 q.2.2
theorem KT.val {H : Hp} {kvs : List (List Key × V)} {xs : List (List Key × Addr × Value)} (r : KT H kvs xs) (k : List Key) : RelO (valV kvs k) ((atKey xs k).map (·.2)) := by
  induction r with
  | nil => exact True.intro
  | @cons p q ps qs h t ih =>
    obtain ⟨h1, _, h2⟩ := h
    by_cases e : p.1 = k
    · have e' : q.1 = k := h1.symm.trans e
      have b : atKey (q :: qs) k = some q.2 := by simp [atKey, List.find?_cons, e']
      rw [valV_pos e, b]; exact h2
    · have e' : ¬ q.1 = k := fun z => e (h1.trans z)
      have b : atKey (q :: qs) k = atKey qs k := by simp [atKey, List.find?_cons, e']
      rw [valV_neg e, b]; exact ih
theorem KT.repl {H : Hp} {kvs : List (List Key × V)} {xs : List (List Key × Addr × Value)} (r : KT H kvs xs) (k : List Key) {y : V} {u : Value} (ry : RelV y u) :
    KT H (kvs.map fun kv => if kv.1 = k then (kv.1, y) else kv) (xs.map (putAt k u)) := by
  induction r with
  | nil => exact .nil
  | @cons p q ps qs h t ih =>
    rw [List.map_cons, List.map_cons]
    refine .cons ?_ ih
    obtain ⟨h1, h2, h3⟩ := h
    unfold putAt
    by_cases e : p.1 = k
    · rw [if_pos e, if_pos (h1.symm.trans e)]; exact ⟨h1, h2, ry⟩
    · rw [if_neg e, if_neg (fun z => e (h1.trans z))]; exact ⟨h1, h2, h3⟩
theorem KT.put {H : Hp} {kvs : List (List Key × V)} {xs : List (List Key × Addr × Value)} (r : KT H kvs xs) (k : List Key) {b : Addr} {y : V} {u : Value} (hb : H b = some (.tup (k.map kV))) (ry : RelV y u) :
    KT H (putK kvs k y) (storedH xs k b u) := by
  have e : (kvs.any fun kv => decide (kv.1 = k)) = (atKey xs k).isSome := by
    rw [valV_any, (r.val k).isSome_eq, Option.isSome_map]
  unfold putK storedH
  rw [e]
  by_cases q : (atKey xs k).isSome = true
  · rw [if_pos q, if_pos q]; exact r.repl k ry
  · rw [if_neg q, if_neg q]; exact Paired.snoc r ⟨rfl, hb, ry⟩
theorem KT.keeps {H H' : Hp} {kvs : List (List Key × V)} {xs : List (List Key × Addr × Value)} (r : KT H kvs xs) (ht : ∀ b ys, H b = some (.tup ys) → H' b = some (.tup ys)) : KT H' kvs xs :=
  Paired.mapP r fun _ _ z => ⟨z.1, ht _ _ z.2.1, z.2.2⟩

section
variable {P : Program} {w : World} {H : Hp} {h : Heap} {a : Addr}
theorem rd_of {u : HO} (ok : HOk P w H h) (e : Rd H a u) : ObjOk P w H h a u := e.ok ok
theorem dk_rd {kvs : List (Key × V)} (ok : HOk P w H h) (e : Rd H a (.dK kvs)) : kvs.length ≤ sizeLine ∧ (a == sysModules) = false ∧ ∃ vs, KV kvs vs ∧ h.DictOf (mixKind P w) a vs :=
  show ObjOk P w H h a (.dK kvs) from rd_of ok e
theorem dk_of {kvs : List (Key × V)} (ok : HOk P w H h) (e : H a = some (.dK kvs)) : kvs.length ≤ sizeLine ∧ (a == sysModules) = false ∧ ∃ vs, KV kvs vs ∧ h.DictOf (mixKind P w) a vs := dk_rd ok (.inl e)
theorem key_of {ks : List Key} (ok : HOk P w H h) (e : H a = some (.tup (ks.map kV))) : (tupleKind (mixKind P w)).is h ks a := by
  obtain ⟨_, its, r, o, h1, h2, n, h3⟩ := (show ObjOk P w H h a (.tup (ks.map kV)) from ok a _ e)
  exact ⟨o, its.toArray, n, h1, h2, h3, by simpa using items_are r⟩
theorem dt_rd {kvs : List (List Key × V)} (ok : HOk P w H h) (e : Rd H a (.dT kvs)) : kvs.length ≤ sizeLine ∧ (a == sysModules) = false ∧
    ∃ xs, KT H kvs xs ∧ h.DictOfH (tupleKind (mixKind P w)) a xs := by
  obtain ⟨z, y, xs, r, o, es, ep, h1, h2, h3, h4, h5⟩ := (show ObjOk P w H h a (.dT kvs) from rd_of ok e)
  refine ⟨z, y, xs, r, o, es, ep, h1, h2, h3, h4, fun x hx => ?_, h5⟩
  have all : ∀ {l : List (List Key × V)} {m : List (List Key × Addr × Value)}, KT H l m → ∀ x ∈ m, (tupleKind (mixKind P w)).is h x.1 x.2.1 := by
    intro l m q
    induction q with
    | nil => intro x hx; exact nomatch hx
    | @cons p q ps qs hq t ih =>
      intro x hx
      rcases List.mem_cons.mp hx with e | hx
      · subst e
        exact key_of ok (by rw [← hq.1]; exact hq.2.1)
      · exact ih x hx
  exact all r x hx
theorem dt_of {kvs : List (List Key × V)} (ok : HOk P w H h) (e : H a = some (.dT kvs)) : kvs.length ≤ sizeLine ∧ (a == sysModules) = false ∧
    ∃ xs, KT H kvs xs ∧ h.DictOfH (tupleKind (mixKind P w)) a xs := dt_rd ok (.inl e)
end

def DGet (H : Hp) (a : Addr) (y : V) (r : Option V) : Prop :=
  (∃ kvs k, Rd H a (.dK kvs) ∧ y = kV k ∧ r = valV kvs k) ∨ ∃ kvs k b, Rd H a (.dT kvs) ∧ y = .ref b ∧ H b = some (.tup (k.map kV)) ∧ r = valV kvs k
def DPut (H : Hp) (a : Addr) (y v : V) (H' : Hp) : Prop :=
  (∃ kvs k, H a = some (.dK kvs) ∧ y = kV k ∧ kvs.length < sizeLine ∧ H' = upd H a (.dK (putK kvs k v))) ∨
  ∃ kvs k b, H a = some (.dT kvs) ∧ y = .ref b ∧ H b = some (.tup (k.map kV)) ∧ kvs.length < sizeLine ∧ H' = upd H a (.dT (putK kvs k v))
theorem DGet.k {H : Hp} {a : Addr} {kvs : List (Key × V)} {k : Key} (e : H a = some (.dK kvs)) : DGet H a (kV k) (valV kvs k) := .inl ⟨kvs, k, .inl e, rfl, rfl⟩
theorem DGet.t {H : Hp} {a b : Addr} {kvs : List (List Key × V)} {k : List Key} (e : H a = some (.dT kvs)) (eb : H b = some (.tup (k.map kV))) : DGet H a (.ref b) (valV kvs k) := .inr ⟨kvs, k, b, .inl e, rfl, eb, rfl⟩
theorem DPut.k {H : Hp} {a : Addr} {kvs : List (Key × V)} {k : Key} {v : V} (e : H a = some (.dK kvs)) (hl : kvs.length < sizeLine) : DPut H a (kV k) v (upd H a (.dK (putK kvs k v))) := .inl ⟨kvs, k, e, rfl, hl, rfl⟩
theorem DPut.t {H : Hp} {a b : Addr} {kvs : List (List Key × V)} {k : List Key} {v : V} (e : H a = some (.dT kvs)) (eb : H b = some (.tup (k.map kV))) (hl : kvs.length < sizeLine) :
    DPut H a (.ref b) v (upd H a (.dT (putK kvs k v))) := .inr ⟨kvs, k, b, e, rfl, eb, hl, rfl⟩


section
variable {X : Cx} {pins : List (Addr × Obj)} {σ : St} {H : Hp} {s : Shared} {a : Addr} {y v : V} {u r : Value} {o : Option V} {A : Around} {E : Value → Shared → Prop}

theorem Inv.big (I : Inv X pins σ H s) : sysModules < s.heap.objs.size := by
  have h : mainGlobals < s.heap.objs.size := (I.mod.glob.keeps I.bk).lt
  exact Nat.lt_trans (by decide) h

theorem d_write {h' : Heap} {t' : Nat} {ob : HO} (I : Inv X pins σ H s) (mu : Mut (H a)) (hs : Heap.SameBut a s.heap h') (he : ∃ q, h'.get? a = some q) (new : ObjOk X.prog X.w (upd H a ob) h' a ob) :
    Inv X pins σ (upd H a ob) { s with heap := h', toks := t' } :=
  I.write (x := a) (e := a) mu (.inl rfl) (fun b q hb z => (hs.2 b hb).trans z) he new
theorem dk_new {P : Program} {w : World} {H' : Hp} {h' : Heap} {kvs : List (Key × V)} {vs : List (Key × Value)} (z : kvs.length ≤ sizeLine) (hd : (a == sysModules) = false) (rel : KV kvs vs) (dd : h'.DictOf (mixKind P w) a vs) :
    ObjOk P w H' h' a (.dK kvs) := ⟨z, hd, vs, rel, dd⟩
theorem d_setItem {H' : Hp} {Q : Unit → Shared → Prop} (hu : A.units + 1 < cLine) (I : Inv X pins σ H s) (g : DPut H a y v H') (ry : RelV y u) (rv : RelV v r) (h : ∀ s', Inv X pins σ H' s' → Q () s') :
    wpAny (model X.prog X.w) A (setItem (.ref a) u r) Q E s := by
  rcases g with ⟨kvs, k, e, ey, l, eH⟩ | ⟨kvs, k, b, e, ey, eb, l, eH⟩
  · subst ey eH
    obtain ⟨z, hd, vs, rel, dd⟩ := dk_of I.hok e
    have hz : vs.length ≤ sizeLine := by rw [← rel.length]; exact z
    have hl : (putK kvs k v).length ≤ sizeLine := by have := length_putK kvs k v; omega
    refine wpAny_setItem_pairs (hsz := hz) (kV_is ry) dd fun h' dd' hs => h _ ?_
    have he : ∃ q, h'.get? a = some q := let ⟨q, _, _, hq, _⟩ := dd'; ⟨q, hq⟩
    exact d_write I (by rw [e]; exact True.intro) hs he (dk_new hl hd (rel.put k rv) dd')
  · subst ey eH
    cases (show u = Value.ref b from ry)
    obtain ⟨z, hd, xs, rel, dd⟩ := dt_of I.hok e
    have hz : xs.length ≤ sizeLine := by rw [← Paired.length rel]; exact z
    have hl : (putK kvs k v).length ≤ sizeLine := by have := length_putK kvs k v; omega
    refine wpAny_setItem_heap (hsz := hz) (tupleKind_room_in1 hu) (key_of I.hok eb) dd fun h' dd' hs => h _ ?_
    obtain ⟨q, es, ep, hq, h2, h3, h4, _, h5⟩ := dd'
    refine d_write I (by rw [e]; exact True.intro) hs ⟨q, hq⟩ ⟨hl, hd, _, (rel.put k eb rv).keeps fun c ys ec => ?_, q, es, ep, hq, h2, h3, h4, h5⟩
    rw [upd_ne (ne_of ec e (fun z => nomatch z))]
    exact ec
end

section
variable {X : Cx} {pins : List (Addr × Obj)} {σ : St} {H : Hp} {s : Shared} {a : Addr} {kvs : List (Key × V)} {k : Key} {u : Value} {A : Around} {E : Value → Shared → Prop}
end


/-! ### readings and rules -/


def sDPut (td ty tv : TE) : TS := fun D σ H => tv σ H fun v H1 => td σ H1 fun x H2 => ty σ H2 fun y H3 => ∃ a H4, x = .ref a ∧ DPut H3 a y v H4 ∧ D.nx σ H4

section
variable {X : Cx} {o i e value : Expr} {pos pos' tpos : Pos} {td ty tv : TE}
theorem ps_dput (hu : X.A.units + 1 < cLine) (ho : PE X o td) (hi : PE X i ty) (hv : PE X value tv) (hs : swapsWith value (some (.Subscript o i pos')) pos.line X.env = pure false) :
    PS X (.Assign [.Subscript o i pos'] value pos) (sDPut td ty tv) := by
  intro pins s σ H D I h
  refine wpAny_Assign_Subscript (thn (hv pins s σ H _ I h) fun r s1 ⟨v, H1, I1, rv, q1⟩ => thn (ho pins s1 σ H1 _ I1 q1) fun u s2 ⟨x, H2, I2, rx, q2⟩ => thn (hi pins s2 σ H2 _ I2 q2) fun iv s3 ⟨y, H3, I3, ry, a, H4, ex, g, q3⟩ => ?_) hs
  subst ex
  obtain rfl : u = Value.ref a := rx
  exact d_setItem hu I3 g ry rv fun s4 I4 => ⟨σ, H4, I4, q3⟩
end


/-! ### displays -/
theorem dt_empty {P : Program} {w : World} {H : Hp} (h : Heap) (hb : sysModules < h.objs.size) : ObjOk P w H (h.push { cls := .type "dict", data := .dict #[] }) h.objs.size (.dT []) :=
  ⟨Nat.zero_le _, beq_eq_false_iff_ne.mpr (Ne.symm (Nat.ne_of_lt hb)), [], .nil, _, #[], 0, Heap.get?_push_size _ rfl, ⟨rfl, rfl, rfl⟩, rfl, rfl, List.nodup_nil⟩
def tDNewT : TE := fun _ H Q => ∀ p, H p = none → Q (.ref p) (upd H p (.dT []))
section
variable {X : Cx} {pos : Pos}
theorem pe_dnewT : PE X (.Dict [] [] pos) tDNewT := fun pins s σ H Q I h =>
  wpAny_Dict_empty ⟨.ref s.heap.objs.size, _, I.laid (a := s.heap.objs.size) (o := .dT []) (t' := s.toks) (fun _ _ q => Heap.get?_push_of_some _ q) (Nat.le_refl _) (dt_empty s.heap I.big), rfl, h _ (I.hok.fresh (Nat.le_refl _))⟩
end




/-! ### methods -/
structure M1 (X : Cx) (o : Expr) (m : Str) (apos : Pos) (e : Expr) (cpos : Pos) : Prop where
  base : attributeBase o m X.env (eval o X.env) = eval o X.env
  few : ((backTo cpos (starEach [e] X.env)).all (fun x => !x.1) && (backToKw cpos (keywordEach [] X.env)).all (fun x => x.1.isSome)
    && decide (([e] : List Expr).length + ([] : List Keyword).length + (if ([] : List Keyword).isEmpty then 0 else 1) < 30)) = true
  line : (apos.endLine == cpos.line) = true
  trees : backTo cpos (starEach [e] X.env) = [(false, eval e X.env)]
structure M2 (X : Cx) (o : Expr) (m : Str) (apos : Pos) (e f : Expr) (cpos : Pos) : Prop where
  base : attributeBase o m X.env (eval o X.env) = eval o X.env
  few : ((backTo cpos (starEach [e, f] X.env)).all (fun x => !x.1) && (backToKw cpos (keywordEach [] X.env)).all (fun x => x.1.isSome)
    && decide (([e, f] : List Expr).length + ([] : List Keyword).length + (if ([] : List Keyword).isEmpty then 0 else 1) < 30)) = true
  line : (apos.endLine == cpos.line) = true
  trees : backTo cpos (starEach [e, f] X.env) = [(false, eval e X.env), (false, eval f X.env)]

def IsD (H : Hp) (a : Addr) : Prop := (∃ kvs, Rd H a (.dK kvs)) ∨ ∃ kvs, Rd H a (.dT kvs)
theorem isD_at {X : Cx} {pins : List (Addr × Obj)} {σ : St} {H : Hp} {s : Shared} {a : Addr} (I : Inv X pins σ H s) (d : IsD H a) :
    s.TypeIs (.ref a) "dict" ∧ (∀ b, Value.ref a = .ref b → ∃ ob, s.heap.get? b = some ob ∧ ob.dict = none) ∧ (a == sysModules) = false := by
  rcases d with ⟨kvs, e⟩ | ⟨kvs, e⟩
  · obtain ⟨_, hd, vs, _, dd⟩ := dk_rd I.hok e
    refine ⟨dd.typeIs, fun b q => ?_, hd⟩
    cases q
    obtain ⟨ob, _, _, h1, h2, _⟩ := dd
    exact ⟨ob, h1, h2.2.1⟩
  · obtain ⟨_, hd, xs, _, dd⟩ := dt_rd I.hok e
    refine ⟨dd.typeIs, fun b q => ?_, hd⟩
    cases q
    obtain ⟨ob, _, _, h1, h2, _⟩ := dd
    exact ⟨ob, h1, h2.2.1⟩

section
variable {X : Cx} {pins : List (Addr × Obj)} {σ : St} {H : Hp} {s : Shared} {a : Addr} {y d : V} {u r : Value} {o : Option V} {A : Around} {E : Value → Shared → Prop}
theorem d_get2 {Q : Value → Shared → Prop} (hu : A.units + 1 < cLine) (I : Inv X pins σ H s) (g : DGet H a y o) (ry : RelV y u) (rd : RelV d r) (h : ∀ w' s', Inv X pins σ H s' → RelV (o.getD d) w' → Q w' s') :
    wpAny (model X.prog X.w) A (call (.builtin "dict.get") [.ref a, u, r]) Q E s := by
  rcases g with ⟨kvs, k, e, ey, l⟩ | ⟨kvs, k, b, e, ey, eb, l⟩
  · subst ey
    obtain ⟨z, hd, vs, rel, dd⟩ := dk_rd I.hok e
    refine call_meetsIn PySem.F.slot_dict_get dd.typeIs PySem.F.entry_dict_get (PySem.F.args_dict_get_3 _ _ _) (meets_dict_get_default (mixKind X.prog X.w) a (kV_is ry) hd r) ⟨_, dd.mapOf, h _ _ (I.tok _) ?_⟩
    rw [l]
    exact (rel.val k).getD rd
  · subst ey
    cases (show u = Value.ref b from ry)
    obtain ⟨z, hd, xs, rel, dd⟩ := dt_rd I.hok e
    refine call_meetsIn PySem.F.slot_dict_get dd.typeIs PySem.F.entry_dict_get (PySem.F.args_dict_get_3 _ _ _) (meetsH_dict_get_default (tupleKind (mixKind X.prog X.w)) a b hd r) ⟨tupleKind_room_in1 hu, k, xs, key_of I.hok eb, dd, h _ _ (I.tok _) ?_⟩
    rw [l]
    exact (rel.val k).getD rd
end

def tDGet2 (td ty tx : TE) : TE := fun σ H Q => td σ H fun x H1 => ∃ a, x = .ref a ∧ IsD H1 a ∧ ty σ H1 fun y H2 => tx σ H2 fun z H3 => ∃ o, DGet H3 a y o ∧ Q (o.getD z) H3
section
variable {X : Cx} {o e f : Expr} {apos cpos : Pos} {td ty tx : TE}
theorem pe_dget2 (hu : X.A.units + 1 < cLine) (ho : PE X o td) (he : PE X e ty) (hf : PE X f tx) (m : M2 X o "get" apos e f cpos) : PE X (.Call (.Attribute o "get" apos) [e, f] [] cpos) (tDGet2 td ty tx) := by
  intro pins s σ H Q I h
  refine wpAny_Call_method m.base m.few m.line PySem.F.plainAttrs_dict PySem.F.slot_dict_get PySem.F.type_dict_get (thn (ho pins s σ H _ I h) fun u s1 ⟨x, H1, I1, rx, a, ex, d, q1⟩ => ?_)
  subst ex
  obtain rfl : u = Value.ref a := rx
  obtain ⟨t1, t2, _⟩ := isD_at I1 d
  refine ⟨t1, t2, ?_⟩
  rw [m.trees]
  refine Calls.callWith_builtin rfl (Calls.evalArgs_plain (Calls.spliced_cons (thn (he pins s1 σ H1 _ I1 q1) fun iv s2 ⟨y, H2, I2, ry, q2⟩ =>
    Calls.spliced_cons (thn (hf pins s2 σ H2 _ I2 q2) fun fv s3 ⟨z, H3, I3, rz, ov, g, q3⟩ => Calls.spliced_nil ?_))))
  exact d_get2 hu I3 g ry rz fun w' s4 I4 rw' => ⟨_, H3, I4, rw', q3⟩
end

/-! ### dict(d): a copy -/
section
variable {X : Cx} {pins : List (Addr × Obj)} {σ : St} {H : Hp} {s : Shared} {a : Addr} {kvs : List (Key × V)} {A : Around} {E : Value → Shared → Prop}
end


section
variable {X : Cx} {pins : List (Addr × Obj)} {σ : St} {H : Hp} {s : Shared} {a : Addr} {y : V} {u : Value} {A : Around} {E : Value → Shared → Prop}
end
end L2

namespace L2
open PySem PySem.Spec PyProof.Rows
/-! ### a walk over the pairs of a dict, whatever its keys -/
section
variable {prog : Program} {w : World} {A : Around} {E : Value → Shared → Prop} {s : Shared}
theorem itm_name {it : Addr} {R : String → Shared → Prop} (tt : s.TypeIs (.ref it) "dict_itemiterator") (q : R "dict_itemiterator" s) :
    wpAny (model prog w) A (typeNameOfWhole (.ref it)) R E s := wpAny_typeNameOfWhole_itemiter tt q
theorem itm_view {d : Addr} {es : Array DictEntry} {ep : Nat} {od : Obj} {v : Addr} {R : Value → Shared → Prop} (gv : s.heap.IsItemsView v d) (gd : s.heap.get? d = some od) (gt : od.data = .dict es ep)
    (q : R (.ref s.heap.objs.size) { s with heap := s.heap.push { cls := .type "dict_itemiterator", data := .fields #[.none, .bool false, .ref d, .int 0 0, .int es.size 0, .int ep 0, .none, .none] } }) :
    wpAny (model prog w) A (pyIter (.ref v)) R E s := by
  obtain ⟨o1, g1, g2, g3⟩ := id gv
  refine wpAny_pyIter_slot gv.typeIs F.slot_dict_items_iter (wpAny_call_entry F.slot_dict_items_iter gv.typeIs F.entry_dict_items_iter ?c1 (F.args_dict_items_iter_1 _))
  unfold Builtin.«dict_items.__iter__»; refine wpAny_bind (wpAny_pure (wpAny_bind ?c2))
  unfold Builtin.Dict_items.dictOf; refine wpAny_bind (wpAny_field g1 g3 (x := .ref d) rfl (wpAny_pure (wpAny_bind ?c3)))
  unfold Builtin.Dict_items.newIterator; refine wpAny_bind (wpAny_dictEntries gd gt (wpAny_bind (wpAny_dictEpoch gd gt ?c4)))
  have own1 : Builtin.Dict_items.ownsTuple "dict_itemiterator" = true := by decide
  simp only [own1, if_true]
  refine wpAny_newObj_type (wpAny_pure ⟨_, rfl, "dict_itemiterator", _, ⟨_, Heap.get?_push_size _ rfl, rfl⟩, F.slot_dict_itemiterator_next.lookup, ?c5⟩) ?c6
  · simpa [rawInt, Builtin.Dict_items.ownedTupleFields] using q
  · simp only [sizeOk, Builtin.Dict_items.ownedTupleFields, List.size_toArray, List.length_append, List.length_cons, List.length_nil, sizeLine_eq]; omega
theorem itm_next {it d : Addr} {i ep : Nat} {es : Array DictEntry} {od : Obj} {k0 v0 : Value} {R : Option Value → Shared → Prop}
    (gi : IsItemIter s.heap it d i es.size ep k0 v0) (gd : s.heap.get? d = some od) (gt : od.data = .dict es ep) (lt : i < es.size)
    (fin : ∀ h', IsItemIterOut h' it d (i + 1) es.size ep es[i].key es[i].val s.heap.objs.size →
      h'.get? s.heap.objs.size = some { cls := .type "tuple", data := .seq #[es[i].key, es[i].val] } → h'.objs.size = s.heap.objs.size + 1 →
      (∀ b o, b ≠ it → s.heap.get? b = some o → h'.get? b = some o) → R (some (.ref s.heap.objs.size)) { s with heap := h' }) :
    wpAny (model prog w) A (pyNext (.ref it)) R E s := by
  obtain ⟨G, gg, dr, tk, os⟩ := s
  have tt : Shared.TypeIs ⟨G, gg, dr, tk, os⟩ (.ref it) "dict_itemiterator" := ⟨_, gi, rfl⟩
  unfold pyNext
  refine wpAny_bind (wpAny_attempt (wpAny_callSpecial?_slot (name := Str.ofString "__next__") tt F.slot_dict_itemiterator_next (wpAny_call_entry F.slot_dict_itemiterator_next tt F.entry_dict_itemiterator_next ?c1 (F.args_dict_itemiterator_next_1 _))))
  refine wpAny_bind (wpAny_pure (wpAny_bind (wpAny_bind ?c2)))
  first | refine wpAny_bind (itm_name tt (wpAny_pure ?c3)) | refine wpAny_bind (wpAny_typeNameOf_itemiter tt (wpAny_pure ?c3))
  refine wpAny_bind (wpAny_fieldsOf gi rfl ?c4)
  have own1 : Builtin.Dict_items.ownsTuple "dict_itemiterator" = true := by decide
  simp only [own1, if_true]
  show wpAny _ _ (if (Value.ref d == Value.none) = true then _ else _) _ _ _
  rw [if_neg (show ¬ ((Value.ref d == Value.none) = true) from fun z => Bool.false_ne_true z)]
  refine wpAny_bind (wpAny_pure (wpAny_bind (wpAny_dictEntries gd gt ?c5)))
  rw [if_neg (by simp)]; refine wpAny_bind (wpAny_pure (wpAny_bind (wpAny_dictEpoch gd gt ?c6)))
  rw [if_neg (by simp)]; refine wpAny_pure ?c7
  simp only [show ¬ ((i : Int) < 0) from by omega, if_false, Int.toNat_natCast, Array.getElem?_eq_getElem lt]
  refine wpAny_bind ?c8
  first | refine wpAny_bind (itm_name tt (wpAny_pure ?c9)) | refine wpAny_bind (wpAny_typeNameOf_itemiter tt (wpAny_pure ?c9))
  refine wpAny_bind (wpAny_isOneOf_itemiter tt ?c10)
  show wpAny _ _ (setField (.ref it) 3 (rawInt ((i : Int) + 1)) >>= _) _ _ ⟨G, gg, dr, tk, os⟩
  refine wpAny_bind (wpAny_setField_rec gi (by simp) fun G1 f1 b1 => ?c11)
  replace b1 : Heap.SameBut it G G1 := b1
  replace f1 : IsItemIter G1 it d (i + 1) es.size ep k0 v0 := by
    have z : ((i + 1 : Nat) : Int) = (i : Int) + 1 := by omega
    unfold IsItemIter; rw [z]; simpa [rawInt] using f1
  have tt1 : Shared.TypeIs ⟨G1, gg, dr, tk, os⟩ (.ref it) "dict_itemiterator" := ⟨_, f1, rfl⟩
  refine wpAny_bind (wpAny_holding (wpAny_bind (wpAny_isOneOf_itemiter tt1 (wpAny_bind (wpAny_isOneOf_itemiter tt1 ?c12)))))
  show wpAny _ _ (Builtin.Dict_items.pairFromOwner (.ref it) 6 es[i].key es[i].val) _ _ ⟨G1, gg, dr, tk, os⟩
  unfold Builtin.Dict_items.pairFromOwner; refine wpAny_bind (wpAny_newTuple ?c13)
  have f2 : IsItemIter (G1.push { cls := .type "tuple", data := .seq #[es[i].key, es[i].val] }) it d (i + 1) es.size ep k0 v0 := Heap.get?_push_of_some _ f1
  generalize eG : G1.push { cls := .type "tuple", data := .seq #[es[i].key, es[i].val] } = G2 at f2
  have z1 : G1.objs.size = G.objs.size := b1.1
  have il : it < G.objs.size := Heap.lt_size gi
  have t2 : G2.get? G.objs.size = some { cls := .type "tuple", data := .seq #[es[i].key, es[i].val] } := by rw [← eG, ← z1]; exact Heap.get?_push_size _ rfl
  have z2 : G2.objs.size = G.objs.size + 1 := by rw [← eG, Heap.size_push, z1]
  have k2 : ∀ b o, b ≠ it → G.get? b = some o → G2.get? b = some o := fun b o nb e => by rw [← eG]; exact Heap.get?_push_of_some _ (b1.extBut b o nb e)
  show wpAny _ _ (Builtin.Dict_items.ownedTupleIsFree (.ref it) >>= _) _ _ ⟨G2, gg, dr, tk, os⟩
  rw [z1]; clear eG f1 b1 tt1 z1 G1
  refine wpAny_bind ?c14
  unfold Builtin.Dict_items.ownedTupleIsFree; refine wpAny_bind (wpAny_field f2 rfl (x := .none) rfl (wpAny_pure ?c15))
  simp only [if_true]
  refine wpAny_bind (wpAny_field f2 rfl (x := k0) rfl (wpAny_bind (wpAny_field f2 rfl (x := v0) rfl ?c16)))
  refine wpAny_bind (wpAny_setField_rec f2 (by simp) fun G3 f3 b3 => ?c17)
  replace b3 : Heap.SameBut it G2 G3 := b3
  replace f3 : IsItemIter G3 it d (i + 1) es.size ep es[i].key v0 := f3
  refine wpAny_bind (wpAny_setField_rec f3 (by simp) fun G4 f4 b4 => ?c18)
  replace b4 : Heap.SameBut it G3 G4 := b4
  replace f4 : IsItemIter G4 it d (i + 1) es.size ep es[i].key es[i].val := f4
  refine wpAny_bind (wpAny_setField_rec f4 (by simp) fun G5 f5 b5 => ?c19)
  replace b5 : Heap.SameBut it G4 G5 := b5
  replace f5 : IsItemIterOut G5 it d (i + 1) es.size ep es[i].key es[i].val G.objs.size := f5
  refine wpAny_bind (wpAny_setField_rec f5 (by simp) fun G6 f6 b6 => ?c20)
  replace b6 : Heap.SameBut it G5 G6 := b6
  replace f6 : IsItemIterOut G6 it d (i + 1) es.size ep es[i].key es[i].val G.objs.size := f6
  have kk : ∀ b o, b ≠ it → G2.get? b = some o → G6.get? b = some o := fun b o nb e => b6.extBut b o nb (b5.extBut b o nb (b4.extBut b o nb (b3.extBut b o nb e)))
  refine wpAny_bind (wpAny_letGo (wpAny_pure (wpAny_pure ⟨_, rfl, wpAny_pure (fin G6 f6 (kk _ _ (Nat.ne_of_gt il) t2) ?c21 fun b o nb e => kk b o nb (k2 b o nb e))⟩)))
  show G6.objs.size = G.objs.size + 1
  rw [b6.1, b5.1, b4.1, b3.1, z2]
theorem itm_end {it d : Addr} {i ep : Nat} {es : Array DictEntry} {od : Obj} {k0 v0 : Value} {R : Option Value → Shared → Prop} (hn : A.handled = none)
    (gi : IsItemIter s.heap it d i es.size ep k0 v0) (gd : s.heap.get? d = some od) (gt : od.data = .dict es ep) (ge : es.size ≤ i)
    (fin : ∀ h', Heap.ExtBut it s.heap h' → R none { s with heap := h' }) : wpAny (model prog w) A (pyNext (.ref it)) R E s := by
  have tt : s.TypeIs (.ref it) "dict_itemiterator" := ⟨_, gi, rfl⟩
  unfold pyNext
  refine wpAny_bind (wpAny_attempt (wpAny_callSpecial?_slot (name := Str.ofString "__next__") tt F.slot_dict_itemiterator_next (wpAny_call_entry F.slot_dict_itemiterator_next tt F.entry_dict_itemiterator_next ?c1 (F.args_dict_itemiterator_next_1 _))))
  refine wpAny_bind (wpAny_pure (wpAny_bind (wpAny_bind ?c2)))
  first | refine wpAny_bind (itm_name tt (wpAny_pure ?c3)) | refine wpAny_bind (wpAny_typeNameOf_itemiter tt (wpAny_pure ?c3))
  refine wpAny_bind (wpAny_fieldsOf gi rfl ?c4)
  have own1 : Builtin.Dict_items.ownsTuple "dict_itemiterator" = true := by decide
  simp only [own1, if_true]
  show wpAny _ _ (if (Value.ref d == Value.none) = true then _ else _) _ _ _
  rw [if_neg (show ¬ ((Value.ref d == Value.none) = true) from fun z => Bool.false_ne_true z)]
  refine wpAny_bind (wpAny_pure (wpAny_bind (wpAny_dictEntries gd gt ?c5)))
  rw [if_neg (by simp)]; refine wpAny_bind (wpAny_pure (wpAny_bind (wpAny_dictEpoch gd gt ?c6)))
  rw [if_neg (by simp)]; refine wpAny_pure ?c7
  simp only [show ¬ ((i : Int) < 0) from by omega, if_false, Int.toNat_natCast, Array.getElem?_eq_none ge]
  refine wpAny_bind ?c8
  first | refine wpAny_bind (itm_name tt (wpAny_pure ?c9)) | refine wpAny_bind (wpAny_typeNameOf_itemiter tt (wpAny_pure ?c9))
  show wpAny _ _ (setField (.ref it) 2 .none >>= _) _ _ _
  refine wpAny_bind (wpAny_setField gi rfl (by simp) ?c10)
  show wpAny _ _ (newExc (.type "StopIteration") [] >>= _) _ _ _
  refine wpAny_bind ?c11
  simp only [newExc, newTuple]
  refine wpAny_bind (wpAny_newObj_type (wpAny_bind (m := firstArgMember _ _) (wpAny_of_eq (a := Value.none) (by first | rfl | (simp only [firstArgMember]; rfl)) ?c12)) (by size_fits))
  refine wpAny_newObj_type ?c13 (by size_fits)
  simp only [raiseNew]; refine wpAny_bind (wpAny_handled ?c14)
  rw [show A.in1.handled = none from hn]
  refine wpAny_bind (wpAny_pure (wpAny_throw ?c15))
  refine wpAny_bind (wpAny_isInstance (T := "StopIteration") (b := true) ⟨_, Heap.get?_push_size _ rfl, rfl⟩ isSubtype_stop (wpAny_pure ?c16))
  exact fin _ (((Heap.SameBut.update ..).extBut.push _).push _)
theorem itm_call {d : Addr} {R : Value → Shared → Prop} (tt : s.TypeIs (.ref d) "dict") (nm : (d == sysModules) = false)
    (q : R (.ref s.heap.objs.size) { s with heap := s.heap.push { cls := .type "dict_items", data := .fields #[.ref d] } }) : wpAny (model prog w) A (call (.builtin "dict.items") [.ref d]) R E s := by
  have m : MeetsIn prog w (Builtin.«dict.items» ⟨[.ref d], []⟩) (fun _ R s => s.TypeIs (.ref d) "dict" ∧ R (.ok (.ret (.ref s.heap.objs.size))) { s with heap := s.heap.push { cls := .type "dict_items", data := .fields #[.ref d] } }) :=
    .of_wp fun A R s ⟨t1, r1⟩ => by
      unfold Builtin.«dict.items»; refine wpAny_bind ?c1
      unfold Builtin.Dict.noArgs; refine wpAny_bind (wpAny_notOrdered_dict t1 ?c2)
      show wpAny _ _ (pure d) _ _ s; refine wpAny_pure ?c3
      show wpAny _ _ (Builtin.Dict.showsAll d >>= _) _ _ s
      unfold Builtin.Dict.showsAll; rw [if_neg (by rw [nm]; exact Bool.false_ne_true)]
      exact wpAny_bind (wpAny_pure (wpAny_bind (wpAny_newObj_type (wpAny_pure ⟨_, rfl, r1⟩))))
  exact call_meetsIn PySem.F.slot_dict_items tt PySem.F.entry_dict_items (PySem.F.args_dict_items_1 _) m ⟨tt, q⟩
theorem entry_itm_iter : entryFor table "dict_itemiterator.__iter__" = some Builtin.«dict_keyiterator.__iter__» := entryFor_alias (id' := "dict_keyiterator.__iter__") (by kernel_rfl) rfl (by decide +kernel) (by kernel_rfl)
theorem itm_self {it d : Addr} {i n ep : Nat} {k0 v0 : Value} {R : Value → Shared → Prop} (gi : IsItemIter s.heap it d i n ep k0 v0) (q : R (.ref it) s) : wpAny (model prog w) A (pyIter (.ref it)) R E s := by
  have tt : s.TypeIs (.ref it) "dict_itemiterator" := ⟨_, gi, rfl⟩
  refine wpAny_pyIter_slot tt F.slot_dict_itemiterator_iter (wpAny_call_entry F.slot_dict_itemiterator_iter tt entry_itm_iter ?c1 (F.args_dict_itemiterator_iter_1 _))
  show wpAny _ _ (ret (.ref it)) _ _ s
  exact wpAny_pure ⟨_, rfl, "dict_itemiterator", _, tt, F.slot_dict_itemiterator_next.lookup, q⟩
end
theorem Paired.atI {α β : Type} {F : α → β → Prop} : ∀ {xs : List α} {ys : List β} {i : Nat} {x : α}, Paired F xs ys → xs[i]? = some x → ∃ y, ys[i]? = some y ∧ F x y
  | _, _, i, x, .nil, e => by simp at e
  | _, _, 0, x, .cons r t, e => by simp at e; subst e; exact ⟨_, rfl, r⟩
  | _, _, i + 1, x, .cons r t, e => by
    obtain ⟨y, e1, e2⟩ := Paired.atI t (i := i) (x := x) (by simpa using e)
    exact ⟨y, by simpa using e1, e2⟩
def Itm (a : Addr) (o : Obj) : It :=
  ⟨fun i H => ∃ kvs p, H a = some (.frz o (.dT kvs)) ∧ kvs[i]? = some p,
   fun i H x H' => ∃ q kb p, H q = none ∧ x = .ref q ∧ H kb = some (.tup (p.1.map kV)) ∧ (∀ kvs, H a = some (.frz o (.dT kvs)) → kvs[i]? = some p) ∧ H' = upd H q (.tup [.ref kb, p.2]),
   fun i H => ∃ kvs, H a = some (.frz o (.dT kvs)) ∧ kvs.length ≤ i⟩
theorem turn_itm {P : Program} {w : World} {K : PySem.W.Frag} {elts : List Expr} {x1} {pos : Pos} (a it : Addr) {o : Obj} {es : Array DictEntry} {ep : Nat} (gt : o.data = .dict es ep) :
    Turn P w K (.Tuple elts x1 pos) (Itm a o) [it] it (fun i h => ∃ k0 v0, IsItemIter h it a i es.size ep k0 v0) where
  mem := by simp
  obj := fun i h ⟨k0, v0, st⟩ c hc => by
    rw [List.mem_singleton.mp hc]
    exact ⟨_, st, fun v z => by cases z⟩
  keep := fun i h h' ⟨k0, v0, st⟩ k => ⟨k0, v0, k it (by simp) _ st⟩
  item := by
    intro X hP hw hK hc i pins s σ H E I hf st hg
    subst hP hw hK
    obtain ⟨k0, v0, gi⟩ := st
    obtain ⟨kvs, p, e, hp⟩ := hg
    obtain ⟨go, z, y, xs, r, ob, es', ep', h1, h2, h3, h4, h5⟩ := (show ObjOk X.prog X.w H s.heap a (.frz o (.dT kvs)) from I.hok a _ e)
    rw [go] at h1
    cases h1
    rw [gt] at h3
    cases h3
    obtain ⟨q, hq, f1, f2, f3⟩ := Paired.atI r hp
    have e0 : es.toList[i]? = some (entryOfKey (tupleKind (mixKind X.prog X.w)) q) := by rw [h4, List.getElem?_map, hq]; rfl
    have hlt : i < es.size := by
      have := (List.getElem?_eq_some_iff.mp e0).1
      simpa using this
    have ei : es[i] = entryOfKey (tupleKind (mixKind X.prog X.w)) q := by
      rw [Array.getElem?_toList, Array.getElem?_eq_getElem hlt] at e0
      exact Option.some.inj e0
    refine itm_next gi go gt hlt fun h' z1 tp sz kp => ⟨_, rfl, wpAny_letOwnedTupleGo_items z1 fun h2 he2 sb => ?_⟩
    have hne : s.heap.objs.size ≠ it := Nat.ne_of_gt (Heap.lt_size gi)
    have t2 : h2.get? s.heap.objs.size = some { cls := .type "tuple", data := .seq #[.ref q.2.1, q.2.2] } := by
      rw [sb.2 _ hne, tp, ei]
      rfl
    have kk : ∀ c u, c ∉ [it] → s.heap.get? c = some u → h2.get? c = some u := fun c u hc g => by
      have hc' : c ≠ it := fun z => hc (by rw [z]; simp)
      exact (sb.2 c hc').trans (kp c u hc' g)
    refine ⟨.ref s.heap.objs.size, upd H s.heap.objs.size (.tup [.ref q.2.1, p.2]), I.enumL kk hf (Nat.le_refl _) ⟨by simp only [List.length_cons, List.length_nil]; rw [sizeLine_eq]; decide, [.ref q.2.1, q.2.2], .cons rfl (.cons f3 .nil), ⟨_, t2, rfl, _, rfl⟩⟩, rfl,
      ⟨_, q.2.1, p, I.hok.fresh (Nat.le_refl _), rfl, f2, fun kvs' e' => by rw [e] at e'; cases e'; exact hp, rfl⟩, ⟨_, _, he2⟩, fun c hc => ?_⟩
    rw [List.mem_singleton.mp hc, upd_ne (Ne.symm hne)]
    exact (hf it (by simp)).1
  done := by
    intro X hP hw hK hc i pins s σ H E I hf st hg
    subst hP hw hK
    obtain ⟨k0, v0, gi⟩ := st
    obtain ⟨kvs, e, hp⟩ := hg
    obtain ⟨go, z, y, xs, r, ob, es', ep', h1, h2, h3, h4, h5⟩ := (show ObjOk X.prog X.w H s.heap a (.frz o (.dT kvs)) from I.hok a _ e)
    rw [go] at h1
    cases h1
    rw [gt] at h3
    cases h3
    have hs : es.size = kvs.length := by rw [← Array.length_toList, h4, List.length_map, ← Paired.length r]
    refine itm_end (I.ok.hd hc) gi go gt (by omega) fun h' eb => ⟨rfl, I.turnedL (t' := s.toks) (fp := [it]) (fun c u hc q => eb c u (fun z => hc (by rw [z]; simp)) q) hf⟩
  self := fun _ _ _ _ _ st h => by
    obtain ⟨k0, v0, gi⟩ := st
    exact itm_self gi h
section
variable {X : Cx}
theorem Inv.freeze {pins : List (Addr × Obj)} {σ : St} {H : Hp} {s : Shared} {a : Addr} {o : Obj} {kvs : List (List Key × V)} (I : Inv X pins σ H s) (e : H a = some (.dT kvs)) (go : s.heap.get? a = some o) :
    Inv X pins σ (upd H a (.frz o (.dT kvs))) s := by
  refine d_write (t' := s.toks) I (by rw [e]; exact True.intro) (Heap.SameBut.refl _ _) ⟨o, go⟩ ⟨go, ?_⟩
  refine ObjOk.stay (show ObjOk X.prog X.w H s.heap a (.dT kvs) from I.hok a _ e) (fun _ _ _ g => g) (fun b q => ?_) fun b ys q => ?_
  · rw [upd_ne (ne_of q e (fun z => nomatch z))]
    exact q
  · rw [upd_ne (ne_of q e (fun z => nomatch z))]
    exact q
def iItm (td : TE) : TI := fun σ H R => td σ H fun x H1 => ∃ a, x = .ref a ∧ ((∃ kvs, H1 a = some (.dT kvs) ∧ ∀ o, R (Itm a o) (upd H1 a (.frz o (.dT kvs)))) ∨ ∃ o kvs, H1 a = some (.frz o (.dT kvs)) ∧ R (Itm a o) H1)
theorem pi_items {elts : List Expr} {x1} {tp : Pos} {d : Expr} {td : TE} {apos cpos : Pos} (ho : PE X d td) (hbase : attributeBase d "items" X.env (eval d X.env) = eval d X.env := by rfl) (hline : (apos.endLine == cpos.line) = true := by rfl) :
    PI X (.Tuple elts x1 tp) (.Call (.Attribute d "items" apos) [] [] cpos) (iItm td) := by
  intro pins s σ H R I h
  refine wpAny_Call_method0_late hbase hline (thn (ho pins s σ H _ I h) fun v s1 ⟨x, H1, I1, r1, a, ex, q⟩ => ?_)
  subst ex
  obtain rfl : v = Value.ref a := r1
  have dd : IsD H1 a := by
    rcases q with ⟨kvs, e, _⟩ | ⟨o, kvs, e, _⟩
    · exact .inr ⟨kvs, .inl e⟩
    · exact .inr ⟨kvs, .inr ⟨o, e⟩⟩
  obtain ⟨t1, t2, t3⟩ := isD_at I1 dd
  have base : ∀ (o : Obj) (es : Array DictEntry) (ep : Nat) (H2 : Hp), s1.heap.get? a = some o → o.data = .dict es ep → Inv X pins σ H2 s1 → R (Itm a o) H2 →
      wpAny (model X.prog X.w) X.A (call (.builtin "dict.items") [.ref a]) (fun v s1 => wpAny (model X.prog X.w) X.A (pyIter v) (PIE X pins σ (.Tuple elts x1 tp) R) X.xe s1) X.xe s1 := by
    intro o es ep H2 go gt I2 q2
    refine itm_call t1 t3 ?_
    have I3 : Inv X pins σ H2 { s1 with heap := s1.heap.push { cls := .type "dict_items", data := .fields #[.ref a] } } := I2.kept (t' := s1.toks) fun b u g => Heap.get?_push_of_some _ g
    refine itm_view (od := o) ⟨_, Heap.get?_push_size _ rfl, rfl, rfl⟩ (Heap.get?_push_of_some _ go) gt ?_
    have I4 := I3.kept (t' := s1.toks) (h' := (s1.heap.push { cls := .type "dict_items", data := .fields #[.ref a] }).push { cls := .type "dict_itemiterator", data := .fields #[.none, .bool false, .ref a, .int 0 0, .int es.size 0, .int ep 0, .none, .none] }) fun b u g => Heap.get?_push_of_some _ g
    refine ⟨_, [_], _, _, H2, rfl, I4, turn_itm a _ gt, ⟨.none, .none, Heap.get?_push_size _ rfl⟩, fun c hc => ?_, q2⟩
    rw [List.mem_singleton.mp hc]
    exact I3.fpOk (Nat.le_refl _) (I3.hok.fresh (Nat.le_refl _))
  refine ⟨"dict", "dict.items", PySem.F.plainAttrs_dict, PySem.F.slot_dict_items, PySem.F.type_dict_items, t1, t2, Calls.callWith_builtin rfl (PySem.evalArgs_none ?_)⟩
  rcases q with ⟨kvs, e, q⟩ | ⟨o, kvs, e, q⟩
  · obtain ⟨_, _, _, _, o, es, ep, h1, _, h3, _⟩ := (show ObjOk X.prog X.w H1 s1.heap a (.dT kvs) from I1.hok a _ e)
    exact base o es ep _ h1 h3 (I1.freeze e h1) (q o)
  · obtain ⟨go, _, _, _, _, o', es, ep, h1, _, h3, _⟩ := (show ObjOk X.prog X.w H1 s1.heap a (.frz o (.dT kvs)) from I1.hok a _ e)
    rw [go] at h1
    cases h1
    exact base o es ep _ go h3 I1 q
end
end L2
/-! Dicts whose keys are tuples of ints; the pairs of one. -/
namespace SM
open PySem PySem.Spec PyProof.Rows L2
def dAt (kvs : List (List Int × Dt)) (k : List Int) : Option Dt := (kvs.find? fun p => decide (p.1 = k)).map (·.2)
def dPut (kvs : List (List Int × Dt)) (k : List Int) (d : Dt) : List (List Int × Dt) :=
  if (kvs.any fun p => decide (p.1 = k)) = true then kvs.map (fun p => if p.1 = k then (p.1, d) else p) else kvs ++ [(k, d)]
def eDNew : RE := fun _ h => some (.ref h.length, h ++ [.dt []])
def eNtp (g : RA) : RE := fun l h => (g l h).bind fun r => if r.1.length ≤ sizeLine then (intsOf r.1).map fun is => (.ntp is, r.2) else none
def eDGet2 (fo fy fx : RE) : RE := fun l h => (fo l h).bind fun o => match o.1 with
  | .ref n => match o.2[n]? with
    | some (.dt _) => (fy l o.2).bind fun y => match y.1 with
      | .ntp k => (fx l y.2).bind fun x => match x.2[n]? with
        | some (.dt kvs) => some ((dAt kvs k).getD x.1, x.2)
        | _ => none
      | _ => none
    | _ => none
  | _ => none
def sDSet (fe fo fy : RE) : RS := fun l h => (fe l h).bind fun v => (fo l v.2).bind fun o => (fy l o.2).bind fun y => match o.1, y.1 with
  | .ref n, .ntp k => match y.2[n]? with
    | some (.dt kvs) => if kvs.length < sizeLine then some (.nx l (y.2.set n (.dt (dPut kvs k v.1)))) else none
    | _ => none
  | _, _ => none
def iItems (f : RE) : RI := fun l h => (f l h).bind fun r => match r.1 with
  | .ref n => match r.2[n]? with
    | some (.dt kvs) => some (.it n, r.2.set n (.df kvs))
    | some (.df _) => some (.it n, r.2)
    | _ => none
  | _ => none
section
variable {K : PySem.W.Frag} {H : Hp} {ρ : Rg}
abbrev KD (K : PySem.W.Frag) (H : Hp) (ρ : Rg) (kvs : List (List Int × Dt)) (vs : List (List Key × V)) : Prop := vs.map (·.1) = kvs.map (fun p => p.1.map Sum.inl) ∧ RelDs K H ρ (kvs.map (·.2)) (vs.map (·.2))
theorem inl_inj {k k' : List Int} : k.map (Sum.inl : Int → Key) = k'.map Sum.inl ↔ k = k' := ⟨fun h => (List.map_inj_right (fun _ _ z => Sum.inl.inj z)).mp h, fun h => by rw [h]⟩
theorem inl_kV (k : List Int) : (k.map (Sum.inl : Int → Key)).map kV = k.map V.int := by
  rw [List.map_map]
  rfl
theorem KD.unnil {vs : List (List Key × V)} (r : KD K H ρ [] vs) : vs = [] := by
  have := r.1
  simpa using this
theorem KD.uncons {p : List Int × Dt} {kvs : List (List Int × Dt)} {vs : List (List Key × V)} (r : KD K H ρ (p :: kvs) vs) : ∃ v rs, vs = (p.1.map Sum.inl, v) :: rs ∧ RelD K H ρ p.2 v ∧ KD K H ρ kvs rs := by
  obtain ⟨h1, h2⟩ := r
  cases vs with
  | nil => simp at h1
  | cons q rs =>
    simp only [List.map_cons, List.cons.injEq] at h1
    obtain ⟨v, r', e, g1, g2⟩ := RelDs.uncons (by simpa only [List.map_cons] using h2)
    simp only [List.map_cons, List.cons.injEq] at e
    obtain ⟨q1, q2⟩ := q
    have h11 : q1 = p.1.map Sum.inl := h1.1
    have e1 : q2 = v := e.1
    subst e1
    exact ⟨q2, rs, by rw [h11], g1, h1.2, by rw [e.2]; exact g2⟩
theorem KD.cons {p : List Int × Dt} {v : V} {kvs : List (List Int × Dt)} {vs : List (List Key × V)} (g : RelD K H ρ p.2 v) (r : KD K H ρ kvs vs) : KD K H ρ (p :: kvs) ((p.1.map Sum.inl, v) :: vs) :=
  ⟨by simp only [List.map_cons]; rw [r.1], .cons g r.2⟩
theorem KD.length {kvs : List (List Int × Dt)} {vs : List (List Key × V)} (r : KD K H ρ kvs vs) : vs.length = kvs.length := by
  have := congrArg List.length r.1
  simpa using this
theorem KD.get : ∀ {kvs : List (List Int × Dt)} {vs : List (List Key × V)} {i : Nat} {p : List Int × Dt}, KD K H ρ kvs vs → kvs[i]? = some p → ∃ v, vs[i]? = some (p.1.map Sum.inl, v) ∧ RelD K H ρ p.2 v
  | [], _, _, _, _, e => by simp at e
  | q :: kvs, _, 0, p, r, e => by
    obtain ⟨v, rs, rfl, g, _⟩ := r.uncons
    simp at e
    subst e
    exact ⟨v, rfl, g⟩
  | q :: kvs, _, i + 1, p, r, e => by
    obtain ⟨v, rs, rfl, _, r'⟩ := r.uncons
    obtain ⟨u, e1, e2⟩ := KD.get (i := i) r' (by simpa using e)
    exact ⟨u, by simpa using e1, e2⟩
theorem KD.val (k : List Int) : ∀ {kvs : List (List Int × Dt)} {vs : List (List Key × V)}, KD K H ρ kvs vs → (∀ d, dAt kvs k = some d → ∃ v, valV vs (k.map Sum.inl) = some v ∧ RelD K H ρ d v) ∧ (dAt kvs k = none → valV vs (k.map Sum.inl) = none)
  | [], _, r => by
    rw [r.unnil]
    exact ⟨fun d e => by simp [dAt] at e, fun _ => rfl⟩
  | p :: kvs, _, r => by
    obtain ⟨v, rs, rfl, g, r'⟩ := r.uncons
    by_cases c : p.1 = k
    · have e1 : dAt (p :: kvs) k = some p.2 := by simp [dAt, List.find?_cons, c]
      rw [e1, valV_pos (inl_inj.mpr c)]
      exact ⟨fun d e => by cases e; exact ⟨v, rfl, g⟩, fun e => by cases e⟩
    · have e1 : dAt (p :: kvs) k = dAt kvs k := by simp [dAt, List.find?_cons, c]
      rw [e1, valV_neg (fun z => c (inl_inj.mp z))]
      exact KD.val k r'
theorem KD.any (k : List Int) : ∀ {kvs : List (List Int × Dt)} {vs : List (List Key × V)}, KD K H ρ kvs vs → (vs.any fun p => decide (p.1 = k.map Sum.inl)) = kvs.any fun p => decide (p.1 = k)
  | [], _, r => by rw [r.unnil]; rfl
  | p :: kvs, _, r => by
    obtain ⟨v, rs, rfl, g, r'⟩ := r.uncons
    rw [List.any_cons, List.any_cons, KD.any k r']
    congr 1
    exact decide_eq_decide.mpr inl_inj
theorem KD.repl (k : List Int) {d : Dt} {v : V} (g : RelD K H ρ d v) : ∀ {kvs : List (List Int × Dt)} {vs : List (List Key × V)}, KD K H ρ kvs vs →
    KD K H ρ (kvs.map fun p => if p.1 = k then (p.1, d) else p) (vs.map fun p => if p.1 = k.map Sum.inl then (p.1, v) else p)
  | [], _, r => by rw [r.unnil]; exact ⟨rfl, .nil⟩
  | p :: kvs, _, r => by
    obtain ⟨u, rs, rfl, g', r'⟩ := r.uncons
    rw [List.map_cons, List.map_cons]
    by_cases c : p.1 = k
    · rw [if_pos c, if_pos (inl_inj.mpr c)]
      exact KD.cons (p := (p.1, d)) g (KD.repl k g r')
    · rw [if_neg c, if_neg (fun z => c (inl_inj.mp z))]
      exact KD.cons g' (KD.repl k g r')
theorem KD.put (k : List Int) {d : Dt} {v : V} (g : RelD K H ρ d v) {kvs : List (List Int × Dt)} {vs : List (List Key × V)} (r : KD K H ρ kvs vs) : KD K H ρ (dPut kvs k d) (putK vs (k.map Sum.inl) v) := by
  unfold dPut putK
  rw [r.any k]
  split
  · exact r.repl k g
  · refine ⟨by rw [List.map_append, List.map_append, r.1]; rfl, ?_⟩
    rw [List.map_append, List.map_append]
    exact r.2.append (.cons g .nil)
theorem KD.ext {ρ' : Rg} {H' : Hp} {kvs : List (List Int × Dt)} {vs : List (List Key × V)} (r : KD K H ρ kvs vs) (x : Ext ρ ρ' H H') : KD K H' ρ' kvs vs := ⟨r.1, r.2.ext x⟩
theorem SimH.notup {h : HI} (S : SimH K ρ h H) {a : Addr} {vs : List V} (e : H a = some (.tup vs)) : ρ.no a := by
  refine ⟨fun ha => ?_, fun ha => ?_⟩
  · obtain ⟨n, hn⟩ := List.mem_iff_getElem?.mp ha
    have hl : n < h.length := by rw [← S.len]; exact (List.getElem?_eq_some_iff.mp hn).1
    have ob := S.ob n a _ hn (List.getElem?_eq_getElem hl)
    cases q : h[n] with
    | lst xs => rw [q] at ob; obtain ⟨_, g, _⟩ := ob; rw [e] at g; cases g
    | ins y fs => rw [q] at ob; obtain ⟨_, _, _, _, g, _⟩ := ob; rw [e] at g; cases g
    | dk kvs => rw [q] at ob; obtain ⟨_, g, _⟩ := ob; rw [e] at g; cases g
    | dt kvs => rw [q] at ob; obtain ⟨_, g, _⟩ := ob; rw [e] at g; cases g
    | df kvs => rw [q] at ob; obtain ⟨_, _, g, _⟩ := ob; rw [e] at g; cases g
  · obtain ⟨_, _, g⟩ := S.zt a ha
    rw [e] at g
    cases g
theorem nfd {a : Addr} {kvs : List (List Key × V)} (h : H a = some (.dT kvs)) : Nfz H a := fun _ _ e => by rw [h] at e; cases e
end
section
variable {X : Cx} {e o i d a b f : Expr} {fe fo fi fa fb fy fx : RE} {pos pos' apos cpos : Pos}
theorem em_dnew : EM X (.Dict [] [] pos) eDNew := by
  with_unfolding_all
    exact PE.imp pe_dnewT fun σ H Q ⟨ρ, l, h, d, h', S, L, e, k⟩ => by
      cases e
      intro p hp
      refine k (ρ.add p) _ _ (rel_ref.mpr ⟨p, rfl, ?_⟩) (S.own hp ⟨[], upd_same, rfl, .nil⟩) (Ext.own hp)
      simp only [Rg.add]
      rw [← S.len, List.getElem?_append_right (Nat.le_refl _), Nat.sub_self]
      rfl
theorem em_ntp {es : List Expr} {g : RA} {x1} (h : AM X es g) : EM X (.Tuple es x1 pos) (eNtp g) := by
  with_unfolding_all
    exact PE.imp (pe_tup h) fun σ H Q ⟨ρ, l, h, d, h', S, L, e, k⟩ => by
      obtain ⟨⟨ds, h1⟩, e1, e⟩ := bindE e
      dsimp only at e
      by_cases hz : ds.length ≤ sizeLine
      · rw [if_pos hz] at e
        cases q : intsOf ds with
        | none => rw [q] at e; cases e
        | some is =>
          rw [q] at e
          cases e
          refine ⟨ρ, l, h, ds, _, S, L, e1, fun ρ1 vs H1 R1 S1 E1 => ⟨by rw [R1.length]; exact hz, fun p hp => k ρ1 _ _ (rel_ntp.mpr ⟨p, rfl, S1.out hp, ?_⟩) (S1.fresh hp) (E1.trans (Ext.fresh hp))⟩⟩
          rw [intsOf_eq q] at R1
          rw [upd_same, R1.unints]
      · rw [if_neg hz] at e
        cases e
theorem em_dget2 (hu : X.A.units + 64 < cLine) (ho : EM X o fo) (hy : EM X e fy) (hx : EM X f fx) (m : M2 X o "get" apos e f cpos := by exact ⟨rfl, rfl, rfl, rfl⟩) :
    EM X (.Call (.Attribute o "get" apos) [e, f] [] cpos) (eDGet2 fo fy fx) := by
  with_unfolding_all
    exact PE.imp (pe_dget2 (by omega) ho hy hx m) fun σ H Q ⟨ρ, l, h, dd, h', S, L, e, k⟩ => by
      obtain ⟨⟨d1, h1⟩, e1, e⟩ := bindE e
      refine ⟨ρ, l, h, d1, h1, S, L, e1, fun ρ1 x H1 R1 S1 E1 => ?_⟩
      cases d1 with
      | ref n =>
        dsimp only at e
        split at e
        · rename_i kv0 q0
          obtain ⟨⟨y, h2⟩, e2, e⟩ := bindE e
          dsimp only at e
          cases y with
          | ntp ks =>
            obtain ⟨⟨dx, h3⟩, e3, e⟩ := bindE e
            dsimp only at e
            split at e
            · rename_i kvs q
              cases e
              obtain ⟨aa, z, ha⟩ := rel_ref.mp R1
              obtain ⟨vs0, g0, _⟩ := S1.ob n aa _ ha q0
              refine ⟨aa, z, .inr ⟨vs0, .inl g0⟩, ρ1, l, h1, .ntp ks, h2, S1, L.ext E1, e2, fun ρ2 y H2 R2 S2 E2 => ⟨ρ2, l, h2, dx, _, S2, L.ext (E1.trans E2), e3, fun ρ3 x3 H3 R3 S3 E3 => ?_⟩⟩
              obtain ⟨kb, zk, nk, gk⟩ := rel_ntp.mp (RelD.ext E3 _ R2)
              obtain ⟨vs, g1, g2⟩ := S3.ob n aa _ ((E2.trans E3).get ha) q
              refine ⟨valV vs (ks.map Sum.inl), by rw [zk]; exact DGet.t g1 (by rw [inl_kV]; exact gk), ?_⟩
              obtain ⟨v1, v2⟩ := KD.val (K := X.K) ks g2
              refine k ρ3 _ H3 ?_ S3 (E1.trans (E2.trans E3))
              cases c : dAt kvs ks with
              | none =>
                rw [v2 c]
                exact R3
              | some d4 =>
                obtain ⟨v4, e4, r4⟩ := v1 d4 c
                rw [e4]
                exact r4
            · cases e
          | _ => cases e
        · cases e
      | _ => cases e
theorem zm_dput (hu : X.A.units + 64 < cLine) (he : EM X e fe) (ho : EM X o fo) (hi : EM X i fi) (hs : swapsWith e (some (.Subscript o i pos')) pos.line X.env = pure false := by rfl) :
    ZM X (.Assign [.Subscript o i pos'] e pos) (sDSet fe fo fi) := by
  with_unfolding_all
    exact PS.imp (ps_dput (by omega) ho hi he hs) fun D σ H ⟨ρ, l, h, r, S, L, e, k⟩ => by
      obtain ⟨⟨v, hv⟩, e1, e⟩ := bindE e
      obtain ⟨⟨d, hd⟩, e2, e⟩ := bindE e
      obtain ⟨⟨j, hj⟩, e3, e⟩ := bindE e
      refine ⟨ρ, l, h, v, hv, S, L, e1, fun ρ1 u H1 R1 S1 E1 => ⟨ρ1, l, hv, d, hd, S1, L.ext E1, e2, fun ρ2 y H2 R2 S2 E2 => ⟨ρ2, l, hd, j, hj, S2, L.ext (E1.trans E2), e3, fun ρ3 z H3 R3 S3 E3 => ?_⟩⟩⟩
      cases d with
      | ref n =>
        cases j with
        | ntp ks =>
          dsimp only at e
          split at e
          · rename_i kvs q
            obtain ⟨hz, e⟩ := ifE e
            cases e
            obtain ⟨aa, zz, ha⟩ := rel_ref.mp (RelD.ext E3 _ R2)
            obtain ⟨vs, g1, g2⟩ := S3.ob n aa _ ha q
            obtain ⟨kb, zk, nk, gk⟩ := rel_ntp.mp R3
            have hm := List.mem_of_getElem? ha
            have g3 : KD X.K H3 ρ3 kvs vs := g2
            refine ⟨aa, _, zz, by rw [zk]; exact DPut.t g1 (by rw [inl_kV]; exact gk) (by rw [g3.length]; exact hz), ?_⟩
            exact k ρ3 σ _ (S3.write ha (nfd g1) ⟨_, upd_same, (g3.put ks (RelD.ext (E2.trans E3) _ R1)).ext (Ext.write hm (nfd g1))⟩) (L.ext (E1.trans (E2.trans (E3.trans (Ext.write hm (nfd g1)))))) (E1.trans (E2.trans (E3.trans (Ext.write hm (nfd g1)))))
          · cases e
        | _ => cases e
      | _ => cases e
theorem src_items {K : PySem.W.Frag} {H : Hp} {ρ : Rg} {n : Nat} {aa : Addr} {ob : Obj} {vs0 : List (List Key × V)} (ha : ρ.v[n]? = some aa) (e : H aa = some (.frz ob (.dT vs0))) : SrcOk K H ρ (.it n) (Itm aa ob) := by
  intro H2 ρ2 h2 sm S2 i
  have f2 := sm.fz aa ob _ e
  have ha2 := sm.ix n aa ha
  simp only [Src.at]
  cases q : h2[n]? with
  | none => trivial
  | some u =>
    cases u with
    | df kvs =>
      obtain ⟨o', vs, g1, g2⟩ := S2.ob n aa _ ha2 q
      have g3 : KD K H2 ρ2 kvs vs := g2
      rw [f2] at g1
      cases g1
      dsimp only
      cases hi : kvs[i]? with
      | none => exact ⟨vs0, f2, by rw [g3.length]; exact List.getElem?_eq_none_iff.mp hi⟩
      | some p =>
        obtain ⟨v, e1, r1⟩ := g3.get hi
        refine ⟨⟨vs0, _, f2, e1⟩, fun x H3 ⟨qq, kb, p', hn, ex, hk, hh, eH⟩ => ?_⟩
        have ep := hh vs0 f2
        rw [e1] at ep
        cases ep
        subst ex eH
        rw [inl_kV] at hk
        exact ⟨newTup S2 (.cons (rel_tup.mpr ⟨kb, _, rfl, .inl ⟨S2.notup hk, .inl hk⟩, RelDs.ints p.1⟩) (.cons r1 .nil)) hn, Ext.fresh hn, S2.fresh hn⟩
    | _ => trivial
theorem im_items {elts : List Expr} {x1} {tp : Pos} (ho : EM X d fa) (hbase : attributeBase d "items" X.env (eval d X.env) = eval d X.env := by rfl) (hline : (apos.endLine == cpos.line) = true := by rfl) :
    IM X (.Tuple elts x1 tp) (.Call (.Attribute d "items" apos) [] [] cpos) (iItems fa) := by
  with_unfolding_all
    exact PI.imp (pi_items ho hbase hline) fun σ H R ⟨ρ, l, h, s, h', S, L, e, k⟩ => by
      obtain ⟨⟨d1, h1⟩, e1, e⟩ := bindE e
      refine ⟨ρ, l, h, d1, h1, S, L, e1, fun ρ1 v H1 R1 S1 E1 => ?_⟩
      cases d1 with
      | ref n =>
        obtain ⟨aa, z, ha⟩ := rel_ref.mp R1
        have hm := List.mem_of_getElem? ha
        refine ⟨aa, z, ?_⟩
        dsimp only at e
        split at e
        · rename_i kvs q
          cases e
          obtain ⟨vs, g1, g2⟩ := S1.ob n aa _ ha q
          have g3 : KD X.K H1 ρ1 kvs vs := g2
          refine .inl ⟨vs, g1, fun ob => k ρ1 _ _ (src_items ha upd_same) (S1.write ha (nfd g1) ⟨ob, vs, upd_same, g3.ext (Ext.write hm (nfd g1))⟩) (E1.trans (Ext.write hm (nfd g1)))⟩
        · rename_i kvs q
          cases e
          obtain ⟨ob, vs, g1, g2⟩ := S1.ob n aa _ ha q
          exact .inr ⟨ob, vs, g1, k ρ1 _ _ (src_items ha g1) S1 E1⟩
        · cases e
      | _ => cases e
end
end SM
namespace L2
open PySem PySem.Spec PyProof.Rows
/-! ### min(xs, default=d) -/
section
variable {prog : Program} {w : World} {A : Around} {R : Result → Shared → Prop} {I : Addr} {fp wr : List Addr} {n : Nat} {P : Nat → Value → Prop} {St : Nat → Heap → Prop}
abbrev dfl (dv : Value) : List (Str × Value) := [(Str.ofString "default", dv)]
theorem mind_loop (dv : Value) (Wk : Walks prog w A.in1 I fp wr n P St) (bt : Nat → Nat → Bool) (cmp : CmpOf prog w A.in1 .Lt P bt) (S : Addr) (nS : S ∉ fp) :
    ∀ (k j : Nat) (s : Shared) (vb : Value) (c : Nat), n - (j + 1) = k → j + 1 ≤ n → St (j + 1) s.heap → P (argBest bt j) vb →
    s.heap.get? S = some { cls := .type "list", dict := none, data := .seq #[vb, vb] c, slots := #[] } →
    (∀ v h' tk, P (argBest bt (n - 1)) v → (∀ b o, b ∉ wr → b ≠ S → s.heap.get? b = some o → h'.get? b = some o) → R (.ok (.ret v)) { s with heap := h', toks := tk }) →
    codeAny (model prog w) A (.builtin "min.loop" ⟨[.ref I, .none, .ref S], dfl dv⟩) R s := by
  have nW : S ∉ wr := fun h => nS (Wk.sub _ h)
  have nm : (toString "min" ++ toString ".loop" : String) = "min.loop" := by decide
  intro k
  induction k with
  | zero =>
    intro j s vb c ek hj st Pb gS fin
    have ej : j + 1 = n := by omega
    refine codeAny_builtin F.entry_min_loop ?_; rw [Around.under_plainId F.plain_min_loop _]
    show wpAny _ A.in1 (seqItems? (.ref S) >>= _) _ _ s; refine wpAny_bind (wpAny_seqItems gS rfl ?_)
    show wpAny _ A.in1 (tryCatch (pyNext (.ref I)) _ >>= _) _ _ s; refine wpAny_bind (wpAny_tryCatch (Wk.done s _ _ (ej ▸ st) fun h' tk kp => ?_))
    have gS' := kp S _ nW gS
    show wpAny _ A.in1 (updateSeq S (fun _ => #[]) >>= _) _ _ _; refine wpAny_bind (wpAny_updateSeq gS' rfl (wpAny_bind (wpAny_letGo (wpAny_pure ?_))))
    exact fin vb _ tk (by rw [← ej]; exact Pb) fun b o nb ns e => (Heap.get?_update_other _ _ (Ne.symm ns)).trans (kp b o nb e)
  | succ k ih =>
    intro j s vb c ek hj st Pb gS fin
    have lt : j + 1 < n := by omega
    refine codeAny_builtin F.entry_min_loop ?_; rw [Around.under_plainId F.plain_min_loop _]
    show wpAny _ A.in1 (seqItems? (.ref S) >>= _) _ _ s; refine wpAny_bind (wpAny_seqItems gS rfl ?_)
    show wpAny _ A.in1 (tryCatch (pyNext (.ref I)) _ >>= _) _ _ s; refine wpAny_bind (wpAny_tryCatch (Wk.item (j + 1) s _ _ lt st fun v h' tk Pv st' kp => ?_))
    have gS' := kp S _ nW gS
    show wpAny _ A.in1 (tryCatch (holding [v, v] (richCompare .Lt v vb >>= _)) _ >>= _) _ _ _; refine wpAny_bind (wpAny_tryCatch (wpAny_holding (wpAny_bind (cmp (j + 1) (argBest bt j) v vb _ _ _ Pv Pb ?_))))
    refine wpAny_bind (wpAny_holding (wpAny_truthy_bool (wpAny_bind (wpAny_letGo (wpAny_pure ?_)))))
    cases cb : bt (j + 1) (argBest bt j) with
    | true =>
      simp only [if_true]; refine wpAny_bind (wpAny_updateSeq gS' rfl (wpAny_bind (wpAny_letGo ?_)))
      rw [nm]; refine wpAny_pure ⟨plainId_quiet F.plain_min_loop _, ih (j + 1) _ v _ (by omega) lt (Wk.frame _ _ _ st' fun b hbf o e => ?_) (by simp only [argBest, cb, if_true]; exact Pv) (Heap.get?_update_self _ gS' rfl) fun v' h'' tk'' Pv' kp' => ?_⟩
      · exact (Heap.get?_update_other _ _ (fun z : S = b => nS (by rw [z]; exact hbf))).trans e
      · exact fin v' h'' tk'' Pv' fun b o nb ns e => kp' b o nb ns ((Heap.get?_update_other _ _ (Ne.symm ns)).trans (kp b o nb e))
    | false =>
      simp only [Bool.false_eq_true, if_false]; refine wpAny_bind (wpAny_letGo ?_)
      rw [nm]; refine wpAny_pure ⟨plainId_quiet F.plain_min_loop _, ih (j + 1) _ vb c (by omega) lt st' (by simp only [argBest, cb, Bool.false_eq_true, if_false]; exact Pb) gS' fun v' h'' tk'' Pv' kp' => ?_⟩
      exact fin v' h'' tk'' Pv' fun b o nb ns e => kp' b o nb ns (kp b o nb e)
theorem mind_first (dv : Value) (Wk : Walks prog w A.in1 I fp wr n P St) (bt : Nat → Nat → Bool) (cmp : CmpOf prog w A.in1 .Lt P bt) (S : Addr) (nS : S ∉ fp) (hn : 0 < n) {s : Shared} {c : Nat} (st : St 0 s.heap)
    (gS : s.heap.get? S = some { cls := .type "list", dict := none, data := .seq #[] c, slots := #[] })
    (fin : ∀ v h' tk, P (argBest bt (n - 1)) v → (∀ b o, b ∉ wr → b ≠ S → s.heap.get? b = some o → h'.get? b = some o) → R (.ok (.ret v)) { s with heap := h', toks := tk }) :
    codeAny (model prog w) A (.builtin "min.loop" ⟨[.ref I, .none, .ref S], dfl dv⟩) R s := by
  have nW : S ∉ wr := fun h => nS (Wk.sub _ h)
  have nm : (toString "min" ++ toString ".loop" : String) = "min.loop" := by decide
  refine codeAny_builtin F.entry_min_loop ?_; rw [Around.under_plainId F.plain_min_loop _]
  show wpAny _ A.in1 (seqItems? (.ref S) >>= _) _ _ s; refine wpAny_bind (wpAny_seqItems gS rfl ?_)
  show wpAny _ A.in1 (tryCatch (pyNext (.ref I)) _ >>= _) _ _ s; refine wpAny_bind (wpAny_tryCatch (Wk.item 0 s _ _ hn st fun v h' tk Pv st' kp => ?_))
  have gS' := kp S _ nW gS
  show wpAny _ A.in1 (updateSeq S (fun _ => #[v, v]) >>= _) _ _ _; refine wpAny_bind (wpAny_updateSeq gS' rfl ?_)
  rw [nm]; refine wpAny_pure ⟨plainId_quiet F.plain_min_loop _, mind_loop dv Wk bt cmp S nS _ 0 _ v _ rfl hn (Wk.frame _ _ _ st' fun b hbf o e => ?_) Pv (Heap.get?_update_self _ gS' rfl) fun v' h'' tk'' Pv' kp' => ?_⟩
  · exact (Heap.get?_update_other _ _ (fun z : S = b => nS (by rw [z]; exact hbf))).trans e
  · exact fin v' h'' tk'' Pv' fun b o nb ns e => kp' b o nb ns ((Heap.get?_update_other _ _ (Ne.symm ns)).trans (kp b o nb e))
end
section
variable {prog : Program} {w : World} {A : Around} {E : Value → Shared → Prop} {s : Shared}
theorem args_mind (x d : Value) : argsOk "min" ⟨[x], dfl d⟩ := by unfold argsOk; kernel_rfl
theorem mind_walk {x dv : Value} {R : Value → Shared → Prop}
    (h : wpAny (model prog w) A.in1 (pyIter x) (fun it s2 => ∃ I fp wr n P St bt, it = .ref I ∧ Walks prog w A.in1 I fp wr n P St ∧ St 0 s2.heap ∧ (∀ b ∈ fp, b < s2.heap.objs.size) ∧ 0 < n ∧ CmpOf prog w A.in1 .Lt P bt ∧
      ∀ v h' tk, P (argBest bt (n - 1)) v → (∀ b o, b ∉ wr → s2.heap.get? b = some o → h'.get? b = some o) → R v { s2 with heap := h', toks := tk }) E s) :
    wpAny (model prog w) A (call (.builtin "min") [x] (dfl dv)) R E s := by
  have nm : (toString "min" ++ toString ".loop" : String) = "min.loop" := by decide
  refine kmk_tree PySem.F.kind_min PySem.F.plain_min PySem.F.entry_min (args_mind _ _) ?_
  show wpAny _ A.in1 (Builtin.Builtins.bindParams "min" ["key", "default"] 0 ⟨[], dfl dv⟩ >>= _) _ _ s
  refine wpAny_bind (wpAny_of_eq (show Builtin.Builtins.bindParams "min" ["key", "default"] 0 ⟨[], dfl dv⟩ = pure [none, some dv] from rfl) (wpAny_bind (wpAny_pure ?_)))
  refine wpAny_bind (wpAny_mono h (fun it s2 h2 => ?_) fun _ _ e => e)
  obtain ⟨I, fp, wr, n, P, St, bt, rfl, Wk, st, lo, hn, cmp, fin⟩ := h2
  refine wpAny_bind (wpAny_newObj_type ?_)
  have nS : s2.heap.objs.size ∉ fp := fun hm => Nat.lt_irrefl _ (lo _ hm)
  rw [nm]; refine wpAny_pure ⟨plainId_quiet F.plain_min_loop _, mind_first dv Wk bt cmp s2.heap.objs.size nS hn (Wk.frame _ _ _ st fun b _ o e => Heap.get?_push_of_some _ e) (Heap.get?_push_size _ rfl) fun v h' tk Pv kp => ?_⟩
  exact fin v h' tk Pv fun b o nb e => kp b o nb (Nat.ne_of_lt (Heap.lt_size e)) (Heap.get?_push_of_some _ e)
theorem mind_ints {l : Addr} {xs : Array (Int × Tok)} {dv : Value} {R : Value → Shared → Prop} (hh : A.handled = none) (hl : s.heap.IsList l (intItems xs)) (hne : 0 < xs.size)
    (h : ∀ v h' tk, (intItems xs)[argBest (fun i j => decide (numAt xs i < numAt xs j)) (xs.size - 1)]? = some v → (∀ b o, s.heap.get? b = some o → h'.get? b = some o) → R v { s with heap := h', toks := tk }) :
    wpAny (model prog w) A (call (.builtin "min") [.ref l] (dfl dv)) R E s := by
  refine mind_walk (iter_intList hl fun s2 e st lo hlI => ?_)
  subst e
  refine ⟨_, _, _, _, _, _, _, rfl, Walks.list (A := A.in1) hh _ l hlI (intItems xs), st, lo, by simpa [intItems] using hne, CmpOf.ints_lt (numAt xs) (fun _ _ => intItems_at), fun v h' tk Pv kp => ?_⟩
  exact h v h' tk (by simpa [intItems] using Pv) (old_kept kp)
end
end L2
namespace L2
open PySem PySem.Spec PyProof.Rows
section
variable {X : Cx} {e d : Expr} {ta : TA} {td : TE} {p pos kp : Pos}
def tMinD (K : PySem.W.Frag) (ta : TA) (td : TE) : TE := fun σ H Q => ta σ H fun xs H1 => td σ H1 fun _ H2 => ∃ (q : Addr) (ns : List Int), xs = [.ref q] ∧ SqL K H2 q (ns.map V.int) ∧ ns ≠ [] ∧ ∀ M, M ∈ ns → (∀ a ∈ ns, M ≤ a) → Q (.int M) H2
theorem pe_mind (hc : X.calm = true) (hg : Gl X "min") (hm : X.mg "min" = none) (ha : PA X [e] ta) (hd : PE X d td) (he : starEach [e] X.env = [(false, eval e X.env)] := by rfl) :
    PE X (.Call (.Name "min" p) [e] [⟨some "default", d, kp⟩] pos) (tMinD X.K ta td) := by
  intro pins s σ H Q I h
  refine wpAny_Call_Name_kw (ld_blt I hg hm PyProof.Rows.boot_min ?_)
  refine callWith_kw ?z1 (by rw [he]; rfl) (by rw [he]; rfl) rfl rfl
  refine thn (ha pos pins s σ H _ I h) fun us s1 ⟨vs, H1, I1, r1, q1⟩ => ?z2
  refine kws_cons ?z3
  refine thn (hd pins s1 σ H1 _ I1 q1) fun v s2 ⟨y, H2, I2, ry, q2⟩ => ?z4
  refine kws_nil ?z5
  show wpAny _ _ (call (.builtin "min") us (dfl v)) _ _ _
  obtain ⟨q, ns, rfl, hq, hne, fin⟩ := q2
  obtain ⟨u, rfl, rx⟩ := vals1 r1
  cases rx
  obtain ⟨its, r', pl, hz⟩ := I2.list hq
  obtain ⟨ys, e1, e2⟩ := ints_items (intsAre_of r')
  have hl := pl.isList
  rw [e1] at hl
  have hsz : 0 < ys.size := by
    rcases Nat.eq_zero_or_pos ys.size with z | z
    · exfalso
      apply hne
      rw [← e2]
      have : ys.toList = [] := List.eq_nil_of_length_eq_zero (by simpa using z)
      rw [this]
      rfl
    · exact z
  refine mind_ints (I2.ok.hd hc) hl hsz fun v h' tk hv k => ?_
  obtain ⟨t, rfl⟩ := intItems_at hv
  obtain ⟨h1, h2⟩ := argBest_lt (numAt ys) (ys.size - 1)
  refine ⟨.int _, H2, I2.kept k, ⟨t, rfl⟩, fin _ ?_ fun a ha => ?_⟩
  · rw [numAt_eq, ← e2]; exact getD_mem (by rw [List.length_map, Array.length_toList]; omega)
  · rw [← e2] at ha
    obtain ⟨j, hj, rfl⟩ := mem_getD ha
    rw [List.length_map, Array.length_toList] at hj
    rw [← numAt_eq]; exact h2 j (by omega)
end
end L2
namespace SM
open PySem PySem.Spec PyProof.Rows L2
def eMinD (fa fd : RE) : RE := fun l h => (fa l h).bind fun r => (fd l r.2).bind fun q => (seqL q.2 r.1).bind fun xs => (intsOf xs).bind fun ns => if ns ≠ [] then some (.int (minL ns), q.2) else none
section
variable {X : Cx} {e d : Expr} {fa fd : RE} {p pos kp : Pos}
theorem em_mind (hc : X.calm = true) (hg : Gl X "min") (hm : X.mg "min" = none) (ha : EM X e fa) (hd : EM X d fd) (hs : notStar e = true := by rfl) : EM X (.Call (.Name "min" p) [e] [⟨some "default", d, kp⟩] pos) (eMinD fa fd) := by
  with_unfolding_all
    exact PE.imp (pe_mind hc hg hm (pa_cons ha pa_nil (star_of hs _ _)) hd (star_of hs _ _)) fun σ H Q ⟨ρ, l, h, dd, h', S, L, e, k⟩ => by
      obtain ⟨⟨d1, h1⟩, e1, e⟩ := bindE e
      obtain ⟨⟨d2, h2⟩, e2, e⟩ := bindE e
      obtain ⟨xs, e3, e⟩ := bindE e
      obtain ⟨ns, q, e⟩ := bindE e
      obtain ⟨hne, e⟩ := ifE e
      cases e
      refine ⟨ρ, l, h, d1, h1, S, L, e1, fun ρ1 v H1 R1 S1 E1 => ⟨ρ1, l, h1, d2, _, S1, L.ext E1, e2, fun ρ2 v2 H2 R2 S2 E2 => ?_⟩⟩
      obtain ⟨a, vs, z, sq, r⟩ := seqL_at S2 (RelD.ext E2 _ R1) e3
      rw [intsOf_eq q] at r
      rw [r.unints] at sq
      obtain ⟨m1, m2⟩ := minL_spec ns hne
      refine ⟨a, ns, by rw [z], sq, hne, fun M g1 g2 => ?_⟩
      have : M = minL ns := Int.le_antisymm (g2 _ m1) (m2 M g1)
      rw [this]
      exact k ρ2 _ H2 (rel_int.mpr rfl) S2 (E1.trans E2)
end
end SM
namespace L2
open PySem PySem.Spec PyProof.Rows
/-! ### len(set(xs)) of a list of ints -/
section
variable {X : Cx}
end
end L2
namespace SM
open PySem PySem.Spec PyProof.Rows L2
section
variable {X : Cx} {e : Expr} {f : RE} {p p' pos pos' : Pos}
end
end SM
namespace L2
open PySem PySem.Spec PyProof.Rows
/-! ### range(a, b, c), c above 0 -/
section
variable {X : Cx} {tg : Expr}
end
end L2
namespace SM
open PySem PySem.Spec PyProof.Rows L2
def iR3 (f g : RE) (c : Nat) : RI := fun l h => (f l h).bind fun r => (g l r.2).bind fun q => match r.1, q.1 with
      | .int i, .int j => if 0 ≤ i ∧ i < 2 ^ 61 ∧ 0 ≤ j ∧ j < 2 ^ 61 ∧ 0 < c ∧ c < 1000 then some (.vals ((List.range ((j - i + (c : Int) - 1) / (c : Int)).toNat).map fun (k : Nat) => Dt.int (i + (k : Int) * (c : Int))), q.2) else none | _, _ => none
def putD (f : Str) (v : Dt) : List (Str × Dt) → List (Str × Dt)
  | [] => [(f, v)]
  | (g, x) :: r => if g = f then (g, v) :: r else (g, x) :: putD f v r
def fldAt (f : Str) : List (Str × Dt) → Option Dt
  | [] => none
  | (g, x) :: r => if f = g then some x else fldAt f r
def eFld (x f : Str) (fo : RE) : RE := fun l h => (fo l h).bind fun r => match r.1 with
  | .ref n => (match r.2[n]? with
    | some (.ins y fs) => if y = x then (fldAt f fs).bind fun d => some (d, r.2) else none
    | _ => none)
  | _ => none
def sFldI (x f : Str) (fo fe : RE) : RS := fun l h => (fe l h).bind fun r => (fo l r.2).bind fun q => match q.1 with
  | .ref n => (match q.2[n]? with
    | some (.ins y fs) => if y = x ∧ fs.length < 1000 then some (.nx l (q.2.set n (.ins y (putD f r.1 fs)))) else none
    | _ => none)
  | _ => none
def eMake (x : Str) (F : FnI) (g : RA) : RE := fun l h => (g l h).bind fun r => (F (.ref r.2.length :: r.1) (r.2 ++ [.ins x []])).bind fun q => match q.1 with
  | .non => some (.ref r.2.length, q.2)
  | _ => none
def eMeth (x m : Str) (F : FnI) (fo : RE) (g : RA) : RE := fun l h => (fo l h).bind fun r => match r.1 with
  | .ref n => (match r.2[n]? with
    | some (.ins y fs) => if y = x ∧ fldAt m fs = none then (g l r.2).bind fun q => F (.ref n :: q.1) q.2 else none
    | _ => none)
  | _ => none
section
variable {X : Cx} {tg : Expr}
end
def iEnu2 (f : RE) : RI := fun l h => (f l h).bind fun r => match r.1 with
  | .lst xs => some (.vals (enumD 0 xs), r.2)
  | .ref n => (match r.2[n]? with
    | some (.lst _) => some (.en n, r.2)
    | _ => none)
  | _ => none
/-! ### own classes -/
def clsOf (K : PySem.W.Frag) (x : Str) (C : Addr) : Prop := PySem.W.nsIn K mainGlobals x = some (some (.ref C))
theorem clsOf.inj {K : PySem.W.Frag} {x : Str} {C C' : Addr} (h : clsOf K x C) (h' : clsOf K x C') : C = C' := by
  have := h.symm.trans h'
  cases this
  rfl
structure ClsFld (K : PySem.W.Frag) (x f : Str) : Prop where
  ex : ∃ C, clsOf K x C ∧ Cls K C ∧ NoAttr K C f
structure MCal (P : Program) (w : World) (K : PySem.W.Frag) (mg : Str → Option Value) (base : Heap) (k n : Nat) (x m : Str) (F : FnI) : Prop where
  ex : ∃ C f fd ps, clsOf K x C ∧ Cls K C ∧ Meth K C m f ∧ FnOk P w K mg base CX0 k f fd ps (spM K n F) ∧ Binds K fd ps []
  len : ∀ ds h r, F ds h = some r → ds.length = n
structure MethAt (K : PySem.W.Frag) (x m qual : Str) (st : Stmt) (ps : List Str) : Prop where
  ex : ∃ C f fd, clsOf K x C ∧ Cls K C ∧ Meth K C m f ∧ Fun K m qual st f fd ∧ Binds K fd ps []
structure KCal (P : Program) (w : World) (K : PySem.W.Frag) (mg : Str → Option Value) (base : Heap) (k n : Nat) (x : Str) (F : FnI) : Prop where
  ex : ∃ C f fd ps, clsOf K x C ∧ Mk K C f ∧ FnOk P w K mg base CX0 k f fd ps (spM K n F) ∧ mg x = some (.ref C) ∧ Binds K fd ps []
  len : ∀ ds h r, F ds h = some r → ds.length = n
structure InitAt (K : PySem.W.Frag) (mg : Str → Option Value) (x qual : Str) (st : Stmt) (ps : List Str) : Prop where
  ex : ∃ C f fd, clsOf K x C ∧ Mk K C f ∧ Fun K "__init__" qual st f fd ∧ mg x = some (.ref C) ∧ Binds K fd ps []
section
variable {P : Program} {w : World} {K : PySem.W.Frag} {mg : Str → Option Value} {base : Heap}
end
section
variable {X : Cx} {e o value : Expr} {es : List Expr} {x f m : Str} {fo fe : RE} {g : RA} {pos pos' apos p : Pos} {k k' n : Nat} {F : FnI}
end
end SM
/-! ### defs with defaults -/
namespace SM
open PySem PySem.Spec PyProof.Rows L2
structure FunV (K : PySem.W.Frag) (x qual : Str) (st : Stmt) (dV : Value) (f : Addr) (fd : FuncData) : Prop where
  ex : ∃ (oc : Value) (od : Option Addr) (kV doc pm : Value) (an : Option Addr) (cdv ct : Value) (osl : Array (Option Value)),
    fd = PySem.W.fnOf x qual (defArgs st) (defBody st) (defScope st) dV kV doc pm an cdv ct ∧ K.lookup f = some ⟨oc, od, .func fd, osl⟩ ∧ PySem.W.codeIn K cdv qual = true
  kp : PySem.W.keepIn K (.ref f) = true
section
variable {P : Program} {w : World} {K : PySem.W.Frag} {mg : Str → Option Value} {base : Heap}
structure DefD (K : PySem.W.Frag) (mg : Str → Option Value) (x : Str) (st : Stmt) (ps : List Str) (dds : List Dt) : Prop where
  ex : ∃ dV f fd ds dvs, FunV K x x st dV f fd ∧ mg x = some (.ref f) ∧ Binds K fd ps ds ∧ Vals dvs ds ∧ ∀ H ρ, RelDs K H ρ dds dvs
structure CalD (P : Program) (w : World) (K : PySem.W.Frag) (mg : Str → Option Value) (base : Heap) (k n : Nat) (x : Str) (F : FnI) (dds : List Dt) : Prop where
  ex : ∃ f fd ps ds dvs, FnOk P w K mg base CX0 k f fd ps (spM K n F) ∧ mg x = some (.ref f) ∧ PySem.W.keepIn K (.ref f) = true ∧ Binds K fd ps ds ∧ Vals dvs ds ∧ ∀ H ρ, RelDs K H ρ dds dvs
  len : ∀ ds h r, F ds h = some r → ds.length = n
end
section
variable {X : Cx} {k k' n : Nat} {F : FnI} {x : Str} {p pos : Pos} {e : Expr} {es : List Expr} {g : RA} {dds : List Dt}
end
end SM
/-! Equations by which the functions over data are computed. -/
namespace SM
open PySem PySem.Spec PyProof.Rows L2
def bnd {α β : Type} (o : Option α) (f : α → Option β) : Option β := o.bind f
@[simp] theorem bnd_some {α β : Type} (a : α) (f : α → Option β) : bnd (some a) f = f a := by rfl
@[simp] theorem bnd_none {α β : Type} (f : α → Option β) : bnd none f = none := by rfl
@[simp] theorem bnd_ite {α β : Type} {c : Prop} [Decidable c] (a b : Option α) (k : α → Option β) : bnd (if c then a else b) k = if c then bnd a k else bnd b k := by split <;> rfl
section
variable {l : LI} {h : HI} {f g fa fb fc : RE}
@[simp] theorem q_eC (d : Dt) : eC d l h = some (d, h) := by rfl
def getV (h : HI) : Option (Option Dt) → Option (Dt × HI)
  | some (some d) => some (d, h)
  | _ => none
@[simp] theorem getV_some (d : Dt) : getV h (some (some d)) = some (d, h) := by rfl
@[simp] theorem q_eV (i : Nat) : eV i l h = getV h l[i]? := by unfold eV getV; rfl
@[simp] theorem q_e2 (op : Op2) : e2 op fa fb l h = bnd (fa l h) fun r => bnd (fb l r.2) fun q => op r.1 q.1 q.2 := by rfl
@[simp] theorem q_aNil : aNil l h = some ([], h) := by rfl
@[simp] theorem q_aCons (r : RA) : aCons f r l h = bnd (f l h) fun r' => bnd (r l r'.2) fun q => some (r'.1 :: q.1, q.2) := by rfl
def tbK : Dt × HI → Option (Bool × HI)
  | (.bl b, h) => some (b, h)
  | _ => none
@[simp] theorem tbK_bl (b : Bool) : tbK (.bl b, h) = some (b, h) := by rfl
@[simp] theorem q_tB : tB' f l h = bnd (f l h) tbK := by
  unfold bnd
  unfold tB'
  congr 1
  funext r
  obtain ⟨d, h⟩ := r
  cases d <;> rfl
@[simp] theorem q_tAnd (t u : RT) : tAnd' t u l h = bnd (t l h) fun r => if r.1 = true then u l r.2 else some (false, r.2) := by rfl
@[simp] theorem q_tOr (t u : RT) : tOr' t u l h = bnd (t l h) fun r => if r.1 = true then some (true, r.2) else u l r.2 := by rfl
@[simp] theorem q_tNot (t : RT) : tNot' t l h = bnd (t l h) fun r => some (!r.1, r.2) := by rfl
def vAndK (u : RE) (l : LI) : Dt × HI → Option (Dt × HI)
  | (.bl true, h) => u l h
  | (.bl false, h) => some (.bl false, h)
  | _ => none
def vOrK (u : RE) (l : LI) : Dt × HI → Option (Dt × HI)
  | (.bl true, h) => some (.bl true, h)
  | (.bl false, h) => u l h
  | _ => none
@[simp] theorem vAndK_bl (u : RE) (b : Bool) : vAndK u l (.bl b, h) = if b = true then u l h else some (.bl false, h) := by cases b <;> rfl
@[simp] theorem vOrK_bl (u : RE) (b : Bool) : vOrK u l (.bl b, h) = if b = true then some (.bl true, h) else u l h := by cases b <;> rfl
@[simp] theorem q_vAnd (u : RE) : vAnd f u l h = bnd (f l h) (vAndK u l) := by
  unfold bnd
  unfold vAnd
  congr 1
  funext r
  obtain ⟨d, h⟩ := r
  cases d <;> (try rfl)
  rename_i b
  cases b <;> rfl
@[simp] theorem q_vOr (u : RE) : vOr f u l h = bnd (f l h) (vOrK u l) := by
  unfold bnd
  unfold vOr
  congr 1
  funext r
  obtain ⟨d, h⟩ := r
  cases d <;> (try rfl)
  rename_i b
  cases b <;> rfl
def vNotK : Dt × HI → Option (Dt × HI)
  | (.bl b, h) => some (.bl (!b), h)
  | _ => none
@[simp] theorem vNotK_bl (b : Bool) : vNotK (.bl b, h) = some (.bl (!b), h) := by rfl
@[simp] theorem q_vNot : vNot f l h = bnd (f l h) vNotK := by
  unfold bnd
  unfold vNot
  congr 1
  funext r
  obtain ⟨d, h⟩ := r
  cases d <;> rfl
@[simp] theorem q_vIf (t : RT) : vIf t f g l h = bnd (t l h) fun r => if r.1 = true then f l r.2 else g l r.2 := by rfl
def chK (o' : Op2) (fc : RE) (l : LI) (q : Dt) : Dt × HI → Option (Dt × HI)
  | (.bl true, h) => (fc l h).bind fun r => o' q r.1 r.2
  | (.bl false, h) => some (.bl false, h)
  | _ => none
@[simp] theorem chK_bl (o' : Op2) (q : Dt) (b : Bool) : chK o' fc l q (.bl b, h) = if b = true then bnd (fc l h) fun r => o' q r.1 r.2 else some (.bl false, h) := by cases b <;> rfl
@[simp] theorem q_chain (o o' : Op2) : cChain o o' fa fb fc l h = bnd (fa l h) fun r => bnd (fb l r.2) fun q => bnd (o r.1 q.1 q.2) (chK o' fc l q.1) := by
  unfold bnd
  unfold cChain
  congr 1
  funext r
  congr 1
  funext q
  congr 1
  funext z
  obtain ⟨d, h⟩ := z
  cases d <;> (try rfl)
  rename_i b
  cases b <;> rfl
@[simp] theorem q_eTup (r : RA) : eTup r l h = bnd (r l h) fun r => if r.1.length ≤ sizeLine then some (.tup r.1, r.2) else none := by rfl
@[simp] theorem q_eLst (r : RA) : eLst r l h = bnd (r l h) fun r => if r.1.length ≤ sizeLine then some (.lst r.1, r.2) else none := by rfl
@[simp] theorem q_eNew (r : RA) : eNew r l h = bnd (r l h) fun r => if r.1.length ≤ sizeLine then some (.ref r.2.length, r.2 ++ [.lst r.1]) else none := by rfl
def negK : Dt × HI → Option (Dt × HI)
  | (.int b, h) => some (.int (-b), h)
  | _ => none
@[simp] theorem negK_int (b : Int) : negK (.int b, h) = some (.int (-b), h) := by rfl
@[simp] theorem q_neg : uNeg f l h = bnd (f l h) negK := by
  unfold bnd
  unfold uNeg
  congr 1
  funext r
  obtain ⟨d, h⟩ := r
  cases d <;> rfl
@[simp] theorem o_add (i j : Int) : oAdd (.int i) (.int j) h = some (.int (i + j), h) := by rfl
@[simp] theorem o_sub (i j : Int) : oSub (.int i) (.int j) h = some (.int (i - j), h) := by rfl
@[simp] theorem o_band (i j : Int) : oBand (.int i) (.int j) h = some (.int (Builtin.bitAnd i j), h) := by rfl
@[simp] theorem o_bor (i j : Int) : oBor (.int i) (.int j) h = some (.int (Builtin.bitOr i j), h) := by rfl
@[simp] theorem o_xor (i j : Int) : oXor (.int i) (.int j) h = some (.int (Builtin.bitXor i j), h) := by rfl
@[simp] theorem o_lt (i j : Int) : oLt (.int i) (.int j) h = some (.bl (decide (i < j)), h) := by rfl
@[simp] theorem o_le (i j : Int) : oLe (.int i) (.int j) h = some (.bl (decide (i ≤ j)), h) := by rfl
@[simp] theorem o_gt (i j : Int) : oGt (.int i) (.int j) h = some (.bl (decide (j < i)), h) := by rfl
@[simp] theorem o_ge (i j : Int) : oGe (.int i) (.int j) h = some (.bl (decide (j ≤ i)), h) := by rfl
theorem o_mul {i j : Int} (c : CMul i j) : oMul (.int i) (.int j) h = some (.int (i * j), h) := by simp only [oMul, oI, if_pos c]
theorem o_div {i j : Int} (c : CDiv i j) : oDiv (.int i) (.int j) h = some (.int (i / j), h) := by simp only [oDiv, oI, if_pos c]
theorem o_mod {i j : Int} (c : 0 < j) : oMod (.int i) (.int j) h = some (.int (i % j), h) := by simp only [oMod, oI, if_pos c]
theorem o_pow {i j : Int} (c : CPow i j) : oPow (.int i) (.int j) h = some (.int (i ^ j.toNat), h) := by simp only [oPow, oI, if_pos c]
theorem o_shl {i j : Int} (c : CPow i j) : oShl (.int i) (.int j) h = some (.int (i * 2 ^ j.toNat), h) := by simp only [oShl, oI, if_pos c]
theorem o_shr {i j : Int} (c : 0 ≤ j) : oShr (.int i) (.int j) h = some (.int (i / 2 ^ j.toNat), h) := by simp only [oShr, oI, if_pos c]
@[simp] theorem o_eq (i j : Int) : oEqD (.int i) (.int j) h = some (.bl (decide (i = j)), h) := by
  show some (Dt.bl (decide (V.int i = V.int j)), h) = _
  simp
@[simp] theorem o_ne (i j : Int) : oNeD (.int i) (.int j) h = some (.bl (!decide (i = j)), h) := by
  show some (Dt.bl (!decide (V.int i = V.int j)), h) = _
  simp
@[simp] theorem o_eqs (i j : Str) : oEqD (.str i) (.str j) h = some (.bl (decide (i = j)), h) := by
  show some (Dt.bl (decide (V.str i = V.str j)), h) = _
  simp
@[simp] theorem o_nes (i j : Str) : oNeD (.str i) (.str j) h = some (.bl (!decide (i = j)), h) := by
  show some (Dt.bl (!decide (V.str i = V.str j)), h) = _
  simp
@[simp] theorem o_eqb (i j : Bool) : oEqD (.bl i) (.bl j) h = some (.bl (decide (i = j)), h) := by
  show some (Dt.bl (decide (V.bl i = V.bl j)), h) = _
  simp
@[simp] theorem o_neb (i j : Bool) : oNeD (.bl i) (.bl j) h = some (.bl (!decide (i = j)), h) := by
  show some (Dt.bl (!decide (V.bl i = V.bl j)), h) = _
  simp
@[simp] theorem o_isN (d : Dt) : oIsN d .non h = some (.bl (isNon d), h) := by rfl
@[simp] theorem o_notN (d : Dt) : oNotN d .non h = some (.bl (!isNon d), h) := by rfl
@[simp] theorem atI_nat {α : Type} (xs : List α) (k : Nat) : atI xs (k : Int) = xs[k]? := by
  unfold atI ixN
  rw [if_pos (by omega)]
  by_cases hk : k < xs.length
  · rw [if_pos (by omega)]
    simp
  · rw [if_neg (by omega)]
    simp
    omega
@[simp] theorem atI_0 {α : Type} (xs : List α) : atI xs 0 = xs[0]? := atI_nat xs 0
@[simp] theorem atI_1 {α : Type} (xs : List α) : atI xs 1 = xs[1]? := atI_nat xs 1
@[simp] theorem atI_2 {α : Type} (xs : List α) : atI xs 2 = xs[2]? := atI_nat xs 2
@[simp] theorem o_ixT (xs : List Dt) (i : Int) : oIx (.tup xs) (.int i) h = (atI xs i).map fun d => (d, h) := by rfl
@[simp] theorem o_ixL (xs : List Dt) (i : Int) : oIx (.lst xs) (.int i) h = (atI xs i).map fun d => (d, h) := by rfl
theorem o_ixR {n : Nat} {xs : List Dt} (e : h[n]? = some (.lst xs)) (i : Int) : oIx (.ref n) (.int i) h = (atI xs i).map fun d => (d, h) := by simp only [oIx, seqA, seqL, e, Option.bind_some]
def sqK (g : RS) : Rs → Option Rs
  | .nx l h => g l h
  | r => some r
@[simp] theorem sqK_nx (g : RS) : sqK g (.nx l h) = g l h := by rfl
@[simp] theorem sqK_rt (g : RS) (d : Dt) : sqK g (.rt d h) = some (.rt d h) := by rfl
@[simp] theorem sqK_ct (g : RS) : sqK g (.ct l h) = some (.ct l h) := by rfl
@[simp] theorem sqK_bk (g : RS) : sqK g (.bk l h) = some (.bk l h) := by rfl
@[simp] theorem q_sSeq (f g : RS) : sSeq f g l h = bnd (f l h) (sqK g) := by
  unfold bnd
  unfold sSeq
  congr 1
@[simp] theorem q_sNil : sNil l h = some (.nx l h) := by rfl
@[simp] theorem q_sSet (i : Nat) : sSet i f l h = bnd (f l h) fun r => some (.nx (l.set i (some r.1)) r.2) := by rfl
@[simp] theorem q_sDrop : sDrop f l h = bnd (f l h) fun r => some (.nx l r.2) := by rfl
@[simp] theorem q_sRet : sRet f l h = bnd (f l h) fun r => some (.rt r.1 r.2) := by rfl
@[simp] theorem q_sRetN : sRetN l h = some (.rt .non h) := by rfl
@[simp] theorem q_sIf (t : RT) (f g : RS) : sIf t f g l h = bnd (t l h) fun r => if r.1 = true then f l r.2 else g l r.2 := by rfl
@[simp] theorem q_sBreak : sBreak l h = some (.bk l h) := by rfl
@[simp] theorem q_sCont : sCont l h = some (.ct l h) := by rfl
def finK : Option Rs → Option (Dt × HI)
  | some (.rt d h') => some (d, h')
  | some (.nx _ h') => some (.non, h')
  | _ => none
@[simp] theorem finK_rt (d : Dt) : finK (some (.rt d h)) = some (d, h) := by rfl
@[simp] theorem finK_nx : finK (some (.nx l h)) = some (.non, h) := by rfl
@[simp] theorem finK_ite {c : Prop} [Decidable c] (a b : Option Rs) : finK (if c then a else b) = if c then finK a else finK b := by split <;> rfl
@[simp] theorem q_fn (n N : Nat) (body : RS) (ds : List Dt) : fnI n N body ds h = if ds.length = n then finK (body (ds.map some ++ List.replicate (N - n) none) h) else none := by
  unfold fnI finK
  rfl
@[simp] theorem q_call (F : FnI) (dds : List Dt) (g : RA) : eCall F dds g l h = bnd (g l h) fun r => F (r.1 ++ dds) r.2 := by rfl
@[simp] theorem q_call0 (F : FnI) (dds : List Dt) : eCall0 F dds l h = F dds h := by rfl
def stK (go : LI → HI → Option Rs) : Rs → Option Rs
  | .nx l h => go l h
  | .ct l h => go l h
  | .bk l h => some (.nx l h)
  | .rt d h => some (.rt d h)
@[simp] theorem stK_nx (go : LI → HI → Option Rs) : stK go (.nx l h) = go l h := by rfl
@[simp] theorem stK_ct (go : LI → HI → Option Rs) : stK go (.ct l h) = go l h := by rfl
@[simp] theorem stK_bk (go : LI → HI → Option Rs) : stK go (.bk l h) = some (.nx l h) := by rfl
@[simp] theorem stK_rt (go : LI → HI → Option Rs) (d : Dt) : stK go (.rt d h) = some (.rt d h) := by rfl
def walkL (bd : RG) (body : RS) : List Dt → LI → HI → Option Rs
  | [], l, h => some (.nx l h)
  | x :: xs, l, h => (bd x l).bind fun l1 => (body l1 h).bind (stK (walkL bd body xs))
theorem forL_vals (bd : RG) (body : RS) (xs : List Dt) : ∀ (n k : Nat) (l : LI) (h : HI), n = (xs.length - k) + 1 → k ≤ xs.length → forL bd body (.vals xs) n k l h = walkL bd body (xs.drop k) l h := by
  intro n
  induction n with
  | zero => intro k l h e; omega
  | succ n ih =>
    intro k l h e hk
    unfold forL
    simp only [Src.at]
    by_cases hl : k < xs.length
    · rw [List.getElem?_eq_getElem hl, List.drop_eq_getElem_cons hl]
      simp only [walkL]
      congr 1
      funext l1
      congr 1
      funext r
      cases r with
      | nx l' h' => exact ih (k + 1) l' h' (by omega) (by omega)
      | ct l' h' => exact ih (k + 1) l' h' (by omega) (by omega)
      | bk l' h' => rfl
      | rt d h' => rfl
    · rw [List.getElem?_eq_none (by omega), List.drop_eq_nil_of_le (by omega)]
      rfl
@[simp] theorem q_gSet (i : Nat) (d : Dt) : gSet i d l = some (l.set i (some d)) := by rfl
def forK (bd : RG) (body : RS) (l : LI) : Src × HI → Option Rs := fun r => forL bd body r.1 (r.1.fuel r.2) 0 l r.2
@[simp] theorem q_sFor (g : RI) (bd : RG) (body : RS) : sFor g bd body l h = bnd (g l h) (forK bd body l) := by rfl
@[simp] theorem forK_vals (bd : RG) (body : RS) (xs : List Dt) : forK bd body l (.vals xs, h) = walkL bd body xs l h := by
  unfold forK
  simp only [Src.fuel]
  exact forL_vals bd body xs _ 0 _ _ (by omega) (by omega)
def r1K : Dt × HI → Option (Src × HI)
  | (.int j, h) => if -(2 ^ 62) ≤ j ∧ j < 2 ^ 62 then some (.vals ((List.range j.toNat).map fun (k : Nat) => Dt.int (k : Int)), h) else none
  | _ => none
@[simp] theorem q_iR1 : iR1 f l h = bnd (f l h) r1K := by
  unfold bnd
  unfold iR1
  congr 1
  funext r
  obtain ⟨d, h⟩ := r
  cases d <;> rfl
theorem r1K_int {j : Int} (a : -(2 ^ 62) ≤ j) (b : j < 2 ^ 62) : r1K (.int j, h) = some (.vals ((List.range j.toNat).map fun (k : Nat) => Dt.int (k : Int)), h) := if_pos ⟨a, b⟩
def r2K : Dt → Dt × HI → Option (Src × HI)
  | .int i, (.int j, h) => if -(2 ^ 62) ≤ i ∧ i < 2 ^ 62 ∧ -(2 ^ 62) ≤ j ∧ j < 2 ^ 62 then some (.vals ((List.range (j - i).toNat).map fun (k : Nat) => Dt.int (i + (k : Int))), h) else none
  | _, _ => none
@[simp] theorem q_iR2 : iR2 f g l h = bnd (f l h) fun r => bnd (g l r.2) (r2K r.1) := by
  unfold bnd
  unfold iR2
  congr 1
  funext r
  obtain ⟨d, h⟩ := r
  congr 1
  funext q
  obtain ⟨d', h'⟩ := q
  cases d <;> cases d' <;> rfl
theorem r2K_int {i j : Int} (a : -(2 ^ 62) ≤ i) (a' : i < 2 ^ 62) (b : -(2 ^ 62) ≤ j) (b' : j < 2 ^ 62) : r2K (.int i) (.int j, h) = some (.vals ((List.range (j - i).toNat).map fun (k : Nat) => Dt.int (i + (k : Int))), h) := if_pos ⟨a, a', b, b'⟩
def seqK : Dt × HI → Option (Src × HI)
  | (.lst xs, h) => some (.vals xs, h)
  | (.ref n, h) => if 0 < Src.fuel (.rf n) h then some (.rf n, h) else none
  | _ => none
@[simp] theorem seqK_lst (xs : List Dt) : seqK (.lst xs, h) = some (.vals xs, h) := by rfl
@[simp] theorem q_iLst : iLst f l h = bnd (f l h) seqK := by
  unfold bnd
  unfold iLst iSeq
  cases f l h with
  | none => rfl
  | some r =>
    obtain ⟨d, h⟩ := r
    cases d <;> first | rfl | (simp [seqK, Src.fuel]; done)
def tupK : Dt × HI → Option (Src × HI)
  | (.tup xs, h) => some (.vals xs, h)
  | _ => none
@[simp] theorem tupK_tup (xs : List Dt) : tupK (.tup xs, h) = some (.vals xs, h) := by rfl
@[simp] theorem q_iTupS : iTupS f l h = bnd (f l h) tupK := by
  unfold bnd
  unfold iTupS
  congr 1
  funext r
  obtain ⟨d, h⟩ := r
  cases d <;> rfl
def compV (bd : RG) (tc : RT) (te : RE) : List Dt → LI → HI → Option (List Dt × HI)
  | [], _, h => some ([], h)
  | x :: xs, l, h => (bd x l).bind fun l1 => (tc l1 h).bind fun b => if b.1 = true then (te l1 b.2).bind fun r => (compV bd tc te xs l1 r.2).bind fun q => some (r.1 :: q.1, q.2)
      else compV bd tc te xs l1 b.2
theorem compL_vals (bd : RG) (tc : RT) (te : RE) (xs : List Dt) (hx : xs.length < sizeLine) : ∀ (n k : Nat) (l : LI) (h : HI) (ys : List Dt), n = (xs.length - k) + 1 → k ≤ xs.length → ys.length ≤ k →
    compL bd tc te (.vals xs) n k l h ys = (compV bd tc te (xs.drop k) l h).bind fun q => some (ys ++ q.1, q.2) := by
  intro n
  induction n with
  | zero => intro k l h ys e; omega
  | succ n ih =>
    intro k l h ys e hk hy
    unfold compL
    simp only [Src.at]
    by_cases hl : k < xs.length
    · rw [List.getElem?_eq_getElem hl, List.drop_eq_getElem_cons hl]
      simp only [compV]
      cases bd xs[k] l with
      | none => rfl
      | some l1 =>
        simp only [Option.bind_some]
        cases tc l1 h with
        | none => rfl
        | some b =>
          simp only [Option.bind_some]
          by_cases hb : b.1 = true
          · simp only [if_pos hb]
            cases te l1 b.2 with
            | none => rfl
            | some r =>
              simp only [Option.bind_some]
              rw [if_pos (by omega), ih (k + 1) l1 r.2 _ (by omega) (by omega) (by simp; omega)]
              cases compV bd tc te (xs.drop (k + 1)) l1 r.2 with
              | none => rfl
              | some q => simp
          · simp only [if_neg hb]
            exact ih (k + 1) l1 b.2 ys (by omega) (by omega) (by omega)
    · rw [List.getElem?_eq_none (by omega), List.drop_eq_nil_of_le (by omega)]
      simp [compV]
def compK (bd : RG) (tc : RT) (te : RE) (l : LI) : Src × HI → Option (List Dt × HI) := fun r => compL bd tc te r.1 (r.1.fuel r.2) 0 l r.2 []
theorem compK_vals (bd : RG) (tc : RT) (te : RE) {xs : List Dt} (hx : xs.length < sizeLine) : compK bd tc te l (.vals xs, h) = compV bd tc te xs l h := by
  unfold compK
  simp only [Src.fuel]
  rw [compL_vals bd tc te xs hx _ 0 _ _ _ (by omega) (by omega) (by simp)]
  rw [List.drop_zero]
  cases compV bd tc te xs l h <;> simp
@[simp] theorem q_eComp (g : RI) (bd : RG) (tc : RT) (te : RE) (cap : List (Option Nat)) : eComp g bd tc te cap l h = bnd (bnd (g l h) (compK bd tc te (capI l cap))) fun q => some (.lst q.1, q.2) := by
  unfold bnd
  unfold eComp compK
  rw [Option.bind_assoc]
@[simp] theorem q_eCompN (g : RI) (bd : RG) (tc : RT) (te : RE) (cap : List (Option Nat)) : eCompN g bd tc te cap l h = bnd (bnd (g l h) (compK bd tc te (capI l cap))) fun q => some (.ref q.2.length, q.2 ++ [.lst q.1]) := by
  unfold bnd
  unfold eCompN compK
  rw [Option.bind_assoc]
@[simp] theorem q_tTrue : tTrue l h = some (true, h) := by rfl
@[simp] theorem cap_nil : capI l [] = [] := by rfl
@[simp] theorem cap_none (cap : List (Option Nat)) : capI l (none :: cap) = none :: capI l cap := by rfl
@[simp] theorem cap_some (j : Nat) (cap : List (Option Nat)) : capI l (some j :: cap) = (l[j]?).join :: capI l cap := by rfl
theorem compV_on {α : Type} {te : RE} {i : Nat} {tc : RT} (D : α → Dt) (p : α → Bool) (F : α → Dt) (h : HI) : ∀ (xs : List α) (l : LI), (∀ x ∈ xs, tc (l.set i (some (D x))) h = some (p x, h) ∧ (p x = true → te (l.set i (some (D x))) h = some (F x, h))) →
    compV (gSet i) tc te (xs.map D) l h = some ((xs.filter p).map F, h)
  | [], _, _ => rfl
  | x :: xs, l, H => by
    have hx := H x (by simp)
    have ih := compV_on D p F h xs (l.set i (some (D x))) (te := te) (tc := tc) (i := i) (fun y hy => by
      rw [List.set_set]
      exact H y (by simp [hy]))
    simp only [List.map_cons, compV, q_gSet, Option.bind_some, hx.1]
    by_cases hp : p x = true
    · simp only [hp, if_true, hx.2 hp, Option.bind_some, ih]
      simp [hp]
    · simp only [hp]
      rw [if_neg (by simp), ih]
      simp [hp]
theorem compV_all {α : Type} {te : RE} {i : Nat} {tc : RT} (D : α → Dt) (F : α → Dt) (h : HI) (xs : List α) (l : LI) (H : ∀ x ∈ xs, tc (l.set i (some (D x))) h = some (true, h) ∧ te (l.set i (some (D x))) h = some (F x, h)) :
    compV (gSet i) tc te (xs.map D) l h = some (xs.map F, h) := by
  rw [compV_on D (fun _ => true) F h xs l fun x hx => ⟨(H x hx).1, fun _ => (H x hx).2⟩, List.filter_eq_self.mpr (by simp)]
@[simp] theorem q_F1 (F : Dt → HI → Option (Dt × HI)) : eF1 F f l h = bnd (f l h) fun r => F r.1 r.2 := by rfl
@[simp] theorem f_lenL (xs : List Dt) : fLen (.lst xs) h = some (.int xs.length, h) := by rfl
@[simp] theorem f_lenT (xs : List Dt) : fLen (.tup xs) h = some (.int xs.length, h) := by rfl
theorem f_lenR {n : Nat} {xs : List Dt} (e : h[n]? = some (.lst xs)) : fLen (.ref n) h = some (.int xs.length, h) := by simp only [fLen, seqA, seqL, e, Option.map_some]
@[simp] theorem f_intI (i : Int) : fInt (.int i) h = some (.int i, h) := by rfl
@[simp] theorem f_intB (b : Bool) : fInt (.bl b) h = some (.int (if b = true then 1 else 0), h) := by rfl
@[simp] theorem f_listT (xs : List Dt) : fList (.tup xs) h = some (.lst xs, h) := by rfl
@[simp] theorem f_listL (xs : List Dt) : fList (.lst xs) h = some (.lst xs, h) := by rfl
@[simp] theorem f_listNT (xs : List Dt) : fListN (.tup xs) h = some (.ref h.length, h ++ [.lst xs]) := by rfl
@[simp] theorem f_listNL (xs : List Dt) : fListN (.lst xs) h = some (.ref h.length, h ++ [.lst xs]) := by rfl
@[simp] theorem ints_map (ns : List Int) : intsOf (ns.map Dt.int) = some ns := by
  induction ns with
  | nil => rfl
  | cons n ns ih => simp [intsOf, ih]
theorem f_max {ns : List Int} (c : ns ≠ []) : fMax (.lst (ns.map Dt.int)) h = some (.int (maxL ns), h) := by simp [fMax, seqL, c]
theorem f_min {ns : List Int} (c : ns ≠ []) : fMin (.lst (ns.map Dt.int)) h = some (.int (minL ns), h) := by simp [fMin, seqL, c]
@[simp] theorem q_isi (T : String) : eIsi T f l h = bnd (f l h) fun r => (tyN r.2 r.1).map fun t => (.bl (isT t T), r.2) := by rfl
@[simp] theorem ty_non : tyN h .non = some "NoneType" := by rfl
@[simp] theorem ty_bl (b : Bool) : tyN h (.bl b) = some "bool" := by rfl
@[simp] theorem ty_int (b : Int) : tyN h (.int b) = some "int" := by rfl
@[simp] theorem ty_str (b : Str) : tyN h (.str b) = some "str" := by rfl
@[simp] theorem ty_tup (b : List Dt) : tyN h (.tup b) = some "tuple" := by rfl
@[simp] theorem ty_lst (b : List Dt) : tyN h (.lst b) = some "list" := by rfl
@[simp] theorem isT_ii : isT "int" "int" = true := by decide +kernel
@[simp] theorem isT_ib : isT "int" "bool" = false := by decide +kernel
@[simp] theorem isT_bb : isT "bool" "bool" = true := by decide +kernel
@[simp] theorem isT_bi : isT "bool" "int" = true := by decide +kernel
@[simp] theorem isT_ll : isT "list" "list" = true := by decide +kernel
@[simp] theorem isT_tt : isT "tuple" "tuple" = true := by decide +kernel
@[simp] theorem isT_ss : isT "str" "str" = true := by decide +kernel
@[simp] theorem isT_nl : isT "NoneType" "list" = false := by decide +kernel
@[simp] theorem q_pNo : pNo l h = some (none, h) := by rfl
def atK : Dt × HI → Option (Option Int × HI)
  | (.int i, h) => some (some i, h)
  | _ => none
@[simp] theorem atK_int (i : Int) : atK (.int i, h) = some (some i, h) := by rfl
@[simp] theorem q_pAt : pAt f l h = bnd (f l h) atK := by
  unfold bnd
  unfold pAt
  congr 1
  funext r
  obtain ⟨d, h⟩ := r
  cases d <;> rfl
@[simp] theorem q_eSl (lo hi : RO) : eSl f lo hi l h = bnd (f l h) fun r => bnd (lo l r.2) fun o => bnd (hi l o.2) fun u => (seqL u.2 r.1).map fun xs => (.lst (cutD xs o.1 u.1), u.2) := by rfl
@[simp] theorem seqL_lst (xs : List Dt) : seqL h (.lst xs) = some xs := by rfl
theorem seqL_ref {n : Nat} {xs : List Dt} (e : h[n]? = some (.lst xs)) : seqL h (.ref n) = some xs := by simp only [seqL, e]
@[simp] theorem q_idxT (xs : List Dt) : eIdxT xs f l h = bnd (f l h) fun q => if idxOk xs q.1 = true then (idxD xs q.1).map fun j => (.int (j : Nat), q.2) else none := by rfl
def idxK (q : Dt × HI) : Dt → Option (Dt × HI)
  | .lst xs => if idxOk xs q.1 = true then (idxD xs q.1).map fun j => (.int (j : Nat), q.2) else none
  | _ => none
@[simp] theorem idxK_lst (q : Dt × HI) (xs : List Dt) : idxK q (.lst xs) = if idxOk xs q.1 = true then (idxD xs q.1).map fun j => (.int (j : Nat), q.2) else none := by rfl
@[simp] theorem q_idxL : eIdxL f g l h = bnd (f l h) fun r => bnd (g l r.2) fun q => idxK q r.1 := by
  unfold bnd
  unfold eIdxL
  congr 1
@[simp] theorem size_lit : sizeLine = 16777216 := by rfl
def appK (g : RE) (l : LI) : Dt × HI → Option (Dt × HI)
  | (.ref n, h) => (match h[n]? with
    | some (.lst _) => (g l h).bind fun q => match q.2[n]? with
      | some (.lst xs) => if xs.length < sizeLine then some (.non, q.2.set n (.lst (xs ++ [q.1]))) else none
      | _ => none
    | _ => none)
  | _ => none
@[simp] theorem q_append : eAppend f g l h = bnd (f l h) (appK g l) := by
  unfold bnd
  unfold eAppend
  congr 1
  funext r
  obtain ⟨d, h⟩ := r
  cases d <;> (try rfl)
theorem appK_ref {n : Nat} {xs ys : List Dt} {d : Dt} {h' : HI} (e : h[n]? = some (.lst ys)) (eg : g l h = some (d, h')) (e' : h'[n]? = some (.lst xs)) (c : xs.length < sizeLine) : appK g l (.ref n, h) = some (.non, h'.set n (.lst (xs ++ [d]))) := by
  simp only [appK, e, eg, Option.bind_some, e', if_pos c]
end
def Pass (I : LI → HI → Prop) : Rs → Prop
  | .nx l h => I l h
  | .ct l h => I l h
  | _ => False
section
variable {l : LI} {h : HI} {f g : RE}
@[simp] theorem bls_map (bs : List Bool) : blsOf (bs.map Dt.bl) = some bs := by
  induction bs with
  | nil => rfl
  | cons n ns ih => simp [blsOf, ih]
theorem f_all (bs : List Bool) : fAll (.lst (bs.map Dt.bl)) h = some (.bl (bs.all id), h) := by simp [fAll, seqL]
@[simp] theorem o_isB (c d : Bool) : oIsB (.bl d) (.bl c) h = some (.bl (d == c), h) := by rfl
def enumK : Dt × HI → Option (Src × HI)
  | (.lst xs, h) => some (.vals (enumD 0 xs), h)
  | _ => none
@[simp] theorem enumK_lst (xs : List Dt) : enumK (.lst xs, h) = some (.vals (enumD 0 xs), h) := by rfl
@[simp] theorem q_iEnum : iEnum f l h = bnd (f l h) enumK := by
  unfold bnd
  unfold iEnum
  congr 1
  funext r
  obtain ⟨d, h⟩ := r
  cases d <;> rfl
@[simp] theorem q_gSet2 (i j : Nat) (a b : Dt) : gSet2 i j (.tup [a, b]) l = some ((l.set i (some a)).set j (some b)) := by rfl
end
theorem seqK_ref {h : HI} {n : Nat} {xs : List Dt} (e : h[n]? = some (.lst xs)) : seqK (.ref n, h) = some (.rf n, h) := by
  have : 0 < Src.fuel (.rf n) h := by simp only [Src.fuel, e]; omega
  simp only [seqK, if_pos this]
end SM
/-! Equations for the further functions. -/
namespace SM
open PySem PySem.Spec PyProof.Rows L2
section
variable {l : LI} {h : HI} {f g fe fo fi fa fb : RE}
def six3 (l : LI) (v o : Dt) : Dt × HI → Option Rs
  | (.int k, h) => (match o with
    | .ref n => (match h[n]? with
      | some (.lst xs) => (ixN xs.length k).bind fun j => some (.nx l (h.set n (.lst (xs.set j v))))
      | _ => none)
    | _ => none)
  | _ => none
@[simp] theorem q_setIx : sSetIx fe fo fi l h = bnd (fe l h) fun v => bnd (fo l v.2) fun o => bnd (fi l o.2) (six3 l v.1 o.1) := by
  unfold bnd sSetIx
  congr 1
  funext v
  congr 1
  funext o
  congr 1
  funext i
  obtain ⟨d, h⟩ := o
  obtain ⟨k, h⟩ := i
  cases k <;> cases d <;> rfl
theorem ixN_nat {n k : Nat} (hk : k < n) : ixN n (k : Int) = some k := by
  unfold ixN
  rw [if_pos (by omega), if_pos (by omega)]
  simp
theorem six3_ref {n k : Nat} {xs : List Dt} {v : Dt} (e : h[n]? = some (.lst xs)) (hk : k < xs.length) : six3 l v (.ref n) (.int (k : Int), h) = some (.nx l (h.set n (.lst (xs.set k v)))) := by
  simp only [six3, e, ixN_nat hk, Option.bind_some]
@[simp] theorem q_asg (t : RG) : sAsg t fe l h = bnd (fe l h) fun v => bnd (t v.1 l) fun l' => some (.nx l' v.2) := by rfl
@[simp] theorem q_gSet3 (i j k : Nat) (a b c : Dt) : gSet3 i j k (.tup [a, b, c]) l = some (((l.set i (some a)).set j (some b)).set k (some c)) := by rfl
def repK (a : Dt) : Dt × HI → Option (Dt × HI)
  | (.int i, h) => if -(2 ^ 62) ≤ i ∧ i ≤ 1000000 then some (.lst (repD a i), h) else none
  | _ => none
def repNK (a : Dt) : Dt × HI → Option (Dt × HI)
  | (.int i, h) => if -(2 ^ 62) ≤ i ∧ i ≤ 1000000 then some (.ref h.length, h ++ [.lst (repD a i)]) else none
  | _ => none
@[simp] theorem q_rep : eRep fa fb l h = bnd (fa l h) fun a => bnd (fb l a.2) (repK a.1) := by
  unfold bnd eRep
  congr 1
  funext v
  congr 1
  funext o
  obtain ⟨d, h⟩ := o
  cases d <;> rfl
@[simp] theorem q_repN : eRepN fa fb l h = bnd (fa l h) fun a => bnd (fb l a.2) (repNK a.1) := by
  unfold bnd eRepN
  congr 1
  funext v
  congr 1
  funext o
  obtain ⟨d, h⟩ := o
  cases d <;> rfl
theorem repNK_nat (a : Dt) {k : Nat} (hk : k ≤ 1000000) : repNK a (.int (k : Int), h) = some (.ref h.length, h ++ [.lst (List.replicate k a)]) := by
  unfold repNK
  simp only
  rw [if_pos ⟨by omega, by omega⟩]
  simp [repD]
def zipK (r : Dt) : Dt × HI → Option (Src × HI) := fun q => match seqL q.2 r, seqL q.2 q.1 with
  | some _, some _ => some (.zp r q.1, q.2)
  | _, _ => none
@[simp] theorem q_iZip : iZip fa fb l h = bnd (fa l h) fun r => bnd (fb l r.2) (zipK r.1) := by rfl
@[simp] theorem x_eq (i j : Int) : oEqX (.int i) (.int j) h = some (.bl (decide (i = j)), h) := by
  have r : ∀ k : Int, resD h 8 (.int k) = some (.int k) := fun _ => by simp [resD]
  simp only [oEqX, r, Option.bind_some, o_eq, Option.map_some]
@[simp] theorem x_ne (i j : Int) : oNeX (.int i) (.int j) h = some (.bl (!decide (i = j)), h) := by
  have r : ∀ k : Int, resD h 8 (.int k) = some (.int k) := fun _ => by simp [resD]
  simp only [oNeX, r, Option.bind_some, o_ne, Option.map_some]
def whK (go : RS) (body : RS) (l : LI) : Bool × HI → Option Rs := fun c => if c.1 = true then (body l c.2).bind (stK go) else some (.nx l c.2)
theorem whileL_succ (t : RT) (body : RS) (n : Nat) : whileL t body (n + 1) l h = bnd (t l h) (whK (whileL t body n) body l) := by
  unfold bnd
  rw [whileL]
  congr 1
def extK (fa : RE) (l : LI) : Dt × HI → Option (Dt × HI)
  | (.ref n, h) => (match h[n]? with
    | some (.lst _) => (fa l h).bind fun q => match q.1 with
      | .ref m => (match q.2[n]?, q.2[m]? with
        | some (.lst xs), some (.lst ys) => if xs.length + ys.length ≤ sizeLine then some (.non, q.2.set n (.lst (xs ++ ys))) else none
        | _, _ => none)
      | _ => none
    | _ => none)
  | _ => none
@[simp] theorem q_extend : eExtend fo fa l h = bnd (fo l h) (extK fa l) := by
  unfold bnd eExtend
  congr 1
  funext r
  obtain ⟨d, h⟩ := r
  cases d <;> (try rfl)
theorem extK_ref {n m : Nat} {xs ys zs : List Dt} {h' : HI} (e : h[n]? = some (.lst zs)) (eg : fa l h = some (.ref m, h')) (e1 : h'[n]? = some (.lst xs)) (e2 : h'[m]? = some (.lst ys)) (c : xs.length + ys.length ≤ sizeLine) : extK fa l (.ref n, h) = some (.non, h'.set n (.lst (xs ++ ys))) := by
  simp only [extK, e, eg, Option.bind_some, e1, e2, if_pos c]
@[simp] theorem q_F2 (F : Dt → Dt → Option Dt) : eF2 F fa fb l h = bnd (fa l h) fun r => bnd (fb l r.2) fun q => (F r.1 q.1).map fun d => (d, q.2) := by rfl
@[simp] theorem f_max2 (i j : Int) : fMax2 (.int i) (.int j) = some (.int (max i j)) := by
  unfold fMax2
  simp only
  congr 2
  split <;> omega
@[simp] theorem f_min2 (i j : Int) : fMin2 (.int i) (.int j) = some (.int (min i j)) := by
  unfold fMin2
  simp only
  congr 2
  split <;> omega
end
theorem compL_rf {bd : RG} {tc : RT} {te : RE} {n : Nat} {xs : List Dt} (p1 : ∀ l h b h', tc l h = some (b, h') → h[n]? = some (.lst xs) → h'[n]? = some (.lst xs)) (p2 : ∀ l h b h', te l h = some (b, h') → h[n]? = some (.lst xs) → h'[n]? = some (.lst xs)) :
    ∀ (m k : Nat) (l : LI) (h : HI) (ys : List Dt), h[n]? = some (.lst xs) → compL bd tc te (.rf n) m k l h ys = compL bd tc te (.vals xs) m k l h ys := by
  intro m
  induction m with
  | zero => intros; rfl
  | succ m ih =>
    intro k l h ys e
    unfold compL
    simp only [Src.at, e]
    cases xs[k]? with
    | none => rfl
    | some d =>
      simp only
      cases bd d l with
      | none => rfl
      | some l1 =>
        simp only [Option.bind_some]
        cases q : tc l1 h with
        | none => rfl
        | some b =>
          obtain ⟨b, h1⟩ := b
          have e1 := p1 _ _ _ _ q e
          simp only [Option.bind_some]
          split
          · cases q2 : te l1 h1 with
            | none => rfl
            | some r =>
              obtain ⟨r, h2⟩ := r
              have e2 := p2 _ _ _ _ q2 e1
              simp only [Option.bind_some]
              split
              · exact ih _ _ _ _ e2
              · rfl
          · exact ih _ _ _ _ e1
theorem compK_rf {bd : RG} {tc : RT} {te : RE} {n : Nat} {xs : List Dt} {l : LI} {h : HI} (e : h[n]? = some (.lst xs)) (hx : xs.length < sizeLine) (p1 : ∀ l h b h', tc l h = some (b, h') → h[n]? = some (.lst xs) → h'[n]? = some (.lst xs)) (p2 : ∀ l h b h', te l h = some (b, h') → h[n]? = some (.lst xs) → h'[n]? = some (.lst xs)) :
    compK bd tc te l (.rf n, h) = compV bd tc te xs l h := by
  rw [← compK_vals bd tc te hx]
  unfold compK
  have e1 : Src.fuel (.rf n) h = xs.length + 1 := by simp only [Src.fuel, e]
  have e2 : Src.fuel (.vals xs) h = xs.length + 1 := by simp only [Src.fuel]
  simp only [e1, e2]
  exact compL_rf p1 p2 _ _ _ _ _ e
theorem walk_at {α : Type} {i : Nat} {body : RS} (D : α → Dt) (S : Nat → LI → HI → Prop) : ∀ (xs : List α) (k0 : Nat) (_ : ∀ (k : Nat) x, xs[k]? = some x → ∀ l h, S (k0 + k) l h → ∃ r, body (l.set i (some (D x))) h = some r ∧ Pass (S (k0 + k + 1)) r) (l : LI) (h : HI), S k0 l h →
    ∃ l' h', walkL (gSet i) body (xs.map D) l h = some (.nx l' h') ∧ S (k0 + xs.length) l' h'
  | [], k0, _, l, h, s => ⟨l, h, rfl, s⟩
  | x :: xs, k0, H, l, h, s => by
    obtain ⟨r, e, p⟩ := H 0 x rfl l h s
    have H' : ∀ (k : Nat) y, xs[k]? = some y → ∀ l h, S (k0 + 1 + k) l h → ∃ r, body (l.set i (some (D y))) h = some r ∧ Pass (S (k0 + 1 + k + 1)) r := by
      intro k y hy l h s
      have := H (k + 1) y (by simpa using hy) l h (by rw [show k0 + (k + 1) = k0 + 1 + k by omega]; exact s)
      rw [show k0 + (k + 1) + 1 = k0 + 1 + k + 1 by omega] at this
      exact this
    cases r with
    | nx l2 h2 =>
      obtain ⟨l', h', e', i'⟩ := walk_at D S xs (k0 + 1) H' l2 h2 p
      exact ⟨l', h', by simp [walkL, e, e'], by rw [List.length_cons, show k0 + (xs.length + 1) = k0 + 1 + xs.length by omega]; exact i'⟩
    | ct l2 h2 =>
      obtain ⟨l', h', e', i'⟩ := walk_at D S xs (k0 + 1) H' l2 h2 p
      exact ⟨l', h', by simp [walkL, e, e'], by rw [List.length_cons, show k0 + (xs.length + 1) = k0 + 1 + xs.length by omega]; exact i'⟩
    | bk l2 h2 => exact p.elim
    | rt d h2 => exact p.elim
theorem walk_range {i : Nat} {body : RS} (D : Nat → Dt) (S : Nat → LI → HI → Prop) (n : Nat) (H : ∀ k < n, ∀ l h, S k l h → ∃ r, body (l.set i (some (D k))) h = some r ∧ Pass (S (k + 1)) r) (l : LI) (h : HI) (s : S 0 l h) :
    ∃ l' h', walkL (gSet i) body ((List.range n).map D) l h = some (.nx l' h') ∧ S n l' h' := by
  obtain ⟨l', h', e, i'⟩ := walk_at (i := i) (body := body) D S (List.range n) 0 (fun k x hx l h s => by
    obtain ⟨h1, h2⟩ := List.getElem?_eq_some_iff.mp hx
    simp at h1 h2
    subst h2
    rw [Nat.zero_add] at s ⊢
    exact H k h1 l h s) l h s
  exact ⟨l', h', e, by simpa using i'⟩
theorem rf_at {α : Type} {i n : Nat} {body : RS} (D : α → Dt) (S : Nat → LI → HI → Prop) (xs : List α) (hS : ∀ k l h, S k l h → h[n]? = some (.lst (xs.map D))) (H : ∀ (k : Nat) x, xs[k]? = some x → ∀ l h, S k l h → ∃ r, body (l.set i (some (D x))) h = some r ∧ Pass (S (k + 1)) r)
    (l : LI) (h : HI) (h0 : S 0 l h) : ∃ l' h', forK (gSet i) body l (.rf n, h) = some (.nx l' h') ∧ S xs.length l' h' := by
  have go : ∀ (f k : Nat) (l : LI) (h : HI), S k l h → f = xs.length - k + 1 → k ≤ xs.length → ∃ l' h', forL (gSet i) body (.rf n) f k l h = some (.nx l' h') ∧ S xs.length l' h' := by
    intro f
    induction f with
    | zero => intro k l h _ e; omega
    | succ f ih =>
      intro k l h i0 e hk
      unfold forL
      simp only [Src.at, hS k l h i0, List.getElem?_map]
      by_cases hl : k < xs.length
      · rw [List.getElem?_eq_getElem hl]
        obtain ⟨r, e1, p1⟩ := H k xs[k] (List.getElem?_eq_getElem hl) l h i0
        simp only [Option.map_some, q_gSet, Option.bind_some, e1]
        cases r with
        | nx l2 h2 => exact ih (k + 1) l2 h2 p1 (by omega) (by omega)
        | ct l2 h2 => exact ih (k + 1) l2 h2 p1 (by omega) (by omega)
        | bk l2 h2 => exact p1.elim
        | rt d h2 => exact p1.elim
      · rw [List.getElem?_eq_none (by omega)]
        have : k = xs.length := by omega
        subst this
        exact ⟨l, h, rfl, i0⟩
  have hf : Src.fuel (.rf n) h = xs.length - 0 + 1 := by simp only [Src.fuel, hS 0 l h h0, List.length_map]; omega
  unfold forK
  exact go _ 0 l h h0 hf (Nat.zero_le _)
section
variable {l : LI} {h : HI} {fo fi fe f fa : RE}
def insK (fi fe : RE) (l : LI) : Dt × HI → Option (Dt × HI)
  | (.ref n, h) => (match h[n]? with
    | some (.lst _) => (fi l h).bind fun i => (fe l i.2).bind fun q => match i.1, q.2[n]? with
      | .int k, some (.lst xs) => if 0 ≤ k ∧ k ≤ 1000000 ∧ xs.length < sizeLine then some (.non, q.2.set n (.lst (xs.take k.toNat ++ q.1 :: xs.drop k.toNat))) else none
      | _, _ => none
    | _ => none)
  | _ => none
@[simp] theorem q_insert : eInsert fo fi fe l h = bnd (fo l h) (insK fi fe l) := by
  unfold bnd eInsert
  congr 1
  funext r
  obtain ⟨d, h⟩ := r
  cases d <;> (try rfl)
def popK (fa : RE) (l : LI) : Dt × HI → Option (Dt × HI)
  | (.ref n, h) => (match h[n]? with
    | some (.lst _) => (fa l h).bind fun q => match q.1 with
      | .int 0 => (match q.2[n]? with
        | some (.lst (x :: xs)) => some (x, q.2.set n (.lst xs))
        | _ => none)
      | _ => none
    | _ => none)
  | _ => none
@[simp] theorem q_popAt : ePopAt fo fa l h = bnd (fo l h) (popK fa l) := by
  unfold bnd ePopAt
  congr 1
  funext r
  obtain ⟨d, h⟩ := r
  cases d <;> (try rfl)
def invK : Dt × HI → Option (Dt × HI)
  | (.int b, h) => some (.int (Builtin.bitNot b), h)
  | _ => none
@[simp] theorem invK_int (b : Int) : invK (.int b, h) = some (.int (Builtin.bitNot b), h) := by rfl
@[simp] theorem q_inv : uInv f l h = bnd (f l h) invK := by
  unfold bnd uInv
  congr 1
  funext r
  obtain ⟨d, h⟩ := r
  cases d <;> rfl
@[simp] theorem q_while (n : Nat) (t : RT) (body : RS) : sWhile n t body l h = whileL t body n l h := by rfl
end
def Ends2 (I : LI → HI → Prop) (E : Dt → HI → Prop) : Rs → Prop
  | .nx l h => I l h
  | .rt d h => E d h
  | _ => False
theorem while_ind {t : RT} {body : RS} (I : Nat → LI → HI → Prop) (N : LI → HI → Prop) (E : Dt → HI → Prop)
    (H : ∀ m l h, I m l h → ∃ b h1, t l h = some (b, h1) ∧ if b = true then ∃ r, body l h1 = some r ∧ Ends2 (fun l' h' => ∃ m', m' < m ∧ I m' l' h') E r else N l h1) :
    ∀ (n m : Nat) (l : LI) (h : HI), I m l h → m < n → ∃ r, whileL t body n l h = some r ∧ Ends2 N E r := by
  intro n
  induction n with
  | zero => intro m l h _ hn; omega
  | succ n ih =>
    intro m l h i hn
    obtain ⟨b, h1, e1, q⟩ := H m l h i
    rw [whileL_succ, e1, bnd_some]
    unfold whK
    cases b with
    | false =>
      rw [if_neg Bool.false_ne_true] at q ⊢
      exact ⟨_, rfl, q⟩
    | true =>
      rw [if_pos rfl] at q ⊢
      obtain ⟨r, e2, q⟩ := q
      simp only [e2, Option.bind_some]
      cases r with
      | nx l' h' =>
        obtain ⟨m', hm, i'⟩ := q
        exact ih m' l' h' i' (by omega)
      | rt d h' => exact ⟨_, rfl, q⟩
      | bk l' h' => exact q.elim
      | ct l' h' => exact q.elim
end SM
/-! Equations for own objects, t + u, range with a step. -/
namespace SM
open PySem PySem.Spec PyProof.Rows L2
section
variable {l : LI} {h : HI} {f g fo fe : RE} {ga : RA}
def r3K (c : Nat) : Dt → Dt × HI → Option (Src × HI)
  | .int i, (.int j, h) => if 0 ≤ i ∧ i < 2 ^ 61 ∧ 0 ≤ j ∧ j < 2 ^ 61 ∧ 0 < c ∧ c < 1000 then some (.vals ((List.range ((j - i + (c : Int) - 1) / (c : Int)).toNat).map fun (k : Nat) => Dt.int (i + (k : Int) * (c : Int))), h) else none
  | _, _ => none
@[simp] theorem q_iR3 (c : Nat) : iR3 f g c l h = bnd (f l h) fun r => bnd (g l r.2) (r3K c r.1) := by
  unfold bnd
  unfold iR3
  congr 1
  funext r
  obtain ⟨d, h⟩ := r
  congr 1
  funext q
  obtain ⟨d', h'⟩ := q
  cases d <;> cases d' <;> rfl
def fldK (x f : Str) : Dt × HI → Option (Dt × HI)
  | (.ref n, h) => (match h[n]? with
    | some (.ins y fs) => if y = x then (fldAt f fs).bind fun d => some (d, h) else none
    | _ => none)
  | _ => none
@[simp] theorem q_fld (x k : Str) : eFld x k fo l h = bnd (fo l h) (fldK x k) := by
  unfold bnd eFld
  congr 1
  funext r
  obtain ⟨d, h⟩ := r
  cases d <;> (try rfl)
def sfldK (x f : Str) (v : Dt) (l : LI) : Dt × HI → Option Rs
  | (.ref n, h) => (match h[n]? with
    | some (.ins y fs) => if y = x ∧ fs.length < 1000 then some (.nx l (h.set n (.ins y (putD f v fs)))) else none
    | _ => none)
  | _ => none
@[simp] theorem q_sfld (x k : Str) : sFldI x k fo fe l h = bnd (fe l h) fun r => bnd (fo l r.2) (sfldK x k r.1 l) := by
  unfold bnd sFldI
  congr 1
  funext r
  congr 1
  funext q
  obtain ⟨d, h⟩ := q
  cases d <;> (try rfl)
def makeK (n : Nat) : Dt × HI → Option (Dt × HI)
  | (.non, h) => some (.ref n, h)
  | _ => none
@[simp] theorem makeK_non (n : Nat) : makeK n (.non, h) = some (.ref n, h) := by rfl
@[simp] theorem q_make (x : Str) (F : FnI) : eMake x F ga l h = bnd (ga l h) fun r => bnd (F (.ref r.2.length :: r.1) (r.2 ++ [.ins x []])) (makeK r.2.length) := by
  unfold bnd eMake
  congr 1
  funext r
  congr 1
  funext q
  obtain ⟨d, h⟩ := q
  cases d <;> (try rfl)
def methK (x m : Str) (F : FnI) (ga : RA) (l : LI) : Dt × HI → Option (Dt × HI)
  | (.ref n, h) => (match h[n]? with
    | some (.ins y fs) => if y = x ∧ fldAt m fs = none then (ga l h).bind fun q => F (.ref n :: q.1) q.2 else none
    | _ => none)
  | _ => none
@[simp] theorem q_meth (x m : Str) (F : FnI) : eMeth x m F fo ga l h = bnd (fo l h) (methK x m F ga l) := by
  unfold bnd eMeth
  congr 1
  funext r
  obtain ⟨d, h⟩ := r
  cases d <;> (try rfl)
def enu2K : Dt × HI → Option (Src × HI)
  | (.lst xs, h) => some (.vals (enumD 0 xs), h)
  | (.ref n, h) => (match h[n]? with
    | some (.lst _) => some (.en n, h)
    | _ => none)
  | _ => none
@[simp] theorem q_iEnu2 : iEnu2 f l h = bnd (f l h) enu2K := by
  unfold bnd iEnu2
  congr 1
  funext r
  obtain ⟨d, h⟩ := r
  cases d <;> (try rfl)
end
end SM
namespace G
open PySem PySem.Spec PyProof.Rows L2 SM
def top (i : Nat) : Stmt := PySem.Challenge.pw_spanways_k15_times_of_single_ways.main.body.getD i (.Pass ⟨0, 0, 0, 0⟩)
def T_ZONES : List Dt := [(.tup [(.int 0), (.int 0)]), (.tup [(.int 0), (.int 1)]), (.tup [(.int 0), (.int 2)]), (.tup [(.int 0), (.int 3)]), (.tup [(.int 0), (.int 4)]), (.tup [(.int 1), (.int 2)]), (.tup [(.int 1), (.int 3)]), (.tup [(.int 1), (.int 4)]), (.tup [(.int 2), (.int 2)]), (.tup [(.int 2), (.int 3)]), (.tup [(.int 2), (.int 4)]), (.tup [(.int 3), (.int 4)]), (.tup [(.int 4), (.int 4)])]
abbrev C_ZONES : Dt := .tup T_ZONES
abbrev s_zones : Stmt := top 2
def B_zones : RS := sRet (e2 oIx (eC C_ZONES) (eV 0))
def F_zones : FnI := fnI 1 1 B_zones
abbrev s_ways_in : Stmt := top 3
def E_ways_in_0 : RE := eV 0
def K_ways_in_1 : RT := tB' (e2 oEqD (e2 oBand (e2 oShr (eV 1) (eV 0)) (eC (.int 1))) (eC (.int 1)))
def B_ways_in : RS := sRet (eComp (iR1 (eC (.int 13))) (gSet 0) (K_ways_in_1) (E_ways_in_0) [none, some 0])
def F_ways_in : FnI := fnI 1 1 B_ways_in
abbrev s_pairs_of : Stmt := top 5
def L_pairs_of_0 : RS := sDrop (eAppend (eV 1) (eTup (aCons (eV 2) (aCons (eV 3) (aNil)))))
def L_pairs_of_1 : RS := sFor (iR2 (e2 oAdd (eV 2) (eC (.int 1))) (eV 0)) (gSet 3) L_pairs_of_0
def B_pairs_of : RS := sSeq (sSet 1 (eNew (aNil))) (sSeq (sFor (iR1 (eV 0)) (gSet 2) L_pairs_of_1) (sRet (eV 1)))
def F_pairs_of : FnI := fnI 1 4 B_pairs_of
abbrev s_grain : Stmt := top 7
def B_grain : RS := sRet (e2 oAdd (e2 oMul (eC (.int 2)) (eV 0)) (eC (.int 1)))
def F_grain : FnI := fnI 1 1 B_grain
abbrev s_length_bounds : Stmt := top 8
def B_length_bounds : RS := sSeq (sSet 2 (e2 oMul (eC (.int 2)) (e2 oIx (eV 0) (eC (.int 0))))) (sRet (eNew (aCons (eTup (aCons (eV 2) (aCons (e2 oAdd (eV 2) (eC (.int 1))) (aCons (e2 oMul (uNeg (e2 oIx (eV 0) (eC (.int 1)))) (eV 1)) (aNil))))) (aCons (eTup (aCons (e2 oAdd (eV 2) (eC (.int 1))) (aCons (eV 2) (aCons (e2 oMul (e2 oIx (eV 0) (eC (.int 2))) (eV 1)) (aNil))))) (aNil)))))
def F_length_bounds : FnI := fnI 2 3 B_length_bounds
abbrev s_point_bounds : Stmt := top 9
def B_point_bounds : RS := sSeq (sSet 4 (eNew (aNil))) (sSeq (sIf (tB' (e2 oLe (eF1 fMax (eV 3)) (eV 2))) (sDrop (eAppend (eV 4) (eTup (aCons (eV 0) (aCons (eV 1) (aCons (vIf (tB' (e2 oLt (eF1 fMax (eV 3)) (eV 2))) (uNeg (eC (.int 1))) (eC (.int 0))) (aNil))))))) (sNil)) (sSeq (sIf (tB' (e2 oGe (eF1 fMin (eV 3)) (eV 2))) (sDrop (eAppend (eV 4) (eTup (aCons (eV 1) (aCons (eV 0) (aCons (vIf (tB' (e2 oGt (eF1 fMin (eV 3)) (eV 2))) (uNeg (eC (.int 1))) (eC (.int 0))) (aNil))))))) (sNil)) (sRet (eV 4))))
def F_point_bounds : FnI := fnI 4 5 B_point_bounds
abbrev s_set_bounds : Stmt := top 10
def E_set_bounds_0 : RE := e2 oIx (eCall F_zones [] (aCons (eV 0) (aNil))) (eV 1)
def L_set_bounds_1 : RS := sSeq (sSet 5 (eComp (iLst (eCall F_ways_in [] (aCons (eV 1) (aNil)))) (gSet 0) (tTrue) (E_set_bounds_0) [none, some 4])) (sSeq (sDrop (eExtend (eV 3) (eCall F_point_bounds [] (aCons (e2 oAdd (e2 oMul (eC (.int 2)) (eV 0)) (eV 4)) (aCons (e2 oMul (eC (.int 2)) (eV 2)) (aCons (eC (.int 1)) (aCons (eV 5) (aNil)))))))) (sDrop (eExtend (eV 3) (eCall F_point_bounds [] (aCons (e2 oAdd (e2 oMul (eC (.int 2)) (eV 0)) (eV 4)) (aCons (e2 oAdd (e2 oMul (eC (.int 2)) (eV 2)) (eC (.int 1))) (aCons (eC (.int 3)) (aCons (eV 5) (aNil)))))))))
def B_set_bounds : RS := sSeq (sSet 3 (eNew (aNil))) (sSeq (sFor (iR1 (eC (.int 2))) (gSet 4) L_set_bounds_1) (sRet (eV 3)))
def F_set_bounds : FnI := fnI 3 6 B_set_bounds
abbrev s_bounds : Stmt := top 11
def E_bounds_0 : RE := eTup (aCons (e2 oMul (eC (.int 2)) (eV 0)) (aCons (e2 oAdd (e2 oMul (eC (.int 2)) (eV 0)) (eC (.int 1))) (aCons (uNeg (eC (.int 1))) (aNil))))
def L_bounds_1 : RS := sDrop (eExtend (eV 2) (eCall F_length_bounds [] (aCons (eV 3) (aCons (eCall F_grain [] (aCons (eF1 fLen (eV 0)) (aNil))) (aNil)))))
def L_bounds_2 : RS := sDrop (eExtend (eV 2) (eCall F_set_bounds [] (aCons (e2 oIx (eV 4) (eC (.int 0))) (aCons (e2 oIx (e2 oIx (eV 0) (e2 oIx (eV 4) (eC (.int 0)))) (e2 oIx (eV 4) (eC (.int 1)))) (aCons (e2 oIx (eV 4) (eC (.int 1))) (aNil))))))
def B_bounds : RS := sSeq (sSet 2 (eCompN (iR1 (eF1 fLen (eV 0))) (gSet 0) (tTrue) (E_bounds_0) [none])) (sSeq (sFor (iLst (eV 1)) (gSet 3) L_bounds_1) (sSeq (sFor (iLst (eCall F_pairs_of [] (aCons (eF1 fLen (eV 0)) (aNil)))) (gSet 4) L_bounds_2) (sRet (eV 2))))
def F_bounds : FnI := fnI 2 5 B_bounds
abbrev s_least_bounds : Stmt := top 12
def L_least_bounds_0 : RS := sSeq (sSet 3 (eNtp (aCons (e2 oIx (eV 2) (eC (.int 0))) (aCons (e2 oIx (eV 2) (eC (.int 1))) (aNil))))) (sDSet (eF2 fMin2 (eDGet2 (eV 1) (eV 3) (e2 oIx (eV 2) (eC (.int 2)))) (e2 oIx (eV 2) (eC (.int 2)))) (eV 1) (eV 3))
def B_least_bounds : RS := sSeq (sSet 1 (eDNew)) (sSeq (sFor (iLst (eV 0)) (gSet 2) L_least_bounds_0) (sRet (eV 1)))
def F_least_bounds : FnI := fnI 1 4 B_least_bounds
abbrev s_moved : Stmt := top 13
def L_moved_0 : RS := sIf (tB' (e2 oGt (e2 oIx (eV 1) (e2 oIx (eV 4) (eC (.int 0)))) (e2 oAdd (e2 oIx (eV 1) (e2 oIx (eV 4) (eC (.int 1)))) (eV 5)))) (sSeq (sSetIx (e2 oAdd (e2 oIx (eV 1) (e2 oIx (eV 4) (eC (.int 1)))) (eV 5)) (eV 1) (e2 oIx (eV 4) (eC (.int 0)))) (sSeq (sSetIx (e2 oIx (eV 4) (eC (.int 1))) (eV 2) (e2 oIx (eV 4) (eC (.int 0)))) (sSet 3 (e2 oIx (eV 4) (eC (.int 0)))))) (sNil)
def B_moved : RS := sSeq (sSet 3 (eC .non)) (sSeq (sFor (iItems (eV 0)) (gSet2 4 5) L_moved_0) (sRet (eV 3)))
def F_moved : FnI := fnI 3 6 B_moved
abbrev s_ring_behind : Stmt := top 14
def L_ring_behind_0 : RS := sSet 0 (e2 oIx (eV 1) (eV 0))
def L_ring_behind_1 : RS := sDrop (eAppend (eV 3) (e2 oIx (eV 1) (e2 oIx (eV 3) (uNeg (eC (.int 1))))))
def K_ring_behind_2 : RT := tB' (e2 oNeD (e2 oIx (eV 3) (uNeg (eC (.int 1)))) (eV 0))
def B_ring_behind : RS := sSeq (sFor (iR1 (eF1 fLen (eV 1))) (gSet 2) L_ring_behind_0) (sSeq (sSet 3 (eNew (aCons (eV 0) (aCons (e2 oIx (eV 1) (eV 0)) (aNil))))) (sSeq (sWhile 100 K_ring_behind_2 L_ring_behind_1) (sRet (eV 3))))
def F_ring_behind : FnI := fnI 2 4 B_ring_behind
abbrev s_timed : Stmt := top 15
def E_timed_0 : RE := e2 oSub (eV 0) (eV 1)
def L_timed_1 : RS := sSeq (sSet 6 (eCall F_moved [] (aCons (eV 2) (aCons (eV 3) (aCons (eV 4) (aNil)))))) (sIf (tB' (e2 oIsN (eV 6) (eC .non))) (sSeq (sSet 7 (eMinD (eV 3) (eC (.int 0)))) (sRet (eTup (aCons (eC (.str "times")) (aCons (eComp (iLst (eV 3)) (gSet 0) (tTrue) (E_timed_0) [none, some 7]) (aNil)))))) (sNil))
def B_timed : RS := sSeq (sSet 2 (eCall F_least_bounds [] (aCons (eV 1) (aNil)))) (sSeq (sSet 3 (eRepN (eC (.int 0)) (eV 0))) (sSeq (sSet 4 (eRepN (eC .non) (eV 0))) (sSeq (sFor (iR1 (e2 oAdd (eV 0) (eC (.int 1)))) (gSet 5) L_timed_1) (sRet (eTup (aCons (eC (.str "ring")) (aCons (eCall F_ring_behind [] (aCons (eV 6) (aCons (eV 4) (aNil)))) (aNil))))))))
def F_timed : FnI := fnI 2 8 B_timed
abbrev s__law_cell_at : Stmt := top 17
def B__law_cell_at : RS := sSeq (sIf (tB' (e2 oLt (eV 1) (eF1 fLen (eV 0)))) (sRet (e2 oIx (eV 0) (eV 1))) (sNil)) (sRet (eC (.int 0)))
def F__law_cell_at : FnI := fnI 2 2 B__law_cell_at
abbrev s__law_whole : Stmt := top 18
def B__law_whole : RS := sRet (vAnd (eIsi "int" (eV 0)) (vNot (eIsi "bool" (eV 0))))
def F__law_whole : FnI := fnI 1 1 B__law_whole
abbrev s__law_mixed : Stmt := top 19
def B__law_mixed : RS := sRet (e2 oMod (e2 oMul (e2 oAdd (e2 oMod (eV 0) (eC (.int 2147483647))) (eC (.int 11))) (eV 1)) (eC (.int 2147483629)))
def F__law_mixed : FnI := fnI 2 2 B__law_mixed
abbrev s__law_zones : Stmt := top 20
def B__law_zones : RS := sSeq (sSet 0 (eLst (aCons (eTup (aCons (eC (.int 0)) (aCons (eC (.int 0)) (aNil)))) (aCons (eTup (aCons (eC (.int 0)) (aCons (eC (.int 1)) (aNil)))) (aCons (eTup (aCons (eC (.int 0)) (aCons (eC (.int 2)) (aNil)))) (aCons (eTup (aCons (eC (.int 0)) (aCons (eC (.int 3)) (aNil)))) (aCons (eTup (aCons (eC (.int 0)) (aCons (eC (.int 4)) (aNil)))) (aCons (eTup (aCons (eC (.int 1)) (aCons (eC (.int 2)) (aNil)))) (aCons (eTup (aCons (eC (.int 1)) (aCons (eC (.int 3)) (aNil)))) (aNil)))))))))) (sRet (e2 oCat (eV 0) (eLst (aCons (eTup (aCons (eC (.int 1)) (aCons (eC (.int 4)) (aNil)))) (aCons (eTup (aCons (eC (.int 2)) (aCons (eC (.int 2)) (aNil)))) (aCons (eTup (aCons (eC (.int 2)) (aCons (eC (.int 3)) (aNil)))) (aCons (eTup (aCons (eC (.int 2)) (aCons (eC (.int 4)) (aNil)))) (aCons (eTup (aCons (eC (.int 3)) (aCons (eC (.int 4)) (aNil)))) (aCons (eTup (aCons (eC (.int 4)) (aCons (eC (.int 4)) (aNil)))) (aNil))))))))))
def F__law_zones : FnI := fnI 0 1 B__law_zones
abbrev s__law_zone : Stmt := top 21
def B__law_zone : RS := sSeq (sIf (tB' (e2 oLe (eV 0) (e2 oIx (eV 1) (eC (.int 0))))) (sRet (eF1 fInt (e2 oEqD (eV 0) (e2 oIx (eV 1) (eC (.int 0)))))) (sNil)) (sSeq (sIf (tB' (e2 oLt (eV 0) (e2 oIx (eV 1) (eC (.int 1))))) (sRet (eC (.int 2))) (sNil)) (sRet (e2 oSub (eC (.int 4)) (eF1 fInt (e2 oEqD (eV 0) (e2 oIx (eV 1) (eC (.int 1))))))))
def F__law_zone : FnI := fnI 2 2 B__law_zone
abbrev s__law_way : Stmt := top 22
def B__law_way : RS := sRet (eIdxL (eCall0 F__law_zones []) (eTup (aCons (eCall F__law_zone [] (aCons (e2 oIx (eV 0) (eC (.int 0))) (aCons (eV 1) (aNil)))) (aCons (eCall F__law_zone [] (aCons (e2 oIx (eV 0) (eC (.int 1))) (aCons (eV 1) (aNil)))) (aNil)))))
def F__law_way : FnI := fnI 2 2 B__law_way
abbrev s__law_spans : Stmt := top 23
def L__law_spans_0 : RS := sSeq (sSet 5 (eCall F__law_mixed [] (aCons (eCall F__law_cell_at [] (aCons (eV 0) (aCons (e2 oAdd (eV 4) (eC (.int 1))) (aNil)))) (aCons (e2 oAdd (eC (.int 48271)) (e2 oMul (e2 oMul (eC (.int 2)) (eV 4)) (eV 4))) (aNil))))) (sSeq (sSet 6 (e2 oMul (e2 oMod (e2 oDiv (eV 5) (eC (.int 7))) (eC (.int 6))) (eV 2))) (sDrop (eAppend (eV 3) (eTup (aCons (eV 6) (aCons (e2 oAdd (eV 6) (e2 oMul (e2 oAdd (eC (.int 1)) (e2 oMod (e2 oDiv (eV 5) (eC (.int 42))) (eC (.int 4)))) (eV 2))) (aNil)))))))
def B__law_spans : RS := sSeq (sSet 3 (eNew (aNil))) (sSeq (sFor (iR1 (eV 1)) (gSet 4) L__law_spans_0) (sRet (eV 3)))
def F__law_spans : FnI := fnI 3 7 B__law_spans
abbrev s__law_lengths : Stmt := top 24
def L__law_lengths_0 : RS := sSeq (sSet 5 (eCall F__law_mixed [] (aCons (eV 4) (aCons (eC (.int 69621)) (aNil))))) (sSeq (sSet 6 (e2 oMod (eV 5) (eF1 fLen (eV 1)))) (sSeq (sSet 7 (e2 oSub (e2 oIx (e2 oIx (eV 1) (eV 6)) (eC (.int 1))) (e2 oIx (e2 oIx (eV 1) (eV 6)) (eC (.int 0))))) (sSeq (sSet 8 (eF2 fMax2 (eC (.int 0)) (e2 oSub (eV 7) (e2 oIx (eLst (aCons (eC (.int 0)) (aCons (eC (.int 1)) (aCons (eV 2) (aCons (e2 oMul (eC (.int 9)) (eV 2)) (aNil)))))) (e2 oMod (e2 oDiv (eV 5) (eC (.int 8))) (eC (.int 4))))))) (sSeq (sSet 9 (e2 oAdd (eV 7) (e2 oIx (eLst (aCons (eC (.int 0)) (aCons (eC (.int 1)) (aCons (eV 2) (aCons (e2 oMod (eV 4) (e2 oPow (eC (.int 10)) (eC (.int 17)))) (aNil)))))) (e2 oMod (e2 oDiv (eV 5) (eC (.int 32))) (eC (.int 4)))))) (sDrop (eAppend (eV 3) (eTup (aCons (eV 6) (aCons (eV 8) (aCons (eV 9) (aNil)))))))))))
def B__law_lengths : RS := sSeq (sSet 3 (eNew (aNil))) (sSeq (sFor (iLst (eSl (eV 0) (pAt (eC (.int 10))) (pAt (eC (.int 60))))) (gSet 4) L__law_lengths_0) (sRet (eV 3)))
def F__law_lengths : FnI := fnI 3 10 B__law_lengths
abbrev s_law : Stmt := top 25
def E_law_0 : RE := e2 oShl (eC (.int 1)) (eCall F__law_way [] (aCons (eV 1) (aCons (eV 0) (aNil))))
def E_law_1 : RE := eComp (iLst (eV 1)) (gSet 0) (tTrue) (E_law_0) [none, some 0]
def E_law_2 : RE := eCall F__law_whole [] (aCons (eV 0) (aNil))
def E_law_3 : RE := eTup (aCons (e2 oIx (eV 1) (e2 oMul (eC (.int 2)) (eV 0))) (aCons (e2 oIx (eV 1) (e2 oAdd (e2 oMul (eC (.int 2)) (eV 0)) (eC (.int 1)))) (aNil)))
def L_law_4 : RS := sIf (tB' (e2 oNeD (e2 oShl (eC (.int 1)) (eCall F__law_way [] (aCons (e2 oIx (eV 8) (eV 9)) (aCons (e2 oIx (eV 8) (eV 10)) (aNil))))) (e2 oIx (e2 oIx (eV 4) (eV 9)) (eV 10)))) (sRet (eC (.bl false))) (sNil)
def L_law_5 : RS := sSeq (sIf (tB' (e2 oGe (e2 oIx (e2 oIx (eV 8) (eV 9)) (eC (.int 0))) (e2 oIx (e2 oIx (eV 8) (eV 9)) (eC (.int 1))))) (sRet (eC (.bl false))) (sNil)) (sFor (iR1 (eV 1)) (gSet 10) L_law_4)
def L_law_6 : RS := sSeq (sSet 13 (e2 oSub (e2 oIx (e2 oIx (eV 8) (eV 9)) (eC (.int 1))) (e2 oIx (e2 oIx (eV 8) (eV 9)) (eC (.int 0))))) (sIf (tOr' (tB' (e2 oLt (eV 13) (e2 oMul (eV 11) (e2 oAdd (e2 oMul (eC (.int 2)) (eV 1)) (eC (.int 1)))))) (tB' (e2 oGt (eV 13) (e2 oMul (eV 12) (e2 oAdd (e2 oMul (eC (.int 2)) (eV 1)) (eC (.int 1))))))) (sRet (eC (.bl false))) (sNil))
def B_law : RS := sSeq (sSet 1 (e2 oAdd (eC (.int 1)) (e2 oMod (eCall F__law_cell_at [] (aCons (eV 0) (aCons (eC (.int 0)) (aNil)))) (eC (.int 8))))) (sSeq (sSet 2 (e2 oAdd (eC (.int 1)) (e2 oMod (eCall F__law_cell_at [] (aCons (eV 0) (aCons (eC (.int 9)) (aNil)))) (e2 oPow (eC (.int 10)) (eC (.int 15)))))) (sSeq (sSet 3 (eCall F__law_spans [] (aCons (eV 0) (aCons (eV 1) (aCons (eV 2) (aNil)))))) (sSeq (sSet 4 (eComp (iLst (eV 3)) (gSet 0) (tTrue) (E_law_1) [none, some 3])) (sSeq (sSet 5 (eCall F__law_lengths [] (aCons (eV 0) (aCons (eV 3) (aCons (eV 2) (aNil)))))) (sSeq (sSet 6 (eCall F_timed [] (aCons (e2 oMul (eC (.int 2)) (eV 1)) (aCons (eCall F_bounds [] (aCons (eV 4) (aCons (eV 5) (aNil)))) (aNil))))) (sSeq (sIf (tOr' (tNot' (tB' (eIsi "tuple" (eV 6)))) (tOr' (tB' (e2 oNeD (eF1 fLen (eV 6)) (eC (.int 2)))) (tOr' (tB' (e2 oNeD (e2 oIx (eV 6) (eC (.int 0))) (eC (.str "times")))) (tNot' (tB' (eIsi "list" (e2 oIx (eV 6) (eC (.int 1))))))))) (sRet (eC (.bl false))) (sNil)) (sSeq (sSet 7 (e2 oIx (eV 6) (eC (.int 1)))) (sSeq (sIf (tOr' (tB' (e2 oNeD (eF1 fLen (eV 7)) (e2 oMul (eC (.int 2)) (eV 1)))) (tNot' (tB' (eF1 fAll (eComp (iLst (eV 7)) (gSet 0) (tTrue) (E_law_2) [none]))))) (sRet (eC (.bl false))) (sNil)) (sSeq (sIf (tB' (e2 oNeD (eF1 fMin (eV 7)) (eC (.int 0)))) (sRet (eC (.bl false))) (sNil)) (sSeq (sSet 8 (eComp (iR1 (eV 1)) (gSet 0) (tTrue) (E_law_3) [none, some 7])) (sSeq (sFor (iR1 (eV 1)) (gSet 9) L_law_5) (sSeq (sFor (iLst (eV 5)) (gSet3 9 11 12) L_law_6) (sRet (eC (.bl true)))))))))))))))
def F_law : FnI := fnI 1 14 B_law
structure Txt (K : PySem.W.Frag) (mg : Str → Option Value) : Prop where
  d_zones : DefAt K mg "zones" s_zones ["way"]
  d_ways_in : DefAt K mg "ways_in" s_ways_in ["mask"]
  d_pairs_of : DefAt K mg "pairs_of" s_pairs_of ["count"]
  d_grain : DefAt K mg "grain" s_grain ["count"]
  d_length_bounds : DefAt K mg "length_bounds" s_length_bounds ["length", "one"]
  d_point_bounds : DefAt K mg "point_bounds" s_point_bounds ["p", "q", "at", "seen"]
  d_set_bounds : DefAt K mg "set_bounds" s_set_bounds ["i", "mask", "j"]
  d_bounds : DefAt K mg "bounds" s_bounds ["net", "lengths"]
  d_least_bounds : DefAt K mg "least_bounds" s_least_bounds ["found"]
  d_moved : DefAt K mg "moved" s_moved ["least", "times", "causes"]
  d_ring_behind : DefAt K mg "ring_behind" s_ring_behind ["point", "causes"]
  d_timed : DefAt K mg "timed" s_timed ["points", "bounds"]
  d__law_cell_at : DefAt K mg "_law_cell_at" s__law_cell_at ["_law_script", "_law_k"]
  d__law_whole : DefAt K mg "_law_whole" s__law_whole ["_law_found"]
  d__law_mixed : DefAt K mg "_law_mixed" s__law_mixed ["_law_cell", "_law_factor"]
  d__law_zones : DefAt K mg "_law_zones" s__law_zones []
  d__law_zone : DefAt K mg "_law_zone" s__law_zone ["_law_at", "_law_other"]
  d__law_way : DefAt K mg "_law_way" s__law_way ["_law_one", "_law_other"]
  d__law_spans : DefAt K mg "_law_spans" s__law_spans ["_law_script", "_law_count", "_law_scale"]
  d__law_lengths : DefAt K mg "_law_lengths" s__law_lengths ["_law_script", "_law_spans_here", "_law_scale"]
  z_all : mg "all" = none
  z_bool : mg "bool" = none
  z_int : mg "int" = none
  z_isinstance : mg "isinstance" = none
  z_len : mg "len" = none
  z_list : mg "list" = none
  z_max : mg "max" = none
  z_min : mg "min" = none
  z_range : mg "range" = none
  z_tuple : mg "tuple" = none
  c_ZONES : Con1 K mg "ZONES" C_ZONES
section
variable {P : Program} {w : World} {K : PySem.W.Frag} {mg : Str → Option Value}
theorem sc_zones : FnScope ["way"] ["way"] (defScope s_zones) := ⟨rfl, rfl, rfl, by decide +kernel, rfl, by decide +kernel, by decide +kernel⟩
theorem cal_zones (T : Txt K mg) (base : Heap) : Cal P w K mg base 1 1 "zones" F_zones :=
  by unfold F_zones; exact cal_of (k := 0) (body := B_zones) T.d_zones sc_zones rfl rfl fun f cdv A outer s H E hr => by (unfold B_zones; exact zms_one (zm_ret (em_ix (em_con rfl T.c_ZONES) (em_var 0))))
theorem sc_ways_in : FnScope ["mask"] ["mask"] (defScope s_ways_in) := ⟨rfl, rfl, rfl, by decide +kernel, rfl, by decide +kernel, by decide +kernel⟩
theorem cal_ways_in (T : Txt K mg) (base : Heap) : Cal P w K mg base 1 1 "ways_in" F_ways_in :=
  by unfold F_ways_in; exact cal_of (k := 0) (body := B_ways_in) T.d_ways_in sc_ways_in rfl rfl fun f cdv A outer s H E hr => by (unfold B_ways_in K_ways_in_1 E_ways_in_0; exact zms_one (zm_ret (em_comp (Nc := ["way", "mask"]) rfl (im_range1 rfl T.z_range (em_int)) (by decide +kernel) rfl (by decide +kernel) (by rfl) (by exact ⟨⟨rfl, .inl rfl, .inl rfl, rfl⟩, trivial⟩) (fun _ _ _ _ => gm_name 0 (show (["way", "mask"] : List Str).Nodup by decide +kernel)) (fun _ _ _ _ => cm_one (tm_cmp (om_eqD hr.units) (em_op om_band (em_op om_shr (em_var 1) (em_var 0)) (em_int)) (em_int))) (fun _ _ _ _ => em_var 0))))
theorem sc_pairs_of : FnScope ["count", "found", "i", "j"] ["count"] (defScope s_pairs_of) := ⟨rfl, rfl, rfl, by decide +kernel, rfl, by decide +kernel, by decide +kernel⟩
theorem cal_pairs_of (T : Txt K mg) (base : Heap) : Cal P w K mg base 1 1 "pairs_of" F_pairs_of :=
  by unfold F_pairs_of; exact cal_of (k := 0) (body := B_pairs_of) T.d_pairs_of sc_pairs_of rfl rfl fun f cdv A outer s H E hr => by (unfold B_pairs_of L_pairs_of_1 L_pairs_of_0; exact zms_cons (zm_set 1 sc_pairs_of.nd (em_new (am_nil))) (zms_cons (zm_for PassesOwn.never rfl (im_range1 rfl T.z_range (em_var 0)) (gm_name 2 sc_pairs_of.nd) (zms_one (zm_for PassesOwn.never rfl (im_range2 rfl T.z_range (em_op om_add (em_var 2) (em_int)) (em_var 0)) (gm_name 3 sc_pairs_of.nd) (zms_one (zm_expr (em_append (em_var 1) (em_tup (am_cons (em_var 2) (am_cons (em_var 3) (am_nil)))))))))) (zms_one (zm_ret (em_var 1)))))
theorem sc_grain : FnScope ["count"] ["count"] (defScope s_grain) := ⟨rfl, rfl, rfl, by decide +kernel, rfl, by decide +kernel, by decide +kernel⟩
theorem cal_grain (T : Txt K mg) (base : Heap) : Cal P w K mg base 1 1 "grain" F_grain :=
  by unfold F_grain; exact cal_of (k := 0) (body := B_grain) T.d_grain sc_grain rfl rfl fun f cdv A outer s H E hr => by (unfold B_grain; exact zms_one (zm_ret (em_op om_add (em_op om_mul (em_int) (em_var 0)) (em_int))))
theorem sc_length_bounds : FnScope ["length", "one", "start"] ["length", "one"] (defScope s_length_bounds) := ⟨rfl, rfl, rfl, by decide +kernel, rfl, by decide +kernel, by decide +kernel⟩
theorem cal_length_bounds (T : Txt K mg) (base : Heap) : Cal P w K mg base 1 2 "length_bounds" F_length_bounds :=
  by unfold F_length_bounds; exact cal_of (k := 0) (body := B_length_bounds) T.d_length_bounds sc_length_bounds rfl rfl fun f cdv A outer s H E hr => by (unfold B_length_bounds; exact zms_cons (zm_set 2 sc_length_bounds.nd (em_op om_mul (em_int) (em_ix (em_var 0) (em_int)))) (zms_one (zm_ret (em_new (am_cons (em_tup (am_cons (em_var 2) (am_cons (em_op om_add (em_var 2) (em_int)) (am_cons (em_op om_mul (em_neg (em_ix (em_var 0) (em_int))) (em_var 1)) (am_nil))))) (am_cons (em_tup (am_cons (em_op om_add (em_var 2) (em_int)) (am_cons (em_var 2) (am_cons (em_op om_mul (em_ix (em_var 0) (em_int)) (em_var 1)) (am_nil))))) (am_nil)))))))
theorem sc_point_bounds : FnScope ["p", "q", "at", "seen", "found"] ["p", "q", "at", "seen"] (defScope s_point_bounds) := ⟨rfl, rfl, rfl, by decide +kernel, rfl, by decide +kernel, by decide +kernel⟩
theorem cal_point_bounds (T : Txt K mg) (base : Heap) : Cal P w K mg base 1 4 "point_bounds" F_point_bounds :=
  by unfold F_point_bounds; exact cal_of (k := 0) (body := B_point_bounds) T.d_point_bounds sc_point_bounds rfl rfl fun f cdv A outer s H E hr => by (unfold B_point_bounds; exact zms_cons (zm_set 4 sc_point_bounds.nd (em_new (am_nil))) (zms_cons (zm_if (tm_cmp om_le (em_max rfl rfl T.z_max (em_var 3)) (em_var 2)) (zms_one (zm_expr (em_append (em_var 4) (em_tup (am_cons (em_var 0) (am_cons (em_var 1) (am_cons (em_if (tm_cmp om_lt (em_max rfl rfl T.z_max (em_var 3)) (em_var 2)) (em_neg (em_int)) (em_int)) (am_nil)))))))) (zms_nil)) (zms_cons (zm_if (tm_cmp om_ge (em_min rfl rfl T.z_min (em_var 3)) (em_var 2)) (zms_one (zm_expr (em_append (em_var 4) (em_tup (am_cons (em_var 1) (am_cons (em_var 0) (am_cons (em_if (tm_cmp om_gt (em_min rfl rfl T.z_min (em_var 3)) (em_var 2)) (em_neg (em_int)) (em_int)) (am_nil)))))))) (zms_nil)) (zms_one (zm_ret (em_var 4))))))
theorem sc_set_bounds : FnScope ["i", "mask", "j", "found", "side", "seen"] ["i", "mask", "j"] (defScope s_set_bounds) := ⟨rfl, rfl, rfl, by decide +kernel, rfl, by decide +kernel, by decide +kernel⟩
theorem cal_set_bounds (T : Txt K mg) (base : Heap) : Cal P w K mg base 2 3 "set_bounds" F_set_bounds :=
  by unfold F_set_bounds; exact cal_of (k := 1) (body := B_set_bounds) T.d_set_bounds sc_set_bounds rfl rfl fun f cdv A outer s H E hr => by (unfold B_set_bounds L_set_bounds_1 E_set_bounds_0; exact zms_cons (zm_set 3 sc_set_bounds.nd (em_new (am_nil))) (zms_cons (zm_for PassesOwn.never rfl (im_range1 rfl T.z_range (em_int)) (gm_name 4 sc_set_bounds.nd) (zms_cons (zm_setComp (Nc := ["way", "side"]) 5 rfl sc_set_bounds.nd (im_list (em_call (cal_ways_in T base) hr (by decide) rfl (am_cons (em_var 1) (am_nil)))) (by decide +kernel) rfl (by decide +kernel) (by rfl) (by exact ⟨⟨rfl, .inl rfl, .inl rfl, rfl⟩, trivial⟩) (fun _ _ _ _ => gm_name 0 (show (["way", "side"] : List Str).Nodup by decide +kernel)) (fun _ _ _ _ => cm_nil) (fun _ _ _ _ => em_ix (em_call (cal_zones T base) hr (by decide) rfl (am_cons (em_var 0) (am_nil))) (em_var 1)) (by rfl)) (zms_cons (zm_expr (em_extend (em_var 3) (em_call (cal_point_bounds T base) hr (by decide) rfl (am_cons (em_op om_add (em_op om_mul (em_int) (em_var 0)) (em_var 4)) (am_cons (em_op om_mul (em_int) (em_var 2)) (am_cons (em_int) (am_cons (em_var 5) (am_nil)))))))) (zms_one (zm_expr (em_extend (em_var 3) (em_call (cal_point_bounds T base) hr (by decide) rfl (am_cons (em_op om_add (em_op om_mul (em_int) (em_var 0)) (em_var 4)) (am_cons (em_op om_add (em_op om_mul (em_int) (em_var 2)) (em_int)) (am_cons (em_int) (am_cons (em_var 5) (am_nil)))))))))))) (zms_one (zm_ret (em_var 3)))))
theorem sc_bounds : FnScope ["net", "lengths", "found", "length", "pair"] ["net", "lengths"] (defScope s_bounds) := ⟨rfl, rfl, rfl, by decide +kernel, rfl, by decide +kernel, by decide +kernel⟩
theorem cal_bounds (T : Txt K mg) (base : Heap) : Cal P w K mg base 3 2 "bounds" F_bounds :=
  by unfold F_bounds; exact cal_of (k := 2) (body := B_bounds) T.d_bounds sc_bounds rfl rfl fun f cdv A outer s H E hr => by (unfold B_bounds L_bounds_2 L_bounds_1 E_bounds_0; exact zms_cons (zm_setCompN (Nc := ["i"]) 2 rfl sc_bounds.nd (im_range1 rfl T.z_range (em_len rfl T.z_len (em_var 0))) (by decide +kernel) rfl (by decide +kernel) (by rfl) (by exact trivial) (fun _ _ _ _ => gm_name 0 (show (["i"] : List Str).Nodup by decide +kernel)) (fun _ _ _ _ => cm_nil) (fun _ _ _ _ => em_tup (am_cons (em_op om_mul (em_int) (em_var 0)) (am_cons (em_op om_add (em_op om_mul (em_int) (em_var 0)) (em_int)) (am_cons (em_neg (em_int)) (am_nil))))) (by rfl)) (zms_cons (zm_for PassesOwn.never rfl (im_list (em_var 1)) (gm_name 3 sc_bounds.nd) (zms_one (zm_expr (em_extend (em_var 2) (em_call (cal_length_bounds T base) hr (by decide) rfl (am_cons (em_var 3) (am_cons (em_call (cal_grain T base) hr (by decide) rfl (am_cons (em_len rfl T.z_len (em_var 0)) (am_nil))) (am_nil)))))))) (zms_cons (zm_for PassesOwn.never rfl (im_list (em_call (cal_pairs_of T base) hr (by decide) rfl (am_cons (em_len rfl T.z_len (em_var 0)) (am_nil)))) (gm_name 4 sc_bounds.nd) (zms_one (zm_expr (em_extend (em_var 2) (em_call (cal_set_bounds T base) hr (by decide) rfl (am_cons (em_ix (em_var 4) (em_int)) (am_cons (em_ix (em_ix (em_var 0) (em_ix (em_var 4) (em_int))) (em_ix (em_var 4) (em_int))) (am_cons (em_ix (em_var 4) (em_int)) (am_nil))))))))) (zms_one (zm_ret (em_var 2))))))
theorem sc_least_bounds : FnScope ["found", "least", "bound", "pair"] ["found"] (defScope s_least_bounds) := ⟨rfl, rfl, rfl, by decide +kernel, rfl, by decide +kernel, by decide +kernel⟩
theorem cal_least_bounds (T : Txt K mg) (base : Heap) : Cal P w K mg base 1 1 "least_bounds" F_least_bounds :=
  by unfold F_least_bounds; exact cal_of (k := 0) (body := B_least_bounds) T.d_least_bounds sc_least_bounds rfl rfl fun f cdv A outer s H E hr => by (unfold B_least_bounds L_least_bounds_0; exact zms_cons (zm_set 1 sc_least_bounds.nd (em_dnew)) (zms_cons (zm_for PassesOwn.never rfl (im_list (em_var 0)) (gm_name 2 sc_least_bounds.nd) (zms_cons (zm_set 3 sc_least_bounds.nd (em_ntp (am_cons (em_ix (em_var 2) (em_int)) (am_cons (em_ix (em_var 2) (em_int)) (am_nil))))) (zms_one (zm_dput hr.units (em_min2 rfl rfl T.z_min (em_dget2 hr.units (em_var 1) (em_var 3) (em_ix (em_var 2) (em_int))) (em_ix (em_var 2) (em_int))) (em_var 1) (em_var 3))))) (zms_one (zm_ret (em_var 1)))))
theorem sc_moved : FnScope ["least", "times", "causes", "last", "pair", "most"] ["least", "times", "causes"] (defScope s_moved) := ⟨rfl, rfl, rfl, by decide +kernel, rfl, by decide +kernel, by decide +kernel⟩
theorem cal_moved (T : Txt K mg) (base : Heap) : Cal P w K mg base 1 3 "moved" F_moved :=
  by unfold F_moved; exact cal_of (k := 0) (body := B_moved) T.d_moved sc_moved rfl rfl fun f cdv A outer s H E hr => by (unfold B_moved L_moved_0; exact zms_cons (zm_set 3 sc_moved.nd (em_non)) (zms_cons (zm_for PassesOwn.never rfl (im_items (em_var 0)) (gm_two 4 5 rfl sc_moved.nd) (zms_one (zm_if (tm_cmp om_gt (em_ix (em_var 1) (em_ix (em_var 4) (em_int))) (em_op om_add (em_ix (em_var 1) (em_ix (em_var 4) (em_int))) (em_var 5))) (zms_cons (zm_setIx (em_op om_add (em_ix (em_var 1) (em_ix (em_var 4) (em_int))) (em_var 5)) (em_var 1) (em_ix (em_var 4) (em_int))) (zms_cons (zm_setIx (em_ix (em_var 4) (em_int)) (em_var 2) (em_ix (em_var 4) (em_int))) (zms_one (zm_set 3 sc_moved.nd (em_ix (em_var 4) (em_int)))))) (zms_nil)))) (zms_one (zm_ret (em_var 3)))))
theorem sc_ring_behind : FnScope ["point", "causes", "step", "ring"] ["point", "causes"] (defScope s_ring_behind) := ⟨rfl, rfl, rfl, by decide +kernel, rfl, by decide +kernel, by decide +kernel⟩
theorem cal_ring_behind (T : Txt K mg) (base : Heap) : Cal P w K mg base 1 2 "ring_behind" F_ring_behind :=
  by unfold F_ring_behind; exact cal_of (k := 0) (body := B_ring_behind) T.d_ring_behind sc_ring_behind rfl rfl fun f cdv A outer s H E hr => by (unfold B_ring_behind K_ring_behind_2 L_ring_behind_1 L_ring_behind_0; exact zms_cons (zm_for PassesOwn.never rfl (im_range1 rfl T.z_range (em_len rfl T.z_len (em_var 1))) (gm_name 2 sc_ring_behind.nd) (zms_one (zm_set 0 sc_ring_behind.nd (em_ix (em_var 1) (em_var 0))))) (zms_cons (zm_set 3 sc_ring_behind.nd (em_new (am_cons (em_var 0) (am_cons (em_ix (em_var 1) (em_var 0)) (am_nil))))) (zms_cons (zm_while PassesOwn.never (tm_cmp (om_neD hr.units) (em_ix (em_var 3) (em_neg (em_int))) (em_var 0)) (zms_one (zm_expr (em_append (em_var 3) (em_ix (em_var 1) (em_ix (em_var 3) (em_neg (em_int)))))))) (zms_one (zm_ret (em_var 3))))))
theorem sc_timed : FnScope ["points", "bounds", "least", "times", "causes", "turn", "last", "first"] ["points", "bounds"] (defScope s_timed) := ⟨rfl, rfl, rfl, by decide +kernel, rfl, by decide +kernel, by decide +kernel⟩
theorem cal_timed (T : Txt K mg) (base : Heap) : Cal P w K mg base 2 2 "timed" F_timed :=
  by unfold F_timed; exact cal_of (k := 1) (body := B_timed) T.d_timed sc_timed rfl rfl fun f cdv A outer s H E hr => by (unfold B_timed L_timed_1 E_timed_0; exact zms_cons (zm_set 2 sc_timed.nd (em_call (cal_least_bounds T base) hr (by decide) rfl (am_cons (em_var 1) (am_nil)))) (zms_cons (zm_set 3 sc_timed.nd (em_repN (em_int) (em_var 0))) (zms_cons (zm_set 4 sc_timed.nd (em_repN (em_non) (em_var 0))) (zms_cons (zm_for PassesOwn.never rfl (im_range1 rfl T.z_range (em_op om_add (em_var 0) (em_int))) (gm_name 5 sc_timed.nd) (zms_cons (zm_set 6 sc_timed.nd (em_call (cal_moved T base) hr (by decide) rfl (am_cons (em_var 2) (am_cons (em_var 3) (am_cons (em_var 4) (am_nil)))))) (zms_one (zm_if (tm_cmp om_isN (em_var 6) (em_non)) (zms_cons (zm_set 7 sc_timed.nd (em_mind rfl rfl T.z_min (em_var 3) (em_int))) (zms_one (zm_ret (em_tup (am_cons (em_str) (am_cons (em_comp (Nc := ["time", "first"]) rfl (im_list (em_var 3)) (by decide +kernel) rfl (by decide +kernel) (by rfl) (by exact ⟨⟨rfl, .inl rfl, .inl rfl, rfl⟩, trivial⟩) (fun _ _ _ _ => gm_name 0 (show (["time", "first"] : List Str).Nodup by decide +kernel)) (fun _ _ _ _ => cm_nil) (fun _ _ _ _ => em_op om_sub (em_var 0) (em_var 1))) (am_nil))))))) (zms_nil))))) (zms_one (zm_ret (em_tup (am_cons (em_str) (am_cons (em_call (cal_ring_behind T base) hr (by decide) rfl (am_cons (em_var 6) (am_cons (em_var 4) (am_nil)))) (am_nil))))))))))
theorem sc__law_cell_at : FnScope ["_law_script", "_law_k"] ["_law_script", "_law_k"] (defScope s__law_cell_at) := ⟨rfl, rfl, rfl, by decide +kernel, rfl, by decide +kernel, by decide +kernel⟩
theorem cal__law_cell_at (T : Txt K mg) (base : Heap) : Cal P w K mg base 1 2 "_law_cell_at" F__law_cell_at :=
  by unfold F__law_cell_at; exact cal_of (k := 0) (body := B__law_cell_at) T.d__law_cell_at sc__law_cell_at rfl rfl fun f cdv A outer s H E hr => by (unfold B__law_cell_at; exact zms_cons (zm_if (tm_cmp om_lt (em_var 1) (em_len rfl T.z_len (em_var 0))) (zms_one (zm_ret (em_ix (em_var 0) (em_var 1)))) (zms_nil)) (zms_one (zm_ret (em_int))))
theorem sc__law_whole : FnScope ["_law_found"] ["_law_found"] (defScope s__law_whole) := ⟨rfl, rfl, rfl, by decide +kernel, rfl, by decide +kernel, by decide +kernel⟩
theorem cal__law_whole (T : Txt K mg) (base : Heap) : Cal P w K mg base 1 1 "_law_whole" F__law_whole :=
  by unfold F__law_whole; exact cal_of (k := 0) (body := B__law_whole) T.d__law_whole sc__law_whole rfl rfl fun f cdv A outer s H E hr => by (unfold B__law_whole; exact zms_one (zm_ret (em_and (em_isi rfl T.z_isinstance rfl T.z_int PyProof.Rows.boot_int (by decide) (em_var 0)) (em_one (em_not (em_isi rfl T.z_isinstance rfl T.z_bool PyProof.Rows.boot_bool (by decide) (em_var 0)))))))
theorem sc__law_mixed : FnScope ["_law_cell", "_law_factor"] ["_law_cell", "_law_factor"] (defScope s__law_mixed) := ⟨rfl, rfl, rfl, by decide +kernel, rfl, by decide +kernel, by decide +kernel⟩
theorem cal__law_mixed (T : Txt K mg) (base : Heap) : Cal P w K mg base 1 2 "_law_mixed" F__law_mixed :=
  by unfold F__law_mixed; exact cal_of (k := 0) (body := B__law_mixed) T.d__law_mixed sc__law_mixed rfl rfl fun f cdv A outer s H E hr => by (unfold B__law_mixed; exact zms_one (zm_ret (em_op om_mod (em_op om_mul (em_op om_add (em_op om_mod (em_var 0) (em_int)) (em_int)) (em_var 1)) (em_int))))
theorem sc__law_zones : FnScope ["_law_low"] [] (defScope s__law_zones) := ⟨rfl, rfl, rfl, by decide +kernel, rfl, by decide +kernel, by decide +kernel⟩
theorem cal__law_zones (T : Txt K mg) (base : Heap) : Cal P w K mg base 1 0 "_law_zones" F__law_zones :=
  by unfold F__law_zones; exact cal_of (k := 0) (body := B__law_zones) T.d__law_zones sc__law_zones rfl rfl fun f cdv A outer s H E hr => by (unfold B__law_zones; exact zms_cons (zm_set 0 sc__law_zones.nd (em_lst (am_cons (em_tup (am_cons (em_int) (am_cons (em_int) (am_nil)))) (am_cons (em_tup (am_cons (em_int) (am_cons (em_int) (am_nil)))) (am_cons (em_tup (am_cons (em_int) (am_cons (em_int) (am_nil)))) (am_cons (em_tup (am_cons (em_int) (am_cons (em_int) (am_nil)))) (am_cons (em_tup (am_cons (em_int) (am_cons (em_int) (am_nil)))) (am_cons (em_tup (am_cons (em_int) (am_cons (em_int) (am_nil)))) (am_cons (em_tup (am_cons (em_int) (am_cons (em_int) (am_nil)))) (am_nil)))))))))) (zms_one (zm_ret (em_op om_cat (em_var 0) (em_lst (am_cons (em_tup (am_cons (em_int) (am_cons (em_int) (am_nil)))) (am_cons (em_tup (am_cons (em_int) (am_cons (em_int) (am_nil)))) (am_cons (em_tup (am_cons (em_int) (am_cons (em_int) (am_nil)))) (am_cons (em_tup (am_cons (em_int) (am_cons (em_int) (am_nil)))) (am_cons (em_tup (am_cons (em_int) (am_cons (em_int) (am_nil)))) (am_cons (em_tup (am_cons (em_int) (am_cons (em_int) (am_nil)))) (am_nil))))))))))))
theorem sc__law_zone : FnScope ["_law_at", "_law_other"] ["_law_at", "_law_other"] (defScope s__law_zone) := ⟨rfl, rfl, rfl, by decide +kernel, rfl, by decide +kernel, by decide +kernel⟩
theorem cal__law_zone (T : Txt K mg) (base : Heap) : Cal P w K mg base 1 2 "_law_zone" F__law_zone :=
  by unfold F__law_zone; exact cal_of (k := 0) (body := B__law_zone) T.d__law_zone sc__law_zone rfl rfl fun f cdv A outer s H E hr => by (unfold B__law_zone; exact zms_cons (zm_if (tm_cmp om_le (em_var 0) (em_ix (em_var 1) (em_int))) (zms_one (zm_ret (em_int1 rfl T.z_int (em_cmp (om_eqD hr.units) (em_var 0) (em_ix (em_var 1) (em_int)))))) (zms_nil)) (zms_cons (zm_if (tm_cmp om_lt (em_var 0) (em_ix (em_var 1) (em_int))) (zms_one (zm_ret (em_int))) (zms_nil)) (zms_one (zm_ret (em_op om_sub (em_int) (em_int1 rfl T.z_int (em_cmp (om_eqD hr.units) (em_var 0) (em_ix (em_var 1) (em_int)))))))))
theorem sc__law_way : FnScope ["_law_one", "_law_other"] ["_law_one", "_law_other"] (defScope s__law_way) := ⟨rfl, rfl, rfl, by decide +kernel, rfl, by decide +kernel, by decide +kernel⟩
theorem cal__law_way (T : Txt K mg) (base : Heap) : Cal P w K mg base 2 2 "_law_way" F__law_way :=
  by unfold F__law_way; exact cal_of (k := 1) (body := B__law_way) T.d__law_way sc__law_way rfl rfl fun f cdv A outer s H E hr => by (unfold B__law_way; exact zms_one (zm_ret (em_index hr.units (em_call0 (cal__law_zones T base) hr (by decide) rfl) (em_tup (am_cons (em_call (cal__law_zone T base) hr (by decide) rfl (am_cons (em_ix (em_var 0) (em_int)) (am_cons (em_var 1) (am_nil)))) (am_cons (em_call (cal__law_zone T base) hr (by decide) rfl (am_cons (em_ix (em_var 0) (em_int)) (am_cons (em_var 1) (am_nil)))) (am_nil)))))))
theorem sc__law_spans : FnScope ["_law_script", "_law_count", "_law_scale", "_law_made", "_law_k", "_law_number", "_law_start"] ["_law_script", "_law_count", "_law_scale"] (defScope s__law_spans) := ⟨rfl, rfl, rfl, by decide +kernel, rfl, by decide +kernel, by decide +kernel⟩
theorem cal__law_spans (T : Txt K mg) (base : Heap) : Cal P w K mg base 2 3 "_law_spans" F__law_spans :=
  by unfold F__law_spans; exact cal_of (k := 1) (body := B__law_spans) T.d__law_spans sc__law_spans rfl rfl fun f cdv A outer s H E hr => by (unfold B__law_spans L__law_spans_0; exact zms_cons (zm_set 3 sc__law_spans.nd (em_new (am_nil))) (zms_cons (zm_for PassesOwn.never rfl (im_range1 rfl T.z_range (em_var 1)) (gm_name 4 sc__law_spans.nd) (zms_cons (zm_set 5 sc__law_spans.nd (em_call (cal__law_mixed T base) hr (by decide) rfl (am_cons (em_call (cal__law_cell_at T base) hr (by decide) rfl (am_cons (em_var 0) (am_cons (em_op om_add (em_var 4) (em_int)) (am_nil)))) (am_cons (em_op om_add (em_int) (em_op om_mul (em_op om_mul (em_int) (em_var 4)) (em_var 4))) (am_nil))))) (zms_cons (zm_set 6 sc__law_spans.nd (em_op om_mul (em_op om_mod (em_op om_div (em_var 5) (em_int)) (em_int)) (em_var 2))) (zms_one (zm_expr (em_append (em_var 3) (em_tup (am_cons (em_var 6) (am_cons (em_op om_add (em_var 6) (em_op om_mul (em_op om_add (em_int) (em_op om_mod (em_op om_div (em_var 5) (em_int)) (em_int))) (em_var 2))) (am_nil)))))))))) (zms_one (zm_ret (em_var 3)))))
theorem sc__law_lengths : FnScope ["_law_script", "_law_spans_here", "_law_scale", "_law_found", "_law_cell", "_law_number", "_law_i", "_law_size", "_law_low", "_law_high"] ["_law_script", "_law_spans_here", "_law_scale"] (defScope s__law_lengths) := ⟨rfl, rfl, rfl, by decide +kernel, rfl, by decide +kernel, by decide +kernel⟩
theorem cal__law_lengths (T : Txt K mg) (base : Heap) : Cal P w K mg base 2 3 "_law_lengths" F__law_lengths :=
  by unfold F__law_lengths; exact cal_of (k := 1) (body := B__law_lengths) T.d__law_lengths sc__law_lengths rfl rfl fun f cdv A outer s H E hr => by (unfold B__law_lengths L__law_lengths_0; exact zms_cons (zm_set 3 sc__law_lengths.nd (em_new (am_nil))) (zms_cons (zm_for PassesOwn.never rfl (im_list (em_slice (em_var 0) (om_some (em_int)) (om_some (em_int)))) (gm_name 4 sc__law_lengths.nd) (zms_cons (zm_set 5 sc__law_lengths.nd (em_call (cal__law_mixed T base) hr (by decide) rfl (am_cons (em_var 4) (am_cons (em_int) (am_nil))))) (zms_cons (zm_set 6 sc__law_lengths.nd (em_op om_mod (em_var 5) (em_len rfl T.z_len (em_var 1)))) (zms_cons (zm_set 7 sc__law_lengths.nd (em_op om_sub (em_ix (em_ix (em_var 1) (em_var 6)) (em_int)) (em_ix (em_ix (em_var 1) (em_var 6)) (em_int)))) (zms_cons (zm_set 8 sc__law_lengths.nd (em_max2 rfl rfl T.z_max (em_int) (em_op om_sub (em_var 7) (em_ix (em_lst (am_cons (em_int) (am_cons (em_int) (am_cons (em_var 2) (am_cons (em_op om_mul (em_int) (em_var 2)) (am_nil)))))) (em_op om_mod (em_op om_div (em_var 5) (em_int)) (em_int)))))) (zms_cons (zm_set 9 sc__law_lengths.nd (em_op om_add (em_var 7) (em_ix (em_lst (am_cons (em_int) (am_cons (em_int) (am_cons (em_var 2) (am_cons (em_op om_mod (em_var 4) (em_op om_pow (em_int) (em_int))) (am_nil)))))) (em_op om_mod (em_op om_div (em_var 5) (em_int)) (em_int))))) (zms_one (zm_expr (em_append (em_var 3) (em_tup (am_cons (em_var 6) (am_cons (em_var 8) (am_cons (em_var 9) (am_nil)))))))))))))) (zms_one (zm_ret (em_var 3)))))
theorem sc_law : FnScope ["_law_script", "_law_count", "_law_scale", "_law_spans_here", "_law_net", "_law_lengths_here", "_law_found", "_law_times", "_law_made", "_law_i", "_law_j", "_law_low", "_law_high", "_law_size"] ["_law_script"] (defScope s_law) := ⟨rfl, rfl, rfl, by decide +kernel, rfl, by decide +kernel, by decide +kernel⟩
theorem fn_law (T : Txt K mg) (base : Heap) {f : Addr} {fd : FuncData} (F : Fun K "law" "law" s_law f fd) : FnOk P w K mg base CX0 4 f fd ["_law_script"] (spM K 1 F_law) := by
  unfold F_law; exact fn_okN (k := 3) (body := B_law) F sc_law rfl rfl fun cdv A outer s H E hr => by (unfold B_law L_law_6 L_law_5 L_law_4 E_law_3 E_law_2 E_law_1 E_law_0; exact zms_cons (zm_set 1 sc_law.nd (em_op om_add (em_int) (em_op om_mod (em_call (cal__law_cell_at T base) hr (by decide) rfl (am_cons (em_var 0) (am_cons (em_int) (am_nil)))) (em_int)))) (zms_cons (zm_set 2 sc_law.nd (em_op om_add (em_int) (em_op om_mod (em_call (cal__law_cell_at T base) hr (by decide) rfl (am_cons (em_var 0) (am_cons (em_int) (am_nil)))) (em_op om_pow (em_int) (em_int))))) (zms_cons (zm_set 3 sc_law.nd (em_call (cal__law_spans T base) hr (by decide) rfl (am_cons (em_var 0) (am_cons (em_var 1) (am_cons (em_var 2) (am_nil)))))) (zms_cons (zm_setCompX (x0 := "_law_one") (Nc := ["_law_one", "_law_spans_here"]) 4 rfl sc_law.nd (im_list (em_var 3)) ⟨fun _ _ => rfl, fun _ => rfl⟩ (by decide +kernel) rfl (by decide +kernel) (by rfl) (by rfl) (by exact ⟨⟨rfl, .inl rfl, .inl rfl, rfl⟩, trivial⟩) (by decide +kernel) (fun _ _ _ _ => gm_name 0 (show (["_law_one", "_law_spans_here"] : List Str).Nodup by decide +kernel)) (fun _ _ _ _ => cm_nil) (fun _ _ _ _ => em_comp (Nc := ["_law_other", "_law_one"]) rfl (im_list (em_var 1)) (by decide +kernel) rfl (by decide +kernel) (by rfl) (by exact ⟨⟨rfl, .inl rfl, .inl rfl, rfl⟩, trivial⟩) (fun _ _ _ _ => gm_name 0 (show (["_law_other", "_law_one"] : List Str).Nodup by decide +kernel)) (fun _ _ _ _ => cm_nil) (fun _ _ _ _ => em_op om_shl (em_int) (em_call (cal__law_way T base) hr (by decide) rfl (am_cons (em_var 1) (am_cons (em_var 0) (am_nil)))))) (by rfl)) (zms_cons (zm_set 5 sc_law.nd (em_call (cal__law_lengths T base) hr (by decide) rfl (am_cons (em_var 0) (am_cons (em_var 3) (am_cons (em_var 2) (am_nil)))))) (zms_cons (zm_set 6 sc_law.nd (em_call (cal_timed T base) hr (by decide) rfl (am_cons (em_op om_mul (em_int) (em_var 1)) (am_cons (em_call (cal_bounds T base) hr (by decide) rfl (am_cons (em_var 4) (am_cons (em_var 5) (am_nil)))) (am_nil))))) (zms_cons (zm_if (WM.tm (wm_or (tm_not (tm_val (em_isi rfl T.z_isinstance rfl T.z_tuple PyProof.Rows.boot_tuple (by decide) (em_var 6)))) (wm_or (tm_cmp (om_neD hr.units) (em_len rfl T.z_len (em_var 6)) (em_int)) (wm_or (tm_cmp (om_neD hr.units) (em_ix (em_var 6) (em_int)) (em_str)) (wm_or1 (tm_not (tm_val (em_isi rfl T.z_isinstance rfl T.z_list PyProof.Rows.boot_list (by decide) (em_ix (em_var 6) (em_int)))))))))) (zms_one (zm_ret (em_bl))) (zms_nil)) (zms_cons (zm_set 7 sc_law.nd (em_ix (em_var 6) (em_int))) (zms_cons (zm_if (WM.tm (wm_or (tm_cmp (om_neD hr.units) (em_len rfl T.z_len (em_var 7)) (em_op om_mul (em_int) (em_var 1))) (wm_or1 (tm_not (tm_val (em_all rfl rfl T.z_all (em_comp (Nc := ["_law_time"]) rfl (im_list (em_var 7)) (by decide +kernel) rfl (by decide +kernel) (by rfl) (by exact trivial) (fun _ _ _ _ => gm_name 0 (show (["_law_time"] : List Str).Nodup by decide +kernel)) (fun _ _ _ _ => cm_nil) (fun _ _ _ _ => em_call (cal__law_whole T base) hr (by decide) rfl (am_cons (em_var 0) (am_nil)))))))))) (zms_one (zm_ret (em_bl))) (zms_nil)) (zms_cons (zm_if (tm_cmp (om_neD hr.units) (em_min rfl rfl T.z_min (em_var 7)) (em_int)) (zms_one (zm_ret (em_bl))) (zms_nil)) (zms_cons (zm_setComp (Nc := ["_law_k", "_law_times"]) 8 rfl sc_law.nd (im_range1 rfl T.z_range (em_var 1)) (by decide +kernel) rfl (by decide +kernel) (by rfl) (by exact ⟨⟨rfl, .inl rfl, .inl rfl, rfl⟩, trivial⟩) (fun _ _ _ _ => gm_name 0 (show (["_law_k", "_law_times"] : List Str).Nodup by decide +kernel)) (fun _ _ _ _ => cm_nil) (fun _ _ _ _ => em_tup (am_cons (em_ix (em_var 1) (em_op om_mul (em_int) (em_var 0))) (am_cons (em_ix (em_var 1) (em_op om_add (em_op om_mul (em_int) (em_var 0)) (em_int))) (am_nil)))) (by rfl)) (zms_cons (zm_for PassesOwn.never rfl (im_range1 rfl T.z_range (em_var 1)) (gm_name 9 sc_law.nd) (zms_cons (zm_if (tm_cmp om_ge (em_ix (em_ix (em_var 8) (em_var 9)) (em_int)) (em_ix (em_ix (em_var 8) (em_var 9)) (em_int))) (zms_one (zm_ret (em_bl))) (zms_nil)) (zms_one (zm_for PassesOwn.never rfl (im_range1 rfl T.z_range (em_var 1)) (gm_name 10 sc_law.nd) (zms_one (zm_if (tm_cmp (om_neD hr.units) (em_op om_shl (em_int) (em_call (cal__law_way T base) hr (by decide) rfl (am_cons (em_ix (em_var 8) (em_var 9)) (am_cons (em_ix (em_var 8) (em_var 10)) (am_nil))))) (em_ix (em_ix (em_var 4) (em_var 9)) (em_var 10))) (zms_one (zm_ret (em_bl))) (zms_nil))))))) (zms_cons (zm_for PassesOwn.never rfl (im_list (em_var 5)) (gm_three 9 11 12 rfl sc_law.nd) (zms_cons (zm_set 13 sc_law.nd (em_op om_sub (em_ix (em_ix (em_var 8) (em_var 9)) (em_int)) (em_ix (em_ix (em_var 8) (em_var 9)) (em_int)))) (zms_one (zm_if (WM.tm (wm_or (tm_cmp om_lt (em_var 13) (em_op om_mul (em_var 11) (em_op om_add (em_op om_mul (em_int) (em_var 1)) (em_int)))) (wm_or1 (tm_cmp om_gt (em_var 13) (em_op om_mul (em_var 12) (em_op om_add (em_op om_mul (em_int) (em_var 1)) (em_int))))))) (zms_one (zm_ret (em_bl))) (zms_nil))))) (zms_one (zm_ret (em_bl))))))))))))))))
end
end G
/-! Times that keep bounds, or a ring: the core of it, over numbers. -/
namespace BF
def put {α : Type} (f : Nat → α) (i : Nat) (a : α) : Nat → α := fun j => if j = i then a else f j
theorem put_self {α : Type} (f : Nat → α) (i : Nat) (a : α) : put f i a i = a := if_pos rfl
theorem put_ne {α : Type} (f : Nat → α) {i j : Nat} (a : α) (h : j ≠ i) : put f i a j = f j := if_neg h
abbrev Bd := Nat × Nat × Int
structure Stt where
  t : Nat → Int
  c : Nat → Option Nat
  l : Option Nat
def step (s : Stt) (e : Bd) : Stt := if s.t e.1 > s.t e.2.1 + e.2.2 then ⟨put s.t e.1 (s.t e.2.1 + e.2.2), put s.c e.1 (some e.2.1), some e.1⟩ else s
def turn (E : List Bd) (s : Stt) : Stt := E.foldl step ⟨s.t, s.c, none⟩
def Sat (t : Nat → Int) (e : Bd) : Prop := t e.1 ≤ t e.2.1 + e.2.2
structure Tab (n : Nat) (E : List Bd) : Prop where
  lt : ∀ e ∈ E, e.1 < n ∧ e.2.1 < n ∧ e.1 ≠ e.2.1
  un : ∀ e ∈ E, ∀ e' ∈ E, e.1 = e'.1 → e.2.1 = e'.2.1 → e.2.2 = e'.2.2
def Neg (w : Nat → Nat → Int) (c : Nat → Option Nat) : Prop :=
  ∀ C : List Nat, C ≠ [] → C.Nodup → (C.map c).Perm (C.map some) → (C.map fun x => w x ((c x).getD 0)).sum < 0
structure Ok (n : Nat) (E : List Bd) (w : Nat → Nat → Int) (r : Nat) (D : List Bd) (u : Nat → Nat) (s : Stt) : Prop where
  cau : ∀ x y, s.c x = some y → (x, y, w x y) ∈ E ∧ s.t y + w x y ≤ s.t x ∧ 1 ≤ u x ∧ u x ≤ u y + 1
  top : ∀ x, u x ≤ r + 1
  has : ∀ x, 1 ≤ u x → ∃ y, s.c x = some y
  old : ∀ e ∈ E, r ≤ u e.2.1 ∨ Sat s.t e
  new : ∀ e ∈ D, r + 1 ≤ u e.2.1 ∨ Sat s.t e
  neg : Neg w s.c
  lst : ∀ x, s.l = some x → u x = r + 1
theorem sum_le {f g : Nat → Int} : ∀ (D : List Nat), (∀ x ∈ D, f x ≤ g x) → (D.map f).sum ≤ (D.map g).sum
  | [], _ => Int.le_refl _
  | x :: D, h => by
    simp only [List.map_cons, List.sum_cons]
    have h1 := h x List.mem_cons_self
    have h2 := sum_le D fun y hy => h y (List.mem_cons_of_mem _ hy)
    omega
theorem sum_sub {f g : Nat → Int} : ∀ (D : List Nat), (D.map fun x => f x - g x).sum = (D.map f).sum - (D.map g).sum
  | [] => rfl
  | x :: D => by
    simp only [List.map_cons, List.sum_cons]
    have := sum_sub (f := f) (g := g) D
    omega
theorem perm_sum {l l' : List Int} (h : l.Perm l') : l.sum = l'.sum := by
  induction h with
  | nil => rfl
  | cons x _ ih => simp only [List.sum_cons, ih]
  | swap x y l => simp only [List.sum_cons]; omega
  | trans _ _ h1 h2 => exact h1.trans h2
theorem map_none {C : List Nat} {c : Nat → Option Nat} (h : (C.map c).Perm (C.map some)) : ∀ x ∈ C, ∃ y, c x = some y := by
  intro x hx
  have : c x ∈ C.map some := h.subset (List.mem_map_of_mem hx)
  obtain ⟨y, _, e⟩ := List.mem_map.mp this
  exact ⟨y, e.symm⟩
theorem map_congr {α β : Type} {f g : α → β} {C : List α} (h : ∀ x ∈ C, f x = g x) : C.map f = C.map g := List.map_congr_left h
theorem neg_put {w : Nat → Nat → Int} {c : Nat → Option Nat} {t : Nat → Int} {p q : Nat} (hn : Neg w c) (hc : ∀ x y, c x = some y → t y + w x y ≤ t x) (hm : t p > t q + w p q) : Neg w (put c p (some q)) := by
  intro C h0 hd hp
  by_cases hin : p ∈ C
  · obtain ⟨D1, D2, rfl⟩ := List.append_of_mem hin
    have pp : (D1 ++ p :: D2).Perm (p :: (D1 ++ D2)) := List.perm_middle
    have nd : (p :: (D1 ++ D2)).Nodup := pp.nodup_iff.mp hd
    have np : p ∉ D1 ++ D2 := (List.nodup_cons.mp nd).1
    generalize D1 ++ D2 = D at pp np
    have ec : D.map (put c p (some q)) = D.map c := map_congr fun x hx => put_ne c _ (fun z => np (z ▸ hx))
    have h1 : ((p :: D).map (put c p (some q))).Perm ((p :: D).map some) := ((pp.map _).symm.trans hp).trans (pp.map _)
    rw [List.map_cons, put_self, ec] at h1
    have hall : ∀ x ∈ D, ∃ y, c x = some y := fun x hx => by
      have : c x ∈ (p :: D).map some := h1.subset (List.mem_cons_of_mem _ (List.mem_map_of_mem hx))
      obtain ⟨y, _, e⟩ := List.mem_map.mp this
      exact ⟨y, e.symm⟩
    have h2 := perm_sum (h1.map fun o => t (o.getD 0))
    simp only [List.map_cons, List.map_map, List.sum_cons, Function.comp_def, Option.getD_some] at h2
    change t q + _ = t p + (D.map t).sum at h2
    have h3 : ((D1 ++ p :: D2).map fun x => w x ((put c p (some q) x).getD 0)).sum = w p q + (D.map fun x => w x ((c x).getD 0)).sum := by
      have := perm_sum (pp.map fun x => w x ((put c p (some q) x).getD 0))
      rw [this, List.map_cons, List.sum_cons, put_self]
      congr 1
      rw [map_congr (f := fun x => w x ((put c p (some q) x).getD 0)) (g := fun x => w x ((c x).getD 0)) fun x hx => by rw [put_ne c _ (fun z : x = p => np (z ▸ hx))]]
    have h4 : (D.map fun x => w x ((c x).getD 0)).sum ≤ (D.map fun x => t x - t ((c x).getD 0)).sum := sum_le D fun x hx => by
      obtain ⟨y, ey⟩ := hall x hx
      have := hc x y ey
      rw [ey]
      simp only [Option.getD_some]
      omega
    rw [sum_sub] at h4
    rw [h3]
    omega
  · have ec : C.map (put c p (some q)) = C.map c := map_congr fun x hx => put_ne c _ (fun z => hin (z ▸ hx))
    rw [ec] at hp
    have := hn C h0 hd hp
    rw [map_congr (f := fun x => w x ((put c p (some q) x).getD 0)) (g := fun x => w x ((c x).getD 0)) fun x hx => by rw [put_ne c _ (fun z : x = p => hin (z ▸ hx))]]
    exact this
theorem ok_step {n : Nat} {E : List Bd} {w : Nat → Nat → Int} {r : Nat} {D : List Bd} {u : Nat → Nat} {s : Stt} (T : Tab n E) (hw : ∀ e ∈ E, w e.1 e.2.1 = e.2.2) (I : Ok n E w r D u s) {e : Bd} (he : e ∈ E) :
    ∃ u', Ok n E w r (e :: D) u' (step s e) := by
  obtain ⟨p, q, m⟩ := e
  obtain ⟨_, _, hne⟩ := T.lt _ he
  have ew : w p q = m := hw _ he
  have hne' : q ≠ p := fun z => hne z.symm
  by_cases hm : s.t p > s.t q + m
  · have es : step s (p, q, m) = ⟨put s.t p (s.t q + m), put s.c p (some q), some p⟩ := if_pos hm
    rw [es]
    have uq : r ≤ u q := by
      rcases I.old _ he with z | z
      · exact z
      · exact absurd z (by simp only [Sat]; omega)
    have up : u p ≤ r + 1 := I.top p
    have dec : ∀ x, put s.t p (s.t q + m) x ≤ s.t x := fun x => by
      by_cases hx : x = p
      · rw [hx, put_self]; omega
      · rw [put_ne _ _ hx]; exact Int.le_refl _
    have grow : ∀ x, u x ≤ put u p (r + 1) x := fun x => by
      by_cases hx : x = p
      · rw [hx, put_self]; exact up
      · rw [put_ne _ _ hx]; exact Nat.le_refl _
    have keep : ∀ k, ∀ e : Bd, k ≤ r + 1 → (k ≤ u e.2.1 ∨ Sat s.t e) → (k ≤ put u p (r + 1) e.2.1 ∨ Sat (put s.t p (s.t q + m)) e) := fun k e hk h => by
      by_cases hx : e.2.1 = p
      · exact .inl (by rw [hx, put_self]; exact hk)
      · rcases h with h | h
        · exact .inl (Nat.le_trans h (grow _))
        · refine .inr ?_
          simp only [Sat] at h ⊢
          rw [put_ne _ _ hx]
          exact Int.le_trans (dec _) h
    refine ⟨put u p (r + 1), ⟨fun x y h => ?_, fun x => ?_, fun x h => ?_, fun e h => keep r e (Nat.le_succ r) (I.old e h), fun e h => ?_, neg_put I.neg (fun x y h => (I.cau x y h).2.1) (by rw [ew]; exact hm), fun x h => ?_⟩⟩
    · by_cases hx : x = p
      · subst hx
        simp only [put_self] at h ⊢
        cases h
        rw [put_ne _ _ hne', put_ne _ _ hne', ew]
        exact ⟨he, Int.le_refl _, by omega, by omega⟩
      · simp only [put_ne _ _ hx] at h ⊢
        obtain ⟨h1, h2, h3, h4⟩ := I.cau x y h
        exact ⟨h1, Int.le_trans (Int.add_le_add_right (dec y) _) h2, h3, Nat.le_trans h4 (Nat.add_le_add_right (grow y) 1)⟩
    · by_cases hx : x = p
      · rw [hx, put_self]; exact Nat.le_refl _
      · rw [put_ne _ _ hx]; exact I.top x
    · by_cases hx : x = p
      · subst hx; exact ⟨q, put_self _ _ _⟩
      · rw [put_ne _ _ hx] at h
        obtain ⟨y, hy⟩ := I.has x h
        exact ⟨y, by simp only [put_ne _ _ hx]; exact hy⟩
    · rcases List.mem_cons.mp h with z | z
      · subst z
        refine .inr ?_
        simp only [Sat, put_self, put_ne _ _ hne']
        exact Int.le_refl _
      · exact keep (r + 1) e (Nat.le_refl _) (I.new e z)
    · cases h; exact put_self _ _ _
  · have es : step s (p, q, m) = s := if_neg hm
    rw [es]
    refine ⟨u, ⟨I.cau, I.top, I.has, I.old, fun e h => ?_, I.neg, I.lst⟩⟩
    rcases List.mem_cons.mp h with z | z
    · subst z
      exact .inr (by simp only [Sat]; omega)
    · exact I.new e z
theorem ok_pass {n : Nat} {E : List Bd} {w : Nat → Nat → Int} {r : Nat} (T : Tab n E) (hw : ∀ e ∈ E, w e.1 e.2.1 = e.2.2) : ∀ (L D : List Bd) (u : Nat → Nat) (s : Stt), (∀ e ∈ L, e ∈ E) → Ok n E w r D u s → ∃ u' D', Ok n E w r D' u' (L.foldl step s) ∧ (∀ e ∈ L, e ∈ D') ∧ ∀ e ∈ D, e ∈ D'
  | [], D, u, s, _, I => ⟨u, D, I, (fun _ h => nomatch h), fun _ h => h⟩
  | e :: L, D, u, s, hs, I => by
    obtain ⟨u1, I1⟩ := ok_step T hw I (hs e List.mem_cons_self)
    obtain ⟨u2, D2, I2, h1, h2⟩ := ok_pass T hw L (e :: D) u1 (step s e) (fun x hx => hs x (List.mem_cons_of_mem _ hx)) I1
    refine ⟨u2, D2, I2, fun x hx => ?_, fun x hx => h2 x (List.mem_cons_of_mem _ hx)⟩
    rcases List.mem_cons.mp hx with z | z
    · rw [z]; exact h2 e List.mem_cons_self
    · exact h1 x z
def turns (E : List Bd) : Nat → Stt → Stt
  | 0, s => s
  | r + 1, s => turn E (turns E r s)
def s0 : Stt := ⟨fun _ => 0, fun _ => none, none⟩
theorem ok_turns {n : Nat} {E : List Bd} {w : Nat → Nat → Int} (T : Tab n E) (hw : ∀ e ∈ E, w e.1 e.2.1 = e.2.2) : ∀ r, ∃ u D, Ok n E w r D u (turns E (r + 1) s0) ∧ ∀ e ∈ E, e ∈ D
  | 0 => by
    have I : Ok n E w 0 [] (fun _ => 0) ⟨s0.t, s0.c, none⟩ := by
      refine ⟨fun x y h => (by cases h), fun x => Nat.zero_le _, fun x h => (by omega), fun e h => .inl (Nat.zero_le _), (fun e h => nomatch h), fun C h0 hd hp => ?_, fun x h => (by cases h)⟩
      cases C with
      | nil => exact absurd rfl h0
      | cons x C =>
        obtain ⟨y, e⟩ := map_none hp x List.mem_cons_self
        cases e
    obtain ⟨u, D, I', h1, _⟩ := ok_pass T hw E [] _ _ (fun _ h => h) I
    exact ⟨u, D, I', h1⟩
  | r + 1 => by
    obtain ⟨u, D, I, hD⟩ := ok_turns T hw r
    have I1 : Ok n E w (r + 1) [] u ⟨(turns E (r + 1) s0).t, (turns E (r + 1) s0).c, none⟩ :=
      ⟨I.cau, fun x => Nat.le_succ_of_le (I.top x), I.has, fun e h => I.new e (hD e h), (fun e h => nomatch h), I.neg, fun x h => (by cases h)⟩
    obtain ⟨u2, D2, I2, h1, _⟩ := ok_pass T hw E [] _ _ (fun _ h => h) I1
    exact ⟨u2, D2, I2, h1⟩
theorem pass_none : ∀ (L : List Bd) (s : Stt), (L.foldl step s).l = none → s.l = none ∧ L.foldl step s = s ∧ ∀ e ∈ L, Sat s.t e
  | [], s, h => ⟨h, rfl, (fun _ h => nomatch h)⟩
  | e :: L, s, h => by
    obtain ⟨h1, h2, h3⟩ := pass_none L (step s e) h
    by_cases hm : s.t e.1 > s.t e.2.1 + e.2.2
    · have es : step s e = ⟨put s.t e.1 (s.t e.2.1 + e.2.2), put s.c e.1 (some e.2.1), some e.1⟩ := if_pos hm
      rw [es] at h1
      cases h1
    · have es : step s e = s := if_neg hm
      rw [es] at h1 h2 h3
      refine ⟨h1, by rw [List.foldl_cons, es]; exact h2, fun x hx => ?_⟩
      rcases List.mem_cons.mp hx with z | z
      · subst z; simp only [Sat]; omega
      · exact h3 x z
/-! ### from a point that was moved in the last turn -/
def itr (f : Nat → Nat) : Nat → Nat → Nat
  | 0, x => x
  | k + 1, x => f (itr f k x)
theorem itr_add (f : Nat → Nat) (x : Nat) (b : Nat) : ∀ a, itr f (a + b) x = itr f a (itr f b x)
  | 0 => by rw [Nat.zero_add]; rfl
  | a + 1 => by
    rw [Nat.add_right_comm]
    show f (itr f (a + b) x) = f (itr f a (itr f b x))
    rw [itr_add f x b a]
theorem pig : ∀ (n : Nat) (g : Nat → Nat), (∀ k, k ≤ n → g k < n) → ∃ i j, i < j ∧ j ≤ n ∧ g i = g j
  | 0, g, h => absurd (h 0 (Nat.le_refl _)) (Nat.not_lt_zero _)
  | n + 1, g, h => by
    by_cases hx : ∃ k, k ≤ n ∧ g k = g (n + 1)
    · obtain ⟨k, h1, h2⟩ := hx
      exact ⟨k, n + 1, by omega, Nat.le_refl _, h2⟩
    · have ne : ∀ k, k ≤ n → g k ≠ g (n + 1) := fun k hk e => hx ⟨k, hk, e⟩
      have hl := h (n + 1) (Nat.le_refl _)
      obtain ⟨i, j, h1, h2, h3⟩ := pig n (fun k => if g k > g (n + 1) then g k - 1 else g k) fun k hk => by
        have h1 := h k (by omega)
        have h2 := ne k hk
        show (if g k > g (n + 1) then g k - 1 else g k) < n
        split <;> omega
      refine ⟨i, j, h1, by omega, ?_⟩
      have a1 := ne i (by omega)
      have a2 := ne j h2
      have b1 : (if g i > g (n + 1) then g i - 1 else g i) = (if g j > g (n + 1) then g j - 1 else g j) := h3
      split at b1 <;> split at b1 <;> omega
theorem least_one {Q : Nat → Prop} : ∀ d, 1 ≤ d → Q d → ∃ k, 1 ≤ k ∧ k ≤ d ∧ Q k ∧ ∀ i, 1 ≤ i → i < k → ¬ Q i := by
  intro d
  induction d using Nat.strongRecOn with
  | ind d ih =>
    intro h1 hq
    by_cases hx : ∃ i, 1 ≤ i ∧ i < d ∧ Q i
    · obtain ⟨i, a, b, c⟩ := hx
      obtain ⟨k, k1, k2, k3, k4⟩ := ih i b a c
      exact ⟨k, k1, by omega, k3, k4⟩
    · exact ⟨d, h1, Nat.le_refl _, hq, fun i a b c => hx ⟨i, a, b, c⟩⟩
def nxt (c : Nat → Option Nat) (x : Nat) : Nat := (c x).getD 0
structure Ring (n : Nat) (E : List Bd) (w : Nat → Nat → Int) (c : Nat → Option Nat) (P k : Nat) : Prop where
  pos : 1 ≤ k
  le : k ≤ n
  back : itr (nxt c) k P = P
  first : ∀ i, 1 ≤ i → i < k → itr (nxt c) i P ≠ P
  edge : ∀ i, i ≤ k → (itr (nxt c) i P, itr (nxt c) (i + 1) P, w (itr (nxt c) i P) (itr (nxt c) (i + 1) P)) ∈ E ∧ c (itr (nxt c) i P) = some (itr (nxt c) (i + 1) P)
  sum : ((List.range k).map fun i => w (itr (nxt c) i P) (itr (nxt c) (i + 1) P)).sum < 0
theorem apart {f : Nat → Nat} {P k : Nat} (hb : itr f k P = P) (hf : ∀ i, 1 ≤ i → i < k → itr f i P ≠ P) {i j : Nat} (hij : i < j) (hj : j ≤ k) (h0 : i = 0 → j < k) : itr f i P ≠ itr f j P := by
  intro e
  have e2 : itr f ((k - j) + i) P = itr f ((k - j) + j) P := by rw [itr_add, itr_add, e]
  rw [Nat.sub_add_cancel hj, hb] at e2
  refine hf (k - j + i) ?_ ?_ e2
  · by_cases h : i = 0
    · have := h0 h; omega
    · omega
  · omega
theorem nodup_range_map {α : Type} {g : Nat → α} (k : Nat) (h : ∀ i j, i < j → j < k → g i ≠ g j) : ((List.range k).map g).Nodup := by
  rw [List.nodup_iff_pairwise_ne, List.pairwise_map]
  refine List.Pairwise.imp_of_mem ?_ (List.pairwise_lt_range (n := k))
  intro a b ha hb hab
  exact h a b hab (List.mem_range.mp hb)
theorem ring_of {n : Nat} {E : List Bd} {w : Nat → Nat → Int} {D : List Bd} {u : Nat → Nat} {s : Stt} {x : Nat} (T : Tab n E) (I : Ok n E w n D u s) (hx : s.l = some x) : ∃ k, Ring n E w s.c (itr (nxt s.c) n x) k ∧
    ∀ i, i ≤ n → s.c (itr (nxt s.c) i x) = some (itr (nxt s.c) (i + 1) x) ∧ itr (nxt s.c) i x < n := by
  have ux := I.lst x hx
  have defd : ∀ y, 1 ≤ u y → s.c y = some (nxt s.c y) := fun y hy => by
    obtain ⟨z, e⟩ := I.has y hy
    unfold nxt
    rw [e]
    rfl
  have ch : ∀ i, i ≤ n → n + 1 ≤ u (itr (nxt s.c) i x) + i := by
    intro i
    induction i with
    | zero => intro _; show n + 1 ≤ u x + 0; omega
    | succ i ih =>
      intro hi
      have h1 := ih (by omega)
      have h2 := defd (itr (nxt s.c) i x) (by omega)
      have h3 := (I.cau _ _ h2).2.2.2
      show n + 1 ≤ u (nxt s.c (itr (nxt s.c) i x)) + (i + 1)
      omega
  have cd : ∀ i, i ≤ n → s.c (itr (nxt s.c) i x) = some (itr (nxt s.c) (i + 1) x) := fun i hi => defd _ (by have := ch i hi; omega)
  have lt : ∀ i, i ≤ n → itr (nxt s.c) i x < n := fun i hi => (T.lt _ (I.cau _ _ (cd i hi)).1).1
  obtain ⟨i, j, hij, hj, e⟩ := pig n (fun i => itr (nxt s.c) i x) lt
  have per : itr (nxt s.c) (j - i) (itr (nxt s.c) n x) = itr (nxt s.c) n x := by
    rw [← itr_add]
    have a1 : j - i + n = (n - i) + j := by omega
    rw [a1, itr_add, ← e, ← itr_add]
    congr 1
    omega
  obtain ⟨k, k1, k2, k3, k4⟩ := least_one (Q := fun d => itr (nxt s.c) d (itr (nxt s.c) n x) = itr (nxt s.c) n x) (j - i) (by omega) per
  have shf : ∀ m, itr (nxt s.c) (j + m) x = itr (nxt s.c) (i + m) x := fun m => by
    rw [Nat.add_comm j m, Nat.add_comm i m, itr_add, itr_add, e]
  have ed : ∀ m, m ≤ k → s.c (itr (nxt s.c) m (itr (nxt s.c) n x)) = some (itr (nxt s.c) (m + 1) (itr (nxt s.c) n x)) := fun m hm => by
    rw [← itr_add, ← itr_add]
    by_cases h : m + n ≤ n
    · have : m = 0 := by omega
      subst this
      rw [Nat.zero_add, Nat.add_comm]
      exact cd n (Nat.le_refl _)
    · have a1 : m + n = j + (m + n - j) := by omega
      have a2 : m + 1 + n = j + (m + n - j + 1) := by omega
      rw [a1, a2, shf, shf]
      exact cd _ (by omega)
  refine ⟨k, ⟨k1, by omega, k3, k4, fun m hm => ⟨(I.cau _ _ (ed m hm)).1, ed m hm⟩, ?_⟩, fun i hi => ⟨cd i hi, lt i hi⟩⟩
  generalize itr (nxt s.c) n x = P at *
  have hn := I.neg ((List.range k).map fun m => itr (nxt s.c) m P) (by
    intro z
    have := congrArg List.length z
    simp at this
    omega) (nodup_range_map k fun a b hab hb => apart k3 k4 hab (by omega) (fun _ => hb)) (by
    rw [List.map_map, List.map_map]
    have e1 : (List.range k).map (s.c ∘ fun m => itr (nxt s.c) m P) = (List.range k).map (fun m => some (itr (nxt s.c) (m + 1) P)) := map_congr fun m hm => ed m (Nat.le_of_lt (List.mem_range.mp hm))
    rw [e1]
    obtain ⟨k', rfl⟩ : ∃ k', k = k' + 1 := ⟨k - 1, by omega⟩
    rw [List.range_succ, List.map_append]
    have e2 : (List.range k' ++ [k']).map (some ∘ fun m => itr (nxt s.c) m P) = some P :: (List.range k').map (fun m => some (itr (nxt s.c) (m + 1) P)) := by
      rw [← List.range_succ, List.range_succ_eq_map, List.map_cons, List.map_map]
      rfl
    rw [e2]
    have e3 : [k'].map (fun m => some (itr (nxt s.c) (m + 1) P)) = [some P] := by
      rw [List.map_cons, List.map_nil, k3]
    rw [e3]
    exact List.perm_append_singleton _ _)
  rw [List.map_map] at hn
  have e4 : (List.range k).map ((fun y => w y ((s.c y).getD 0)) ∘ fun m => itr (nxt s.c) m P) = (List.range k).map fun i => w (itr (nxt s.c) i P) (itr (nxt s.c) (i + 1) P) := rfl
  rw [e4] at hn
  exact hn
end BF
namespace SM
open PySem PySem.Spec PyProof.Rows L2 SM
section
variable {l : LI} {h : HI} {f g fo fy fx fe fa fd : RE}
@[simp] theorem q_dnew : eDNew l h = some (.ref h.length, h ++ [.dt []]) := by rfl
def ntpK : List Dt × HI → Option (Dt × HI) := fun r => if r.1.length ≤ sizeLine then (intsOf r.1).map fun is => (.ntp is, r.2) else none
@[simp] theorem q_ntp (r : RA) : eNtp r l h = bnd (r l h) ntpK := by rfl
theorem ntpK_two (i j : Int) : ntpK ([.int i, .int j], h) = some (.ntp [i, j], h) := by
  unfold ntpK
  rw [if_pos (show ([Dt.int i, Dt.int j] : List Dt).length ≤ sizeLine by simp)]
  rfl
def dg3 (n : Nat) (k : List Int) : Dt × HI → Option (Dt × HI) := fun x => match x.2[n]? with
  | some (.dt kvs) => some ((dAt kvs k).getD x.1, x.2)
  | _ => none
theorem dg3_dt {n : Nat} {k : List Int} {d : Dt} {kvs : List (List Int × Dt)} (e : h[n]? = some (.dt kvs)) : dg3 n k (d, h) = some ((dAt kvs k).getD d, h) := by simp only [dg3, e]
theorem q_dget2 {n : Nat} {k : List Int} {kvs : List (List Int × Dt)} (e1 : fo l h = some (.ref n, h)) (e2 : h[n]? = some (.dt kvs)) (e3 : fy l h = some (.ntp k, h)) : eDGet2 fo fy fx l h = bnd (fx l h) (dg3 n k) := by
  simp only [eDGet2, e1, e2, e3, Option.bind_some]
  rfl
theorem q_dset {n : Nat} {k : List Int} {kvs : List (List Int × Dt)} {d : Dt} (e0 : fe l h = some (d, h)) (e1 : fo l h = some (.ref n, h)) (e2 : h[n]? = some (.dt kvs)) (e3 : fy l h = some (.ntp k, h)) (c : kvs.length < sizeLine) :
    sDSet fe fo fy l h = some (.nx l (h.set n (.dt (dPut kvs k d)))) := by
  simp only [sDSet, e0, e1, e2, e3, Option.bind_some, if_pos c]
theorem itemsK_dt {n : Nat} {kvs : List (List Int × Dt)} (e1 : f l h = some (.ref n, h)) (e2 : h[n]? = some (.dt kvs)) : iItems f l h = some (.it n, h.set n (.df kvs)) := by
  simp only [iItems, e1, e2, Option.bind_some]
theorem itemsK_df {n : Nat} {kvs : List (List Int × Dt)} (e1 : f l h = some (.ref n, h)) (e2 : h[n]? = some (.df kvs)) : iItems f l h = some (.it n, h) := by
  simp only [iItems, e1, e2, Option.bind_some]
def minDK (fd : RE) (l : LI) : Dt × HI → Option (Dt × HI) := fun r => bnd (fd l r.2) fun q => (seqL q.2 r.1).bind fun xs => (intsOf xs).bind fun ns => if ns ≠ [] then some (.int (minL ns), q.2) else none
@[simp] theorem q_mind : eMinD fa fd l h = bnd (fa l h) (minDK fd l) := by rfl
end
theorem it_fold {β : Type} {i j n : Nat} {body : RS} {kvs : List (List Int × Dt)} (S : β → LI → HI → Prop) (F : β → List Int × Dt → β) (hS : ∀ b l h, S b l h → h[n]? = some (.df kvs))
    (H : ∀ x ∈ kvs, ∀ b l h, S b l h → ∃ r, body ((l.set i (some (.tup (x.1.map Dt.int)))).set j (some x.2)) h = some r ∧ Pass (S (F b x)) r) :
    ∀ (m k : Nat) (b : β) (l : LI) (h : HI), m = (kvs.length - k) + 1 → k ≤ kvs.length → S b l h → ∃ l' h', forL (gSet2 i j) body (.it n) m k l h = some (.nx l' h') ∧ S ((kvs.drop k).foldl F b) l' h' := by
  intro m
  induction m with
  | zero => intro k b l h hm; omega
  | succ m ih =>
    intro k b l h hm hk s
    have e := hS b l h s
    by_cases hlt : k < kvs.length
    · have ek : kvs[k]? = some kvs[k] := List.getElem?_eq_getElem hlt
      obtain ⟨r, e1, p⟩ := H kvs[k] (List.getElem_mem hlt) b l h s
      have ed : (kvs.drop k).foldl F b = (kvs.drop (k + 1)).foldl F (F b kvs[k]) := by rw [List.drop_eq_getElem_cons hlt, List.foldl_cons]
      rw [ed]
      have eu : forL (gSet2 i j) body (.it n) (m + 1) k l h = bnd (body ((l.set i (some (.tup (kvs[k].1.map Dt.int)))).set j (some kvs[k].2)) h) (stK (forL (gSet2 i j) body (.it n) m (k + 1))) := by
        simp only [forL, Src.at, e, ek, Option.map_some, q_gSet2, Option.bind_some]
        cases body ((l.set i (some (.tup (kvs[k].1.map Dt.int)))).set j (some kvs[k].2)) h with
        | none => rfl
        | some r => cases r <;> rfl
      rw [eu, e1, bnd_some]
      cases r with
      | nx l2 h2 => exact ih (k + 1) _ l2 h2 (by omega) hlt p
      | ct l2 h2 => exact ih (k + 1) _ l2 h2 (by omega) hlt p
      | bk l2 h2 => exact p.elim
      | rt d h2 => exact p.elim
    · have ek : kvs[k]? = none := List.getElem?_eq_none (by omega)
      refine ⟨l, h, by simp only [forL, Src.at, e, ek, Option.map_none], ?_⟩
      rw [List.drop_eq_nil_of_le (by omega)]
      exact s
theorem forK_it {β : Type} {i j n : Nat} {body : RS} {kvs : List (List Int × Dt)} {l : LI} {h : HI} (S : β → LI → HI → Prop) (F : β → List Int × Dt → β) (hS : ∀ b l h, S b l h → h[n]? = some (.df kvs))
    (H : ∀ x ∈ kvs, ∀ b l h, S b l h → ∃ r, body ((l.set i (some (.tup (x.1.map Dt.int)))).set j (some x.2)) h = some r ∧ Pass (S (F b x)) r) (b : β) (s : S b l h) :
    ∃ l' h', forK (gSet2 i j) body l (.it n, h) = some (.nx l' h') ∧ S (kvs.foldl F b) l' h' := by
  have e := hS b l h s
  have := it_fold (i := i) (j := j) S F hS H (kvs.length + 1) 0 b l h (by omega) (Nat.zero_le _) s
  rw [List.drop_zero] at this
  obtain ⟨l', h', e1, e2⟩ := this
  refine ⟨l', h', ?_, e2⟩
  show forL (gSet2 i j) body (.it n) (Src.fuel (.it n) h) 0 l h = _
  have ef : Src.fuel (.it n) h = kvs.length + 1 := by simp only [Src.fuel, e]
  rw [ef]
  exact e1
end SM
namespace G
open PySem PySem.Spec PyProof.Rows L2 SM BF
def kvOf (e : Bd) : List Int × Dt := ([(e.1 : Int), (e.2.1 : Int)], .int e.2.2)
def trip (e : Bd) : Dt := .tup [.int (e.1 : Nat), .int (e.2.1 : Nat), .int e.2.2]
def keyB (p q : Nat) (x : Bd) : Bool := decide (x.1 = p) && decide (x.2.1 = q)
def atB (E : List Bd) (p q : Nat) : Option Int := (E.find? (keyB p q)).map (·.2.2)
def putV (E : List Bd) (p q : Nat) (v : Int) : List Bd := if E.any (keyB p q) = true then E.map (fun x => if keyB p q x = true then (x.1, x.2.1, v) else x) else E ++ [(p, q, v)]
def addB (E : List Bd) (e : Bd) : List Bd := putV E e.1 e.2.1 (min ((atB E e.1 e.2.1).getD e.2.2) e.2.2)
theorem kv_key (p q : Nat) (x : Bd) : decide ((kvOf x).1 = [(p : Int), (q : Int)]) = keyB p q x := by
  unfold kvOf keyB
  by_cases h1 : x.1 = p <;> by_cases h2 : x.2.1 = q <;> simp [h1, h2] <;> omega
theorem dAt_kv (p q : Nat) : ∀ E : List Bd, dAt (E.map kvOf) [(p : Int), (q : Int)] = (atB E p q).map Dt.int
  | [] => rfl
  | x :: E => by
    have ih := dAt_kv p q E
    unfold dAt atB at ih ⊢
    rw [List.map_cons, List.find?_cons, List.find?_cons, kv_key]
    cases keyB p q x with
    | true => rfl
    | false => exact ih
theorem any_kv (p q : Nat) (E : List Bd) : ((E.map kvOf).any fun y => decide (y.1 = [(p : Int), (q : Int)])) = E.any (keyB p q) := by
  rw [List.any_map]
  congr 1
  funext x
  exact kv_key p q x
theorem dPut_kv (p q : Nat) (v : Int) (E : List Bd) : dPut (E.map kvOf) [(p : Int), (q : Int)] (.int v) = (putV E p q v).map kvOf := by
  unfold dPut putV
  rw [any_kv]
  split
  · rw [List.map_map, List.map_map]
    refine List.map_congr_left fun x _ => ?_
    have k := kv_key p q x
    simp only [Function.comp_def]
    cases c : keyB p q x with
    | true =>
      rw [c] at k
      rw [if_pos (of_decide_eq_true k), if_pos rfl]
      rfl
    | false =>
      rw [c] at k
      rw [if_neg (of_decide_eq_false k), if_neg Bool.false_ne_true]
  · rw [List.map_append]
    rfl
structure TabOf (told E : List Bd) : Prop where
  mem : ∀ x ∈ E, x ∈ told
  low : ∀ e ∈ told, ∃ x ∈ E, x.1 = e.1 ∧ x.2.1 = e.2.1 ∧ x.2.2 ≤ e.2.2
  un : ∀ x ∈ E, ∀ y ∈ E, x.1 = y.1 → x.2.1 = y.2.1 → x.2.2 = y.2.2
  len : E.length ≤ told.length
theorem keyB_iff {p q : Nat} {x : Bd} : keyB p q x = true ↔ x.1 = p ∧ x.2.1 = q := by simp [keyB]
theorem tab_nil : TabOf [] [] := ⟨fun _ h => h, fun _ h => (nomatch h), fun _ h => (nomatch h), Nat.le_refl _⟩
theorem tab_add {told E : List Bd} (I : TabOf told E) (e : Bd) : TabOf (told ++ [e]) (addB E e) := by
  obtain ⟨p, q, m⟩ := e
  unfold addB putV
  cases ha : atB E p q with
  | none =>
    have nk : ∀ x ∈ E, keyB p q x = false := by
      unfold atB at ha
      simpa using ha
    have na : E.any (keyB p q) = false := by
      rw [List.any_eq_false]
      intro x hx
      rw [nk x hx]
      exact Bool.false_ne_true
    simp only [na, Bool.false_eq_true, if_false, ha, Option.getD_none, Int.min_self]
    refine ⟨fun x hx => ?_, fun e' he => ?_, fun x hx y hy h1 h2 => ?_, by simp; exact I.len⟩
    · rcases List.mem_append.mp hx with hx | hx
      · exact List.mem_append_left _ (I.mem x hx)
      · exact List.mem_append_right _ hx
    · rcases List.mem_append.mp he with he | he
      · obtain ⟨x, hx, r⟩ := I.low e' he
        exact ⟨x, List.mem_append_left _ hx, r⟩
      · rw [List.mem_singleton.mp he]
        exact ⟨_, List.mem_append_right _ (List.mem_singleton.mpr rfl), rfl, rfl, Int.le_refl _⟩
    · rcases List.mem_append.mp hx with hx | hx <;> rcases List.mem_append.mp hy with hy | hy
      · exact I.un x hx y hy h1 h2
      · have := nk x hx
        rw [List.mem_singleton.mp hy] at h1 h2
        rw [keyB_iff.mpr ⟨h1, h2⟩] at this
        cases this
      · have := nk y hy
        rw [List.mem_singleton.mp hx] at h1 h2
        rw [keyB_iff.mpr ⟨h1.symm, h2.symm⟩] at this
        cases this
      · rw [List.mem_singleton.mp hx, List.mem_singleton.mp hy]
  | some v0 =>
    obtain ⟨x0, hf, rfl⟩ : ∃ x0, E.find? (keyB p q) = some x0 ∧ x0.2.2 = v0 := by
      unfold atB at ha
      simpa using ha
    have k0 := List.find?_some hf
    have m0 := List.mem_of_find?_eq_some hf
    have na : E.any (keyB p q) = true := List.any_eq_true.mpr ⟨x0, m0, k0⟩
    obtain ⟨k1, k2⟩ := keyB_iff.mp k0
    have un0 : ∀ x ∈ E, keyB p q x = true → x.2.2 = x0.2.2 := fun x hx h => by
      obtain ⟨h1, h2⟩ := keyB_iff.mp h
      exact I.un x hx x0 m0 (h1.trans k1.symm) (h2.trans k2.symm)
    simp only [na, if_true, Option.getD_some]
    have vm : ((p, q, min x0.2.2 m) : Bd) ∈ told ++ [(p, q, m)] := by
      by_cases h : x0.2.2 ≤ m
      · rw [Int.min_eq_left h]
        refine List.mem_append_left _ ?_
        have := I.mem x0 m0
        rw [← k1, ← k2]
        exact this
      · rw [Int.min_eq_right (by omega)]
        exact List.mem_append_right _ (List.mem_singleton.mpr rfl)
    refine ⟨fun x hx => ?_, fun e' he => ?_, fun x hx y hy h1 h2 => ?_, by simp; have := I.len; omega⟩
    · obtain ⟨y, hy, rfl⟩ := List.mem_map.mp hx
      split
      · rename_i h
        obtain ⟨h1, h2⟩ := keyB_iff.mp h
        rw [h1, h2]
        exact vm
      · exact List.mem_append_left _ (I.mem y hy)
    · have new : ∀ x ∈ E, (if keyB p q x = true then (x.1, x.2.1, min x0.2.2 m) else x) ∈ E.map (fun x => if keyB p q x = true then (x.1, x.2.1, min x0.2.2 m) else x) := fun x hx => List.mem_map_of_mem hx
      rcases List.mem_append.mp he with he | he
      · obtain ⟨x, hx, r1, r2, r3⟩ := I.low e' he
        refine ⟨_, new x hx, ?_⟩
        split
        · rename_i h
          refine ⟨r1, r2, ?_⟩
          have := un0 x hx h
          show min x0.2.2 m ≤ e'.2.2
          have := Int.min_le_left x0.2.2 m
          omega
        · exact ⟨r1, r2, r3⟩
      · rw [List.mem_singleton.mp he]
        refine ⟨_, new x0 m0, ?_⟩
        rw [if_pos k0]
        exact ⟨k1, k2, Int.min_le_right _ _⟩
    · obtain ⟨x', hx', rfl⟩ := List.mem_map.mp hx
      obtain ⟨y', hy', rfl⟩ := List.mem_map.mp hy
      have fst : ∀ z : Bd, (if keyB p q z = true then ((z.1, z.2.1, min x0.2.2 m) : Bd) else z).1 = z.1 ∧ (if keyB p q z = true then ((z.1, z.2.1, min x0.2.2 m) : Bd) else z).2.1 = z.2.1 := fun z => by split <;> exact ⟨rfl, rfl⟩
      rw [(fst x').1, (fst y').1] at h1
      rw [(fst x').2, (fst y').2] at h2
      have kk : keyB p q x' = keyB p q y' := by unfold keyB; rw [h1, h2]
      rw [kk]
      split
      · rfl
      · exact I.un x' hx' y' hy' h1 h2
theorem tab_fold : ∀ (L told E : List Bd), TabOf told E → TabOf (told ++ L) (L.foldl addB E)
  | [], told, E, I => by rw [List.append_nil]; exact I
  | e :: L, told, E, I => by
    have := tab_fold L (told ++ [e]) (addB E e) (tab_add I e)
    rw [List.append_assoc] at this
    exact this
def tabB (told : List Bd) : List Bd := told.foldl addB []
theorem tab_of (told : List Bd) : TabOf told (tabB told) := by
  have := tab_fold told [] [] tab_nil
  rwa [List.nil_append] at this
theorem len_putV (E : List Bd) (p q : Nat) (v : Int) : (putV E p q v).length ≤ E.length + 1 := by
  unfold putV
  split
  · simp
  · simp
theorem take_fold {α β : Type} (f : β → α → β) (b : β) {xs : List α} {k : Nat} {x : α} (hx : xs[k]? = some x) : (xs.take (k + 1)).foldl f b = f ((xs.take k).foldl f b) x := by
  rw [List.take_add_one, hx, List.foldl_append]
  rfl
end G
namespace G
open PySem PySem.Spec PyProof.Rows L2 SM BF
def causeD : Option Nat → Dt
  | none => .non
  | some q => .int (q : Nat)
def timesL (n : Nat) (t : Nat → Int) : List Dt := (List.range n).map fun i => .int (t i)
def causesL (n : Nat) (c : Nat → Option Nat) : List Dt := (List.range n).map fun i => causeD (c i)
theorem times_len (n : Nat) (t : Nat → Int) : (timesL n t).length = n := by simp [timesL]
theorem causes_len (n : Nat) (c : Nat → Option Nat) : (causesL n c).length = n := by simp [causesL]
theorem times_at {n p : Nat} (t : Nat → Int) (hp : p < n) : (timesL n t)[p]? = some (.int (t p)) := by simp [timesL, hp]
theorem causes_at {n p : Nat} (c : Nat → Option Nat) (hp : p < n) : (causesL n c)[p]? = some (causeD (c p)) := by simp [causesL, hp]
theorem range_set {α β : Type} (n p : Nat) (f : Nat → α) (D : α → β) (v : α) : ((List.range n).map fun i => D (f i)).set p (D v) = (List.range n).map fun i => D (put f p v i) := by
  apply List.ext_getElem?
  intro i
  rw [List.getElem?_set]
  simp only [List.getElem?_map, List.length_map, List.length_range]
  by_cases h : p = i
  · subst h
    by_cases hp : p < n
    · simp [hp, put_self]
    · simp [hp, List.getElem?_eq_none]
  · have h' : i ≠ p := fun z => h z.symm
    rw [if_neg h]
    by_cases hi : i < n
    · simp [hi, put_ne _ _ h']
    · simp [List.getElem?_eq_none, hi]
theorem times_set (n p : Nat) (t : Nat → Int) (v : Int) : (timesL n t).set p (.int v) = timesL n (put t p v) := range_set n p t Dt.int v
theorem causes_set (n p q : Nat) (c : Nat → Option Nat) : (causesL n c).set p (.int (q : Nat)) = causesL n (put c p (some q)) := range_set n p c causeD (some q)
structure MvAt (h0 : HI) (a b c n : Nat) (E : List Bd) (s : Stt) (h : HI) : Prop where
  len : h.length = h0.length
  da : h[a]? = some (.df (E.map kvOf))
  db : h[b]? = some (.lst (timesL n s.t))
  dc : h[c]? = some (.lst (causesL n s.c))
  els : ∀ m, m ≠ a → m ≠ b → m ≠ c → h[m]? = h0[m]?
def unkv (x : List Int × Dt) : Bd := match x with
  | ([p, q], .int m) => (p.toNat, q.toNat, m)
  | _ => (0, 0, 0)
theorem un_kv (e : Bd) : unkv (kvOf e) = e := by simp [unkv, kvOf]
theorem mv_body {h0 : HI} {a b c n : Nat} (ab : a ≠ b) (ac : a ≠ c) (bc : b ≠ c) {E : List Bd} {e : Bd} (he : e.1 < n ∧ e.2.1 < n) {s : Stt} {h : HI} (M : MvAt h0 a b c n E s h) :
    ∃ h', L_moved_0 [some (.ref a), some (.ref b), some (.ref c), some (causeD s.l), some (.tup [.int (e.1 : Nat), .int (e.2.1 : Nat)]), some (.int e.2.2)] h = some (.nx [some (.ref a), some (.ref b), some (.ref c), some (causeD (step s e).l), some (.tup [.int (e.1 : Nat), .int (e.2.1 : Nat)]), some (.int e.2.2)] h') ∧ MvAt h0 a b c n E (step s e) h' := by
  obtain ⟨p, q, m⟩ := e
  obtain ⟨hp, hq⟩ := he
  have xb := fun i => o_ixR M.db i
  have tp := times_at s.t hp
  have tq := times_at s.t hq
  have blt : b < h.length := (List.getElem?_eq_some_iff.mp M.db).1
  have clt : c < h.length := (List.getElem?_eq_some_iff.mp M.dc).1
  by_cases hm : s.t p > s.t q + m
  · have es : step s (p, q, m) = ⟨put s.t p (s.t q + m), put s.c p (some q), some p⟩ := if_pos hm
    rw [es]
    have hm' : decide (s.t q + m < s.t p) = true := decide_eq_true hm
    have g1 := six3_ref (l := [some (.ref a), some (.ref b), some (.ref c), some (causeD s.l), some (.tup [.int (p : Nat), .int (q : Nat)]), some (.int m)]) (v := .int (s.t q + m)) (k := p) M.db (by rw [times_len]; exact hp)
    rw [times_set] at g1
    have c2 : (h.set b (.lst (timesL n (put s.t p (s.t q + m)))))[c]? = some (.lst (causesL n s.c)) := by rw [List.getElem?_set_ne bc]; exact M.dc
    have g2 := six3_ref (l := [some (.ref a), some (.ref b), some (.ref c), some (causeD s.l), some (.tup [.int (p : Nat), .int (q : Nat)]), some (.int m)]) (v := .int (q : Nat)) (k := p) c2 (by rw [causes_len]; exact hp)
    rw [causes_set] at g2
    refine ⟨(h.set b (.lst (timesL n (put s.t p (s.t q + m))))).set c (.lst (causesL n (put s.c p (some q)))), ?_, ?_⟩
    · simp only [L_moved_0, q_sIf, q_tB, q_e2, q_eV, q_eC, List.getElem?_cons_zero, List.getElem?_cons_succ, getV_some, bnd_some, o_ixT, atI_0, atI_1, Option.map_some, xb, SM.atI_nat, tp, tq, o_add, o_gt, tbK_bl, hm', if_true, q_sSeq, q_setIx, g1, sqK_nx, g2, q_sSet, List.set_cons_succ, List.set_cons_zero]
      rfl
    · refine ⟨by simp [M.len], ?_, ?_, ?_, fun k h1 h2 h3 => ?_⟩
      · rw [List.getElem?_set_ne (Ne.symm ac), List.getElem?_set_ne (Ne.symm ab)]; exact M.da
      · rw [List.getElem?_set_ne (Ne.symm bc), List.getElem?_set_self blt]
      · rw [List.getElem?_set_self (by simp; exact clt)]
      · rw [List.getElem?_set_ne (Ne.symm h3), List.getElem?_set_ne (Ne.symm h2)]; exact M.els k h1 h2 h3
  · have es : step s (p, q, m) = s := if_neg hm
    rw [es]
    have hm' : decide (s.t q + m < s.t p) = false := decide_eq_false hm
    refine ⟨h, ?_, M⟩
    simp only [L_moved_0, q_sIf, q_tB, q_e2, q_eV, q_eC, List.getElem?_cons_zero, List.getElem?_cons_succ, getV_some, bnd_some, o_ixT, atI_0, atI_1, Option.map_some, xb, SM.atI_nat, tp, tq, o_add, o_gt, tbK_bl, hm', Bool.false_eq_true, if_false, q_sNil]
theorem mv_loop {h0 : HI} {a b c n : Nat} (ab : a ≠ b) (ac : a ≠ c) (bc : b ≠ c) {E : List Bd} (hE : ∀ e ∈ E, e.1 < n ∧ e.2.1 < n) {s : Stt} {h : HI} (M : MvAt h0 a b c n E s h) (x4 x5 : Option Dt) :
    ∃ x4' x5' h', forK (gSet2 4 5) L_moved_0 [some (.ref a), some (.ref b), some (.ref c), some (causeD s.l), x4, x5] (.it a, h) = some (.nx [some (.ref a), some (.ref b), some (.ref c), some (causeD (E.foldl step s).l), x4', x5'] h') ∧ MvAt h0 a b c n E (E.foldl step s) h' := by
  obtain ⟨l', h', e, ⟨y4, y5, rfl⟩, M'⟩ := forK_it (i := 4) (j := 5) (n := a) (body := L_moved_0) (kvs := E.map kvOf) (fun (s : Stt) l h => (∃ y4 y5, l = [some (.ref a), some (.ref b), some (.ref c), some (causeD s.l), y4, y5]) ∧ MvAt h0 a b c n E s h) (fun s x => step s (unkv x)) (fun s l h ⟨_, M⟩ => M.da) (by
    rintro x hx s l h ⟨⟨y4, y5, rfl⟩, M⟩
    obtain ⟨e, he, rfl⟩ := List.mem_map.mp hx
    obtain ⟨h', e1, M'⟩ := mv_body ab ac bc (hE e he) M
    rw [un_kv]
    exact ⟨_, e1, ⟨_, _, rfl⟩, M'⟩) s ⟨⟨x4, x5, rfl⟩, M⟩
  have ef : (E.map kvOf).foldl (fun s x => step s (unkv x)) s = E.foldl step s := by
    simp only [List.foldl_map, un_kv]
  rw [ef] at e M'
  exact ⟨y4, y5, h', e, M'⟩
theorem e_moved {a b c n : Nat} (ab : a ≠ b) (ac : a ≠ c) (bc : b ≠ c) {E : List Bd} (hE : ∀ e ∈ E, e.1 < n ∧ e.2.1 < n) {s : Stt} {h : HI} (da : h[a]? = some (.dt (E.map kvOf)) ∨ h[a]? = some (.df (E.map kvOf))) (db : h[b]? = some (.lst (timesL n s.t))) (dc : h[c]? = some (.lst (causesL n s.c))) :
    ∃ h', F_moved [.ref a, .ref b, .ref c] h = some (causeD (turn E s).l, h') ∧ MvAt h a b c n E (turn E s) h' := by
  have alt : a < h.length := by rcases da with da | da <;> exact (List.getElem?_eq_some_iff.mp da).1
  obtain ⟨h1, ei, M⟩ : ∃ h1, iItems (eV 0) [some (.ref a), some (.ref b), some (.ref c), some .non, none, none] h = some (.it a, h1) ∧ MvAt h a b c n E ⟨s.t, s.c, none⟩ h1 := by
    rcases da with da | da
    · refine ⟨_, itemsK_dt (by simp) da, ⟨by simp, List.getElem?_set_self alt, ?_, ?_, fun m h1 _ _ => List.getElem?_set_ne (Ne.symm h1)⟩⟩
      · rw [List.getElem?_set_ne ab]; exact db
      · rw [List.getElem?_set_ne ac]; exact dc
    · exact ⟨_, itemsK_df (by simp) da, ⟨rfl, da, db, dc, fun _ _ _ _ => rfl⟩⟩
  obtain ⟨y4, y5, h', e, M'⟩ := mv_loop ab ac bc hE M none none
  refine ⟨h', ?_, M'⟩
  have e' : forK (gSet2 4 5) L_moved_0 [some (.ref a), some (.ref b), some (.ref c), some .non, none, none] (.it a, h1) = _ := e
  simp only [F_moved, B_moved, q_fn, List.length_cons, List.length_nil, if_true, List.map_cons, List.map_nil, List.replicate, List.cons_append, List.nil_append, q_sSeq, q_sSet, q_eC, bnd_some, List.set_cons_succ, List.set_cons_zero, sqK_nx, q_sFor]
  simp [ei, e']
  rfl
end G
namespace G
open PySem PySem.Spec PyProof.Rows L2 SM BF
theorem sub_pres (l : LI) (h : HI) (b : Dt) (h' : HI) (e : E_timed_0 l h = some (b, h')) : h' = h := by
  simp only [E_timed_0, q_e2, q_eV] at e
  rcases h0 : l[0]? with _ | _ | d0
  · rw [h0] at e; cases e
  · rw [h0] at e; cases e
  · rcases h1 : l[1]? with _ | _ | d1
    · rw [h0, h1] at e; cases e
    · rw [h0, h1] at e; cases e
    · rw [h0, h1] at e
      simp only [getV_some, bnd_some] at e
      cases d0 <;> cases d1 <;> simp [oSub, oI0] at e
      exact e.2.symm
theorem times_ints (n : Nat) (t : Nat → Int) : timesL n t = ((List.range n).map t).map Dt.int := by
  unfold timesL
  rw [List.map_map]
  rfl
structure TmAt (h0 : HI) (n : Nat) (E : List Bd) (s : Stt) (h : HI) : Prop where
  len : h.length = h0.length + 3
  da : h[h0.length]? = some (.dt (E.map kvOf)) ∨ h[h0.length]? = some (.df (E.map kvOf))
  db : h[h0.length + 1]? = some (.lst (timesL n s.t))
  dc : h[h0.length + 2]? = some (.lst (causesL n s.c))
  els : ∀ m, m < h0.length → h[m]? = h0[m]?
def shiftT (n : Nat) (t : Nat → Int) : Nat → Int := fun i => t i - minL ((List.range n).map t)
theorem tm_body {h0 : HI} {n : Nat} (hn : 1 ≤ n) (hn2 : n ≤ 1000) {E : List Bd} (hE : ∀ e ∈ E, e.1 < n ∧ e.2.1 < n) {s : Stt} {h : HI} (M : TmAt h0 n E s h) (x0 x1 x5 x6 x7 : Option Dt) :
    ∃ h', TmAt h0 n E (turn E s) h' ∧ L_timed_1 [x0, x1, some (.ref h0.length), some (.ref (h0.length + 1)), some (.ref (h0.length + 2)), x5, x6, x7] h =
      (match (turn E s).l with
      | none => some (.rt (.tup [.str "times", .lst (timesL n (shiftT n (turn E s).t))]) h')
      | some p => some (.nx [x0, x1, some (.ref h0.length), some (.ref (h0.length + 1)), some (.ref (h0.length + 2)), x5, some (.int (p : Nat)), x7] h')) := by
  obtain ⟨h', e, M'⟩ := e_moved (a := h0.length) (b := h0.length + 1) (c := h0.length + 2) (by omega) (by omega) (by omega) hE M.da M.db M.dc
  refine ⟨h', ⟨by rw [M'.len, M.len], .inr M'.da, M'.db, M'.dc, fun m hm => (M'.els m (by omega) (by omega) (by omega)).trans (M.els m hm)⟩, ?_⟩
  cases q : (turn E s).l with
  | some p =>
    rw [q] at e
    have e' : F_moved [.ref h0.length, .ref (h0.length + 1), .ref (h0.length + 2)] h = some (.int (p : Nat), h') := e
    simp [L_timed_1, e', isNon]
  | none =>
    rw [q] at e
    have e' : F_moved [.ref h0.length, .ref (h0.length + 1), .ref (h0.length + 2)] h = some (.non, h') := e
    have hne : (List.range n).map (turn E s).t ≠ [] := by
      intro z
      have := congrArg List.length z
      simp at this
      omega
    have em : minDK (eC (.int 0)) [x0, x1, some (.ref h0.length), some (.ref (h0.length + 1)), some (.ref (h0.length + 2)), x5, some .non, x7] (.ref (h0.length + 1), h') = some (.int (minL ((List.range n).map (turn E s).t)), h') := by
      unfold minDK
      rw [q_eC, bnd_some, seqL_ref M'.db, times_ints]
      simp only [Option.bind_some, SM.ints_map]
      rw [if_pos hne]
    have ec : compK (gSet 0) tTrue E_timed_0 [none, some (.int (minL ((List.range n).map (turn E s).t)))] (.rf (h0.length + 1), h') = some (timesL n (shiftT n (turn E s).t), h') := by
      rw [compK_rf M'.db (by rw [times_len]; simp; omega) (fun l h b h' e q => by simp at e; rw [← e.2]; exact q) (fun l h b h' e q => by rw [sub_pres l h b h' e]; exact q)]
      rw [times_ints, compV_all Dt.int (fun x => Dt.int (x - minL ((List.range n).map (turn E s).t))) h' _ _ (by
        intro x hx
        exact ⟨by simp, by simp [E_timed_0]⟩)]
      unfold timesL shiftT
      rw [List.map_map]
      rfl
    simp [L_timed_1, e', isNon, em, seqK_ref M'.db, ec]
end G
namespace G
open PySem PySem.Spec PyProof.Rows L2 SM BF
theorem tm_loop {h0 : HI} {n : Nat} (hn : 1 ≤ n) (hn2 : n ≤ 1000) {E : List Bd} (hE : ∀ e ∈ E, e.1 < n ∧ e.2.1 < n) (x0 x1 : Option Dt) : ∀ (xs : List Dt) (k : Nat) (x5 x6 x7 : Option Dt) (h : HI), TmAt h0 n E (turns E k s0) h → (1 ≤ k → ∃ p : Nat, (turns E k s0).l = some p ∧ x6 = some (.int (p : Nat))) →
    (∃ s h', s.l = none ∧ (∀ e ∈ E, Sat s.t e) ∧ TmAt h0 n E s h' ∧ walkL (gSet 5) L_timed_1 xs [x0, x1, some (.ref h0.length), some (.ref (h0.length + 1)), some (.ref (h0.length + 2)), x5, x6, x7] h = some (.rt (.tup [.str "times", .lst (timesL n (shiftT n s.t))]) h')) ∨
    (∃ y5 y6 h', TmAt h0 n E (turns E (k + xs.length) s0) h' ∧ (1 ≤ k + xs.length → ∃ p : Nat, (turns E (k + xs.length) s0).l = some p ∧ y6 = some (.int (p : Nat))) ∧
      walkL (gSet 5) L_timed_1 xs [x0, x1, some (.ref h0.length), some (.ref (h0.length + 1)), some (.ref (h0.length + 2)), x5, x6, x7] h = some (.nx [x0, x1, some (.ref h0.length), some (.ref (h0.length + 1)), some (.ref (h0.length + 2)), y5, y6, x7] h'))
  | [], k, x5, x6, x7, h, M, q => .inr ⟨x5, x6, h, M, q, rfl⟩
  | x :: xs, k, x5, x6, x7, h, M, q => by
    obtain ⟨h1, M1, e1⟩ := tm_body hn hn2 hE M x0 x1 (some x) x6 x7
    cases ql : (turn E (turns E k s0)).l with
    | none =>
      rw [ql] at e1
      obtain ⟨_, p2, p3⟩ := pass_none E _ ql
      refine .inl ⟨turn E (turns E k s0), h1, ql, ?_, M1, by simp [walkL, e1]⟩
      show ∀ e ∈ E, Sat (E.foldl step _).t e
      rw [p2]
      exact p3
    | some p =>
      rw [ql] at e1
      have := tm_loop hn hn2 hE x0 x1 xs (k + 1) (some x) (some (.int (p : Nat))) x7 h1 M1 (fun _ => ⟨p, ql, rfl⟩)
      rw [show k + (x :: xs).length = k + 1 + xs.length by simp; omega]
      rcases this with ⟨s, h', a1, a2, a3, a4⟩ | ⟨y5, y6, h', a1, a2, a3⟩
      · exact .inl ⟨s, h', a1, a2, a3, by simp [walkL, e1, a4]⟩
      · exact .inr ⟨y5, y6, h', a1, a2, by simp [walkL, e1, a3]⟩
def ringL (c : Nat → Option Nat) (P i : Nat) : List Dt := (List.range (i + 1)).map fun m => .int ((itr (nxt c) m P : Nat) : Int)
theorem ring_last (c : Nat → Option Nat) (P i : Nat) : atI (ringL c P i) (-1) = some (.int ((itr (nxt c) i P : Nat) : Int)) := by
  unfold ringL atI ixN
  have h1 : (1 : Int) ≤ (i : Int) + 1 := by omega
  have h2 : (-1 + ((i : Int) + 1)).toNat = i := by omega
  simp [h1, h2]
theorem e_ring_behind {n a k x : Nat} (hn : 1 ≤ n) (hn2 : n ≤ 90) {E : List Bd} {w : Nat → Nat → Int} {c : Nat → Option Nat} {h : HI} (dc : h[a]? = some (.lst (causesL n c))) (T : Tab n E)
    (R : Ring n E w c (itr (nxt c) n x) k) (cd : ∀ i, i ≤ n → c (itr (nxt c) i x) = some (itr (nxt c) (i + 1) x) ∧ itr (nxt c) i x < n) :
    F_ring_behind [.int (x : Nat), .ref a] h = some (.ref h.length, h ++ [.lst (ringL c (itr (nxt c) n x) k)]) := by
  have xc := fun i => o_ixR dc i
  have er := r1K_int (h := h) (show (-(2 ^ 62) : Int) ≤ (n : Int) by omega) (show (n : Int) < 2 ^ 62 by omega)
  simp only [Int.toNat_natCast] at er
  obtain ⟨l', h', e, ⟨y, rfl⟩, hh⟩ := walk_range (i := 2) (body := L_ring_behind_0) (fun (k : Nat) => Dt.int (k : Int)) (fun i l h' => (∃ y, l = [some (.int ((itr (nxt c) i x : Nat) : Int)), some (.ref a), y, none]) ∧ h' = h) n (by
    rintro i hi l h' ⟨⟨y, rfl⟩, rfl⟩
    obtain ⟨c1, c2⟩ := cd i (by omega)
    have ca := causes_at c c2
    rw [c1] at ca
    refine ⟨.nx [some (.int ((itr (nxt c) (i + 1) x : Nat) : Int)), some (.ref a), some (.int (i : Nat)), none] h', ?_, ⟨_, rfl⟩, rfl⟩
    simp only [L_ring_behind_0, q_sSet, q_e2, q_eV, List.set_cons_succ, List.set_cons_zero, List.getElem?_cons_zero, List.getElem?_cons_succ, getV_some, bnd_some, xc, SM.atI_nat, ca, Option.map_some, causeD]) [some (.int (x : Nat)), some (.ref a), none, none] h ⟨⟨_, rfl⟩, rfl⟩
  rw [hh] at e
  clear hh
  obtain ⟨c1, c2⟩ := cd n (Nat.le_refl _)
  generalize hP : itr (nxt c) n x = P at R e c1 c2
  have c1' : c P = some (itr (nxt c) (n + 1) x) := c1
  have caP := causes_at c c2
  have f1 : itr (nxt c) (n + 1) x = nxt c P := by show nxt c (itr (nxt c) n x) = _; rw [hP]
  rw [c1', f1] at caP
  obtain ⟨r, ew, Rr⟩ := while_ind (t := K_ring_behind_2) (body := L_ring_behind_1) (fun m l h' => ∃ i, 1 ≤ i ∧ i ≤ k ∧ m = k - i ∧ l = [some (.int (P : Nat)), some (.ref a), y, some (.ref h.length)] ∧ h' = h ++ [.lst (ringL c P i)])
    (fun l h' => l = [some (.int (P : Nat)), some (.ref a), y, some (.ref h.length)] ∧ h' = h ++ [.lst (ringL c P k)]) (fun _ _ => False) (by
    rintro m l h' ⟨i, i1, i2, rfl, rfl, rfl⟩
    have dr : (h ++ [Ob.lst (ringL c P i)])[h.length]? = some (.lst (ringL c P i)) := by simp
    have dc' : (h ++ [Ob.lst (ringL c P i)])[a]? = some (.lst (causesL n c)) := by
      rw [List.getElem?_append_left (List.getElem?_eq_some_iff.mp dc).1]; exact dc
    have xr := fun j => o_ixR dr j
    have xc' := fun j => o_ixR dc' j
    have rl := ring_last c P i
    refine ⟨!decide (((itr (nxt c) i P : Nat) : Int) = (P : Int)), h ++ [.lst (ringL c P i)], ?_, ?_⟩
    · simp only [K_ring_behind_2, q_tB, q_e2, q_eV, q_neg, q_eC, negK_int, List.getElem?_cons_zero, List.getElem?_cons_succ, getV_some, bnd_some, xr, rl, Option.map_some, o_ne, tbK_bl]
    · by_cases hk : i = k
      · subst hk
        rw [R.back]
        simp
      · have ne := R.first i i1 (by omega)
        have ne' : ¬ (((itr (nxt c) i P : Nat) : Int) = (P : Int)) := fun z => ne (by omega)
        rw [decide_eq_false ne']
        obtain ⟨g1, g2⟩ := R.edge i i2
        have glt := (T.lt _ g1).1
        have ca := causes_at c glt
        rw [g2] at ca
        have ea : e2 oIx (eV 1) (e2 oIx (eV 3) (uNeg (eC (.int 1)))) [some (.int (P : Nat)), some (.ref a), y, some (.ref h.length)] (h ++ [.lst (ringL c P i)]) = some (.int ((itr (nxt c) (i + 1) P : Nat) : Int), h ++ [.lst (ringL c P i)]) := by
          simp only [q_e2, q_eV, q_neg, q_eC, negK_int, List.getElem?_cons_zero, List.getElem?_cons_succ, getV_some, bnd_some, xr, rl, Option.map_some, xc', SM.atI_nat, ca, causeD]
        have ap := appK_ref (l := [some (.int (P : Nat)), some (.ref a), y, some (.ref h.length)]) (g := e2 oIx (eV 1) (e2 oIx (eV 3) (uNeg (eC (.int 1))))) dr ea dr (by have := R.le; simp [ringL]; omega)
        have en : ringL c P i ++ [.int ((itr (nxt c) (i + 1) P : Nat) : Int)] = ringL c P (i + 1) := by
          unfold ringL
          rw [List.range_succ (n := i + 1), List.map_append]
          rfl
        rw [en] at ap
        have es : (h ++ [Ob.lst (ringL c P i)]).set h.length (.lst (ringL c P (i + 1))) = h ++ [.lst (ringL c P (i + 1))] := by simp
        rw [es] at ap
        refine ⟨.nx [some (.int (P : Nat)), some (.ref a), y, some (.ref h.length)] (h ++ [.lst (ringL c P (i + 1))]), ?_, k - (i + 1), by omega, i + 1, by omega, by omega, rfl, rfl, rfl⟩
        simp only [L_ring_behind_1, q_sDrop, q_append, q_eV, List.getElem?_cons_zero, List.getElem?_cons_succ, getV_some, bnd_some, ap]) 100 (k - 1) [some (.int (P : Nat)), some (.ref a), y, some (.ref h.length)] (h ++ [.lst (ringL c P 1)]) ⟨1, Nat.le_refl _, R.pos, rfl, rfl, rfl⟩ (by have := R.le; omega)
  cases r with
  | nx l2 h2 =>
    obtain ⟨rfl, rfl⟩ := Rr
    have e1 : ringL c P 1 = [.int (P : Nat), .int ((nxt c P : Nat) : Int)] := rfl
    rw [e1] at ew
    simp [F_ring_behind, B_ring_behind, f_lenR dc, causes_len, er, e, xc, caP, causeD, ew]
  | rt d h2 => exact Rr.elim
  | bk l2 h2 => exact Rr.elim
  | ct l2 h2 => exact Rr.elim
end G
namespace G
open PySem PySem.Spec PyProof.Rows L2 SM BF
def wOf (told : List Bd) (p q : Nat) : Int := (atB (tabB told) p q).getD 0
theorem w_of {told : List Bd} {e : Bd} (he : e ∈ tabB told) : wOf told e.1 e.2.1 = e.2.2 := by
  unfold wOf atB
  cases q : (tabB told).find? (keyB e.1 e.2.1) with
  | none =>
    have := List.find?_eq_none.mp q e he
    exact absurd (keyB_iff.mpr ⟨rfl, rfl⟩) this
  | some x =>
    obtain ⟨h1, h2⟩ := keyB_iff.mp (List.find?_some q)
    exact (tab_of told).un x (List.mem_of_find?_eq_some q) e he h1 h2
theorem tab_tab {n : Nat} {told : List Bd} (hT : ∀ e ∈ told, e.1 < n ∧ e.2.1 < n ∧ e.1 ≠ e.2.1) : Tab n (tabB told) := ⟨fun e he => hT e ((tab_of told).mem e he), (tab_of told).un⟩
end G
namespace G
open PySem PySem.Spec PyProof.Rows L2 SM BF
theorem e_least_boundsR (told : List Bd) (hl : told.length ≤ 1000) (h : HI) {a : Nat} (da : h[a]? = some (.lst (told.map trip))) : F_least_bounds [.ref a] h = some (.ref h.length, h ++ [.dt ((tabB told).map kvOf)]) := by
  obtain ⟨l', h', e, ⟨y2, y3, rfl⟩, rfl, _⟩ := rf_at (i := 2) (n := a) (body := L_least_bounds_0) trip (fun k l h' => (∃ y2 y3, l = [some (.ref a), some (.ref h.length), y2, y3]) ∧ h' = h ++ [.dt (((told.take k).foldl addB []).map kvOf)] ∧ ((told.take k).foldl addB []).length ≤ k) told (by
    rintro k l h' ⟨_, rfl, _⟩
    rw [List.getElem?_append_left (List.getElem?_eq_some_iff.mp da).1]
    exact da) (by
    rintro k x hx l h' ⟨⟨y2, y3, rfl⟩, rfl, hk⟩
    have kl : k < told.length := (List.getElem?_eq_some_iff.mp hx).1
    rw [take_fold addB [] hx]
    generalize (told.take k).foldl addB [] = E at hk
    have ed : (h ++ [Ob.dt (E.map kvOf)])[h.length]? = some (.dt (E.map kvOf)) := by simp
    have LL : ([some (Dt.ref a), some (.ref h.length), y2, y3] : LI).set 2 (some (trip x)) = [some (Dt.ref a), some (.ref h.length), some (trip x), y3] := rfl
    rw [LL]
    refine ⟨.nx [some (.ref a), some (.ref h.length), some (trip x), some (.ntp [(x.1 : Int), (x.2.1 : Int)])] (h ++ [.dt ((addB E x).map kvOf)]), ?_, ⟨_, _, rfl⟩, rfl, ?_⟩
    · have g1 : eDGet2 (eV 1) (eV 3) (e2 oIx (eV 2) (eC (.int 2))) [some (.ref a), some (.ref h.length), some (trip x), some (.ntp [(x.1 : Int), (x.2.1 : Int)])] (h ++ [.dt (E.map kvOf)]) = some (.int ((atB E x.1 x.2.1).getD x.2.2), h ++ [.dt (E.map kvOf)]) := by
        rw [q_dget2 (n := h.length) (k := [(x.1 : Int), (x.2.1 : Int)]) (kvs := E.map kvOf) (by simp) ed (by simp)]
        simp only [q_e2, q_eV, q_eC, List.getElem?_cons_zero, List.getElem?_cons_succ, getV_some, bnd_some, trip, o_ixT, atI_2, Option.map_some]
        rw [dg3_dt ed, dAt_kv]
        cases atB E x.1 x.2.1 <;> rfl
      have g2 := q_dset (l := [some (.ref a), some (.ref h.length), some (trip x), some (.ntp [(x.1 : Int), (x.2.1 : Int)])]) (h := h ++ [.dt (E.map kvOf)]) (fe := eF2 fMin2 (eDGet2 (eV 1) (eV 3) (e2 oIx (eV 2) (eC (.int 2)))) (e2 oIx (eV 2) (eC (.int 2)))) (fo := eV 1) (fy := eV 3) (n := h.length) (k := [(x.1 : Int), (x.2.1 : Int)]) (kvs := E.map kvOf)
        (d := .int (min ((atB E x.1 x.2.1).getD x.2.2) x.2.2)) (by
          rw [q_F2, g1, bnd_some]
          simp [trip]) (by simp) ed (by simp) (by simp; omega)
      rw [dPut_kv] at g2
      have es : (h ++ [Ob.dt (E.map kvOf)]).set h.length (.dt ((addB E x).map kvOf)) = h ++ [.dt ((addB E x).map kvOf)] := by simp
      simp only [L_least_bounds_0, q_sSeq, q_sSet, q_ntp, q_aCons, q_aNil, q_e2, q_eV, q_eC, List.getElem?_cons_zero, List.getElem?_cons_succ, getV_some, bnd_some, trip, o_ixT, atI_0, atI_1, Option.map_some, ntpK_two, List.set_cons_succ, List.set_cons_zero, sqK_nx]
      have g3 := g2
      simp only [trip] at g3
      rw [g3]
      show some (Rs.nx _ ((h ++ [Ob.dt (E.map kvOf)]).set h.length (.dt ((addB E x).map kvOf)))) = _
      rw [es]
    · have := len_putV E x.1 x.2.1 (min ((atB E x.1 x.2.1).getD x.2.2) x.2.2)
      show (addB E x).length ≤ k + 1
      unfold addB
      omega) [some (.ref a), some (.ref h.length), none, none] (h ++ [.dt []]) ⟨⟨_, _, rfl⟩, by simp, by simp⟩
  have da' : (h ++ [Ob.dt []])[a]? = some (.lst (told.map trip)) := by
    rw [List.getElem?_append_left (List.getElem?_eq_some_iff.mp da).1]
    exact da
  rw [List.take_length] at e
  simp [F_least_bounds, B_least_bounds, seqK_ref da', e]
  rfl
theorem e_timedR {n a : Nat} (hn : 1 ≤ n) (hn2 : n ≤ 16) (told : List Bd) (hT : ∀ e ∈ told, e.1 < n ∧ e.2.1 < n ∧ e.1 ≠ e.2.1) (hl : told.length ≤ 1000) (h : HI) (da : h[a]? = some (.lst (told.map trip))) :
    (∃ t h', (∀ e ∈ told, Sat t e) ∧ (∀ m, m < h.length → h'[m]? = h[m]?) ∧ F_timed [.int (n : Nat), .ref a] h = some (.tup [.str "times", .lst (timesL n (shiftT n t))], h')) ∨
    (∃ c P k r h', Ring n (tabB told) (wOf told) c P k ∧ (∀ m, m < h.length → h'[m]? = h[m]?) ∧ h'[r]? = some (.lst (ringL c P k)) ∧ F_timed [.int (n : Nat), .ref a] h = some (.tup [.str "ring", .ref r], h') ∧ h.length ≤ r) := by
  have T := tab_tab hT
  have hE : ∀ e ∈ tabB told, e.1 < n ∧ e.2.1 < n := fun e he => ⟨(T.lt e he).1, (T.lt e he).2.1⟩
  have eb := e_least_boundsR told hl h da
  have r1 := repNK_nat (h := h ++ [.dt ((tabB told).map kvOf)]) (Dt.int 0) (show n ≤ 1000000 by omega)
  have r2 := repNK_nat (h := h ++ [.dt ((tabB told).map kvOf)] ++ [.lst (List.replicate n (Dt.int 0))]) Dt.non (show n ≤ 1000000 by omega)
  have t0 : List.replicate n (Dt.int 0) = timesL n s0.t := by
    unfold timesL
    rw [show (fun i => Dt.int (s0.t i)) = fun _ => Dt.int 0 from rfl, List.map_const', List.length_range]
  have c0 : List.replicate n Dt.non = causesL n s0.c := by
    unfold causesL
    rw [show (fun i => causeD (s0.c i)) = fun _ => Dt.non from rfl, List.map_const', List.length_range]
  rw [t0] at r1 r2
  rw [c0] at r2
  simp only [List.append_assoc, List.cons_append, List.nil_append, List.length_append, List.length_cons, List.length_nil, Nat.zero_add] at r1 r2
  have er := fun h => r1K_int (h := h) (show (-(2 ^ 62) : Int) ≤ (n : Int) + 1 by omega) (show (n : Int) + 1 < 2 ^ 62 by omega)
  have en : ((n : Int) + 1).toNat = n + 1 := by omega
  rw [en] at er
  have M : TmAt h n (tabB told) (turns (tabB told) 0 s0) (h ++ [.dt ((tabB told).map kvOf), .lst (timesL n s0.t), .lst (causesL n s0.c)]) := by
    refine ⟨by simp, .inl ?_, ?_, ?_, fun m hm => List.getElem?_append_left hm⟩
    · rw [List.getElem?_append_right (Nat.le_refl _), Nat.sub_self]; rfl
    · rw [List.getElem?_append_right (by omega), Nat.add_sub_cancel_left]; rfl
    · rw [List.getElem?_append_right (by omega), Nat.add_sub_cancel_left]; rfl
  rcases tm_loop hn (by omega) hE (some (.int (n : Nat))) (some (.ref a)) ((List.range (n + 1)).map fun (k : Nat) => Dt.int (k : Int)) 0 none none none _ M (fun h => absurd h (by omega)) with ⟨s, h', a1, a2, a3, a4⟩ | ⟨y5, y6, h', a1, a2, a3⟩
  · refine .inl ⟨s.t, h', fun e he => ?_, a3.els, ?_⟩
    · obtain ⟨x, hx, x1, x2, x3⟩ := (tab_of told).low e he
      have := a2 x hx
      simp only [Sat] at this ⊢
      rw [x1, x2] at this
      omega
    · simp [F_timed, B_timed, eb, r1, r2, er, a4]
  · rw [List.length_map, List.length_range, Nat.zero_add] at a1 a2
    obtain ⟨p, ql, rfl⟩ := a2 (by omega)
    obtain ⟨u, D, I, _⟩ := ok_turns T (fun e he => w_of he) n
    obtain ⟨k, R, cd⟩ := ring_of T I ql
    have g := e_ring_behind hn (by omega) a1.dc T R cd
    refine .inr ⟨(turns (tabB told) (n + 1) s0).c, itr (nxt (turns (tabB told) (n + 1) s0).c) n p, k, h'.length, h' ++ [.lst (ringL (turns (tabB told) (n + 1) s0).c (itr (nxt (turns (tabB told) (n + 1) s0).c) n p) k)], R, fun m hm => ?_, ?_, ?_, by rw [a1.len]; omega⟩
    · rw [List.getElem?_append_left (by rw [a1.len]; omega)]
      exact a1.els m hm
    · rw [List.getElem?_append_right (Nat.le_refl _), Nat.sub_self]; rfl
    · simp [F_timed, B_timed, eb, r1, r2, er, a3, g]
end G
namespace G
open PySem PySem.Spec PyProof.Rows L2 SM
def zone (t a b : Int) : Nat := if t < a then 0 else if t = a then 1 else if t < b then 2 else if t = b then 3 else 4
def pairsN : List (Nat × Nat) := [(0, 0), (0, 1), (0, 2), (0, 3), (0, 4), (1, 2), (1, 3), (1, 4), (2, 2), (2, 3), (2, 4), (3, 4), (4, 4)]
theorem pairs_mem {a b c d : Int} (h1 : a < b) (h2 : c < d) : (zone a c d, zone b c d) ∈ pairsN := by
  unfold zone
  repeat' split
  all_goals first | (exfalso; omega) | decide
def pr (p : Nat × Nat) : Dt := .tup [.int (p.1 : Int), .int (p.2 : Int)]
def spanD (s : Int × Int) : Dt := .tup [.int s.1, .int s.2]
def wayOf (s o : Int × Int) : Nat := pairsN.idxOf (zone s.1 o.1 o.2, zone s.2 o.1 o.2)
def okS (s : Int × Int) : Prop := s.1 < s.2
theorem wayOf_lt {s o : Int × Int} (h1 : okS s) (h2 : okS o) : wayOf s o < 13 := List.idxOf_lt_length_of_mem (pairs_mem h1 h2)
theorem idx_pairs : ∀ p ∈ pairsN, idxOk (pairsN.map pr) (pr p) = true ∧ idxD (pairsN.map pr) (pr p) = some (pairsN.idxOf p) := by
  intro p hp
  simp only [pairsN, List.mem_cons, List.not_mem_nil, or_false] at hp
  rcases hp with rfl | rfl | rfl | rfl | rfl | rfl | rfl | rfl | rfl | rfl | rfl | rfl | rfl <;> exact ⟨rfl, rfl⟩
end G
namespace G
open PySem PySem.Spec PyProof.Rows L2 SM
def mkS (n : Nat) (p : Nat → Bool) : Nat := match n with
  | 0 => 0
  | n + 1 => mkS n p + (if p n = true then 2 ^ n else 0)
def mk (p : Nat → Bool) : Nat := mkS 13 p
def waysL (m : Nat) : List Nat := (List.range 13).filter m.testBit
theorem bAnd_nat (a b : Nat) : Builtin.bitAnd (a : Int) (b : Int) = ((a &&& b : Nat) : Int) := by
  unfold Builtin.bitAnd
  simp
theorem bit_at (m k : Nat) : decide (Builtin.bitAnd ((m : Int) / 2 ^ k) 1 = 1) = m.testBit k := by
  have e : ((m : Int) / 2 ^ k) = ((m / 2 ^ k : Nat) : Int) := by simp
  rw [e]
  have := bAnd_nat (m / 2 ^ k) 1
  simp only [Int.cast_ofNat_Int] at this
  rw [this, Nat.testBit_eq_decide_div_mod_eq]
  have e2 : (m / 2 ^ k &&& 1) = m / 2 ^ k % 2 := Nat.and_one_is_mod _
  rw [e2]
  congr 1
  apply propext
  omega
theorem r13 (h : HI) : r1K (.int 13, h) = some (.vals ((List.range 13).map fun (k : Nat) => Dt.int (k : Int)), h) := r1K_int (by decide) (by decide)
theorem l13 {α : Type} (f : Nat → α) : ((List.range 13).map f).length < sizeLine := by rw [List.length_map, List.length_range]; decide
theorem lt13 {i : Nat} (h : i < 13) : i = 0 ∨ i = 1 ∨ i = 2 ∨ i = 3 ∨ i = 4 ∨ i = 5 ∨ i = 6 ∨ i = 7 ∨ i = 8 ∨ i = 9 ∨ i = 10 ∨ i = 11 ∨ i = 12 := by omega
end G
namespace G
open PySem PySem.Spec PyProof.Rows L2 SM
theorem e_ways_in (m : Nat) (h : HI) : F_ways_in [.int m] h = some (.lst ((waysL m).map fun (k : Nat) => Dt.int (k : Int)), h) := by
  have ec := compV_on (te := E_ways_in_0) (tc := K_ways_in_1) (i := 0) (fun (k : Nat) => Dt.int (k : Int)) m.testBit (fun (k : Nat) => Dt.int (k : Int)) h (List.range 13) [none, some (.int m)] fun k _ => ⟨by
    simp [K_ways_in_1, o_shr, bit_at], fun _ => by simp [E_ways_in_0]⟩
  simp [F_ways_in, B_ways_in, r13, compK_vals _ _ _ (l13 _), ec, waysL]
end G
namespace G
open PySem PySem.Spec PyProof.Rows L2 SM BF
def pbs (p q : Nat) (a mx mn : Int) : List Bd := (if mx ≤ a then [(p, q, if mx < a then -1 else 0)] else []) ++ (if a ≤ mn then [(q, p, if a < mn then -1 else 0)] else [])
theorem e_point_bounds (p q : Nat) (a : Int) {seen : List Int} (hs : seen ≠ []) (h : HI) : F_point_bounds [.int (p : Nat), .int (q : Nat), .int a, .lst (seen.map Dt.int)] h = some (.ref h.length, h ++ [.lst ((pbs p q a (maxL seen) (minL seen)).map trip)]) := by
  have e1 := fun h => f_max (h := h) hs
  have em := fun h => f_min (h := h) hs
  generalize maxL seen = mx at e1
  generalize minL seen = mn at em
  have ap := fun (l : LI) (xs : List Bd) (g : RE) (d : Bd) (c : xs.length < 5) (eg : g l (h ++ [.lst (xs.map trip)]) = some (trip d, h ++ [.lst (xs.map trip)])) =>
    appK_ref (h := h ++ [.lst (xs.map trip)]) (l := l) (n := h.length) (ys := xs.map trip) (xs := xs.map trip) (d := trip d) (by simp) eg (by simp) (by simp; omega)
  have es : ∀ (xs : List Bd) (d : Bd), (h ++ [Ob.lst (xs.map trip)]).set h.length (.lst (xs.map trip ++ [trip d])) = h ++ [.lst ((xs ++ [d]).map trip)] := fun xs d => by simp
  have first : ∀ l2 : LI, l2 = [some (.int (p : Nat)), some (.int (q : Nat)), some (.int a), some (.lst (seen.map Dt.int)), some (.ref h.length)] → sIf (tB' (e2 oLe (eF1 fMax (eV 3)) (eV 2))) (sDrop (eAppend (eV 4) (eTup (aCons (eV 0) (aCons (eV 1) (aCons (vIf (tB' (e2 oLt (eF1 fMax (eV 3)) (eV 2))) (uNeg (eC (.int 1))) (eC (.int 0))) (aNil))))))) (sNil) l2 (h ++ [.lst []]) =
      some (.nx l2 (h ++ [.lst ((if mx ≤ a then [((p, q, if mx < a then -1 else 0) : Bd)] else []).map trip)])) := fun l2 hl2 => by
    subst hl2
    by_cases c1 : mx ≤ a
    · have g := ap [some (.int (p : Nat)), some (.int (q : Nat)), some (.int a), some (.lst (seen.map Dt.int)), some (.ref h.length)] [] (eTup (aCons (eV 0) (aCons (eV 1) (aCons (vIf (tB' (e2 oLt (eF1 fMax (eV 3)) (eV 2))) (uNeg (eC (.int 1))) (eC (.int 0))) (aNil))))) (p, q, if mx < a then -1 else 0) (by simp) (by
        by_cases c2 : mx < a <;> simp [e1, c2, trip])
      rw [es] at g
      simp only [List.map_nil, List.nil_append] at g
      simp only [q_sIf, q_tB, q_e2, q_F1, q_eV, List.getElem?_cons_zero, List.getElem?_cons_succ, getV_some, bnd_some, e1, o_le, tbK_bl, c1, decide_true, if_true, q_sDrop, q_append, g]
    · simp [e1, c1]
  have second : ∀ (xs : List Bd), xs.length < 5 → sIf (tB' (e2 oGe (eF1 fMin (eV 3)) (eV 2))) (sDrop (eAppend (eV 4) (eTup (aCons (eV 1) (aCons (eV 0) (aCons (vIf (tB' (e2 oGt (eF1 fMin (eV 3)) (eV 2))) (uNeg (eC (.int 1))) (eC (.int 0))) (aNil))))))) (sNil) [some (.int (p : Nat)), some (.int (q : Nat)), some (.int a), some (.lst (seen.map Dt.int)), some (.ref h.length)] (h ++ [.lst (xs.map trip)]) =
      some (.nx [some (.int (p : Nat)), some (.int (q : Nat)), some (.int a), some (.lst (seen.map Dt.int)), some (.ref h.length)] (h ++ [.lst ((xs ++ if a ≤ mn then [((q, p, if a < mn then -1 else 0) : Bd)] else []).map trip)])) := fun xs hx => by
    by_cases c1 : a ≤ mn
    · have g := ap [some (.int (p : Nat)), some (.int (q : Nat)), some (.int a), some (.lst (seen.map Dt.int)), some (.ref h.length)] xs (eTup (aCons (eV 1) (aCons (eV 0) (aCons (vIf (tB' (e2 oGt (eF1 fMin (eV 3)) (eV 2))) (uNeg (eC (.int 1))) (eC (.int 0))) (aNil))))) (q, p, if a < mn then -1 else 0) hx (by
        by_cases c2 : a < mn <;> simp [em, c2, trip])
      rw [es] at g
      simp only [q_sIf, q_tB, q_e2, q_F1, q_eV, List.getElem?_cons_zero, List.getElem?_cons_succ, getV_some, bnd_some, em, o_ge, tbK_bl, c1, decide_true, if_true, q_sDrop, q_append, g]
    · simp [em, c1]
  have f1 := first _ rfl
  have f2 := second (if mx ≤ a then [((p, q, if mx < a then -1 else 0) : Bd)] else []) (by split <;> simp)
  unfold pbs
  simp only [F_point_bounds, B_point_bounds, q_fn, List.length_cons, List.length_nil, if_true, List.map_cons, List.map_nil, Nat.reduceAdd, Nat.reduceSub, List.replicate, List.cons_append, List.nil_append, q_sSeq, q_sSet, q_eNew, q_aNil, bnd_some, Nat.zero_le, size_lit, List.set_cons_succ, List.set_cons_zero, sqK_nx, f1, f2, q_sRet, q_eV, List.getElem?_cons_zero, List.getElem?_cons_succ, getV_some, finK_rt]
end G
namespace G
open PySem PySem.Spec PyProof.Rows L2 SM BF
def pz (w : Nat) : Nat × Nat := pairsN.getD w (0, 0)
theorem e_zones {w : Nat} (hw : w < 13) (h : HI) : F_zones [.int w] h = some (pr (pz w), h) := by
  rcases lt13 hw with rfl | rfl | rfl | rfl | rfl | rfl | rfl | rfl | rfl | rfl | rfl | rfl | rfl <;> kernel_rfl
def zs (side w : Nat) : Int := if side = 0 then ((pz w).1 : Int) else ((pz w).2 : Int)
def seenL (side m : Nat) : List Int := (waysL m).map (zs side)
theorem seen_ne {side m : Nat} (hm : waysL m ≠ []) : seenL side m ≠ [] := by
  unfold seenL
  intro z
  exact hm (List.map_eq_nil_iff.mp z)
def sideB (i j side m : Nat) : List Bd := pbs (2 * i + side) (2 * j) 1 (maxL (seenL side m)) (minL (seenL side m)) ++ pbs (2 * i + side) (2 * j + 1) 3 (maxL (seenL side m)) (minL (seenL side m))
theorem one_len {c : Prop} [Decidable c] (x : Bd) : (if c then [x] else []).length ≤ 1 := by split <;> simp
theorem pbs_len (p q : Nat) (a mx mn : Int) : (pbs p q a mx mn).length ≤ 2 := by
  unfold pbs
  rw [List.length_append]
  exact Nat.add_le_add (one_len _) (one_len _)
theorem ext_at {h : HI} {F G : List Bd} {rest : List Ob} {l : LI} {g : RE} (c : F.length + G.length ≤ 100000) (eg : g l (h ++ .lst (F.map trip) :: rest) = some (.ref (h ++ .lst (F.map trip) :: rest).length, (h ++ .lst (F.map trip) :: rest) ++ [.lst (G.map trip)])) :
    extK g l (.ref h.length, h ++ .lst (F.map trip) :: rest) = some (.non, h ++ .lst ((F ++ G).map trip) :: (rest ++ [.lst (G.map trip)])) := by
  have e0 : (h ++ Ob.lst (F.map trip) :: rest)[h.length]? = some (.lst (F.map trip)) := by simp
  have e1 : ((h ++ Ob.lst (F.map trip) :: rest) ++ [Ob.lst (G.map trip)])[h.length]? = some (.lst (F.map trip)) := by
    rw [List.getElem?_append_left (by simp)]
    exact e0
  have e2 : ((h ++ Ob.lst (F.map trip) :: rest) ++ [Ob.lst (G.map trip)])[(h ++ Ob.lst (F.map trip) :: rest).length]? = some (.lst (G.map trip)) := by
    rw [List.getElem?_append_right (Nat.le_refl _), Nat.sub_self]
    rfl
  rw [extK_ref e0 eg e1 e2 (by simp; omega)]
  simp
theorem side_body (i j m side : Nat) (hs : side = 0 ∨ side = 1) (hi : i ≤ 1000) (hj : j ≤ 1000) (hm : waysL m ≠ []) (h : HI) (F : List Bd) (hF : F.length ≤ 1000) (rest : List Ob) (y5 : Option Dt) : ∃ y rest', L_set_bounds_1 [some (.int (i : Nat)), some (.int (m : Nat)), some (.int (j : Nat)), some (.ref h.length), some (.int (side : Nat)), y5] (h ++ .lst (F.map trip) :: rest) =
    some (.nx [some (.int (i : Nat)), some (.int (m : Nat)), some (.int (j : Nat)), some (.ref h.length), some (.int (side : Nat)), y] (h ++ .lst ((F ++ sideB i j side m).map trip) :: rest')) := by
  have ew := fun h => e_ways_in m h
  have wl : ∀ k ∈ waysL m, k < 13 := fun k hk => List.mem_range.mp (List.mem_filter.mp hk).1
  have ln : ((waysL m).map fun (k : Nat) => Dt.int (k : Int)).length < sizeLine := by
    have : (waysL m).length ≤ 13 := Nat.le_trans (List.length_filter_le _ _) (by simp)
    simp
    omega
  have ec := compV_all (te := E_set_bounds_0) (tc := tTrue) (i := 0) (fun (k : Nat) => Dt.int (k : Int)) (fun k => Dt.int (zs side k)) (h ++ .lst (F.map trip) :: rest) (waysL m) [none, some (.int (side : Nat))] (by
    intro k hk
    have ez := e_zones (wl k hk) (h ++ .lst (F.map trip) :: rest)
    refine ⟨by simp, ?_⟩
    rcases hs with rfl | rfl
    · simp [E_set_bounds_0, ez, pr, zs]
    · simp [E_set_bounds_0, ez, pr, zs])
  have ek := compK_vals (l := [none, some (.int (side : Nat))]) (h := h ++ .lst (F.map trip) :: rest) (gSet 0) tTrue E_set_bounds_0 ln
  rw [ec] at ek
  have sl : (waysL m).map (fun k => Dt.int (zs side k)) = (seenL side m).map Dt.int := by unfold seenL; rw [List.map_map]; rfl
  rw [sl] at ek
  have hp := fun h => e_point_bounds (2 * i + side) (2 * j) 1 (seen_ne (side := side) hm) h
  have hq := fun h => e_point_bounds (2 * i + side) (2 * j + 1) 3 (seen_ne (side := side) hm) h
  have pl : ∀ p q a mx mn, (pbs p q a mx mn).length ≤ 2 := pbs_len
  have u := fun (i : Int) (h : HI) => o_mul (h := h) (i := 2) (j := i) (Or.inl ⟨by decide, by decide⟩)
  have ca : (2 : Int) * (i : Int) + (side : Int) = ((2 * i + side : Nat) : Int) := by omega
  have cb : (2 : Int) * (j : Int) = ((2 * j : Nat) : Int) := by omega
  have cc : ((2 * j : Nat) : Int) + 1 = ((2 * j + 1 : Nat) : Int) := by omega
  have x1 := ext_at (h := h) (F := F) (G := pbs (2 * i + side) (2 * j) 1 (maxL (seenL side m)) (minL (seenL side m))) (rest := rest) (l := [some (.int (i : Nat)), some (.int (m : Nat)), some (.int (j : Nat)), some (.ref h.length), some (.int (side : Nat)), some (.lst ((seenL side m).map Dt.int))])
    (g := eCall F_point_bounds [] (aCons (e2 oAdd (e2 oMul (eC (.int 2)) (eV 0)) (eV 4)) (aCons (e2 oMul (eC (.int 2)) (eV 2)) (aCons (eC (.int 1)) (aCons (eV 5) (aNil)))))) (by have := pl (2 * i + side) (2 * j) 1 (maxL (seenL side m)) (minL (seenL side m)); omega) (by
      simp only [q_call, q_aCons, q_aNil, q_e2, q_eC, q_eV, List.getElem?_cons_zero, List.getElem?_cons_succ, getV_some, bnd_some, u, o_add, ca, cb, List.append_nil]
      exact hp _)
  have x2 := ext_at (h := h) (F := F ++ pbs (2 * i + side) (2 * j) 1 (maxL (seenL side m)) (minL (seenL side m))) (G := pbs (2 * i + side) (2 * j + 1) 3 (maxL (seenL side m)) (minL (seenL side m))) (rest := rest ++ [.lst ((pbs (2 * i + side) (2 * j) 1 (maxL (seenL side m)) (minL (seenL side m))).map trip)]) (l := [some (.int (i : Nat)), some (.int (m : Nat)), some (.int (j : Nat)), some (.ref h.length), some (.int (side : Nat)), some (.lst ((seenL side m).map Dt.int))])
    (g := eCall F_point_bounds [] (aCons (e2 oAdd (e2 oMul (eC (.int 2)) (eV 0)) (eV 4)) (aCons (e2 oAdd (e2 oMul (eC (.int 2)) (eV 2)) (eC (.int 1))) (aCons (eC (.int 3)) (aCons (eV 5) (aNil)))))) (by have := pl (2 * i + side) (2 * j) 1 (maxL (seenL side m)) (minL (seenL side m)); have := pl (2 * i + side) (2 * j + 1) 3 (maxL (seenL side m)) (minL (seenL side m)); simp; omega) (by
      simp only [q_call, q_aCons, q_aNil, q_e2, q_eC, q_eV, List.getElem?_cons_zero, List.getElem?_cons_succ, getV_some, bnd_some, u, o_add, ca, cb, cc, List.append_nil]
      exact hq _)
  refine ⟨some (.lst ((seenL side m).map Dt.int)), rest ++ [.lst ((pbs (2 * i + side) (2 * j) 1 (maxL (seenL side m)) (minL (seenL side m))).map trip)] ++ [.lst ((pbs (2 * i + side) (2 * j + 1) 3 (maxL (seenL side m)) (minL (seenL side m))).map trip)], ?_⟩
  unfold sideB
  rw [← List.append_assoc]
  simp only [L_set_bounds_1, q_sSeq, q_sSet, q_eComp, q_iLst, q_call, q_aCons, q_aNil, q_eV, List.getElem?_cons_zero, List.getElem?_cons_succ, getV_some, bnd_some, List.append_nil, ew, seqK_lst, cap_none, cap_some, cap_nil, Option.join, Option.bind_some, id, ek, List.set_cons_succ, List.set_cons_zero, sqK_nx, q_sDrop, q_extend, x1, x2]
theorem sideB_len (i j side m : Nat) : (sideB i j side m).length ≤ 4 := by
  unfold sideB
  rw [List.length_append]
  have h1 := pbs_len (2 * i + side) (2 * j) 1 (maxL (seenL side m)) (minL (seenL side m))
  have h2 := pbs_len (2 * i + side) (2 * j + 1) 3 (maxL (seenL side m)) (minL (seenL side m))
  omega
def setB (i m j : Nat) : List Bd := sideB i j 0 m ++ sideB i j 1 m
theorem e_set_bounds (i m j : Nat) (hi : i ≤ 1000) (hj : j ≤ 1000) (hm : waysL m ≠ []) (h : HI) : ∃ rest, F_set_bounds [.int (i : Nat), .int (m : Nat), .int (j : Nat)] h = some (.ref h.length, h ++ .lst ((setB i m j).map trip) :: rest) := by
  obtain ⟨y1, r1, e1⟩ := side_body i j m 0 (.inl rfl) hi hj hm h [] (by simp) [] none
  obtain ⟨y2, r2, e2⟩ := side_body i j m 1 (.inr rfl) hi hj hm h (sideB i j 0 m) (by have := sideB_len i j 0 m; omega) r1 y1
  have er : r1K (.int 2, h ++ [.lst []]) = some (.vals [.int 0, .int 1], h ++ [.lst []]) := by
    rw [r1K_int (by decide) (by decide)]
    rfl
  refine ⟨r2, ?_⟩
  have e1' : L_set_bounds_1 [some (.int (i : Nat)), some (.int (m : Nat)), some (.int (j : Nat)), some (.ref h.length), some (.int 0), none] (h ++ [.lst []]) = some (.nx [some (.int (i : Nat)), some (.int (m : Nat)), some (.int (j : Nat)), some (.ref h.length), some (.int 0), y1] (h ++ .lst ((sideB i j 0 m).map trip) :: r1)) := e1
  have e2' : L_set_bounds_1 [some (.int (i : Nat)), some (.int (m : Nat)), some (.int (j : Nat)), some (.ref h.length), some (.int 1), y1] (h ++ .lst ((sideB i j 0 m).map trip) :: r1) = some (.nx [some (.int (i : Nat)), some (.int (m : Nat)), some (.int (j : Nat)), some (.ref h.length), some (.int 1), y2] (h ++ .lst ((setB i m j).map trip) :: r2)) := e2
  simp [F_set_bounds, B_set_bounds, er, walkL, e1', e2']
theorem e_length_bounds (i : Nat) (lo hi : Int) {g : Nat} (hg : g ≤ 1000) (h : HI) : F_length_bounds [.tup [.int (i : Nat), .int lo, .int hi], .int (g : Nat)] h = some (.ref h.length, h ++ [.lst (([(2 * i, 2 * i + 1, -lo * g), (2 * i + 1, 2 * i, hi * g)] : List Bd).map trip)]) := by
  have u := fun (h : HI) => o_mul (h := h) (i := 2) (j := (i : Int)) (Or.inl ⟨by decide, by decide⟩)
  have v := fun (x : Int) (h : HI) => o_mul (h := h) (i := x) (j := (g : Int)) (Or.inr ⟨by omega, by omega⟩)
  simp [F_length_bounds, B_length_bounds, u, v, trip]
end G
namespace G
open PySem PySem.Spec PyProof.Rows L2 SM
def pairD (p : Nat × Nat) : Dt := .tup [.int (p.1 : Nat), .int (p.2 : Nat)]
def pairsTo (c : Nat) (n : Nat) : List (Nat × Nat) := (List.range n).flatMap fun i => (List.range (c - i - 1)).map fun k => (i, i + 1 + k)
def pairsL (c : Nat) : List (Nat × Nat) := pairsTo c c
theorem pairs_len (c n : Nat) : (pairsTo c n).length ≤ n * c := by
  induction n with
  | zero => simp [pairsTo]
  | succ n ih =>
    have : pairsTo c (n + 1) = pairsTo c n ++ (List.range (c - n - 1)).map fun k => (n, n + 1 + k) := by
      unfold pairsTo
      rw [List.range_succ, List.flatMap_append]
      simp
    rw [this, List.length_append, List.length_map, List.length_range, Nat.succ_mul]
    omega
end G
namespace G
open PySem PySem.Spec PyProof.Rows L2 SM
theorem e_pairs_of {c : Nat} (hc : c ≤ 1000) (h : HI) : F_pairs_of [.int (c : Nat)] h = some (.ref h.length, h ++ [.lst ((pairsL c).map pairD)]) := by
  have er := r1K_int (h := h ++ [.lst []]) (show (-(2 ^ 62) : Int) ≤ (c : Int) by omega) (show (c : Int) < 2 ^ 62 by omega)
  simp only [Int.toNat_natCast] at er
  have hcc : c * c ≤ 1000 * 1000 := Nat.mul_le_mul hc hc
  obtain ⟨l', h', e, ⟨y, z, rfl⟩, rfl⟩ := walk_range (i := 2) (body := L_pairs_of_1) (fun (k : Nat) => Dt.int (k : Int)) (fun (n : Nat) l h' => (∃ y z, l = [some (.int (c : Nat)), some (.ref h.length), y, z]) ∧ h' = h ++ [.lst ((pairsTo c n).map pairD)]) c (by
    rintro n hn l h1 ⟨⟨y, z, rfl⟩, rfl⟩
    have hl := pairs_len c n
    have hnc : n * c ≤ c * c := Nat.mul_le_mul_right _ (by omega)
    obtain ⟨l', h', e, ⟨y, rfl⟩, rfl⟩ := walk_range (i := 3) (body := L_pairs_of_0) (fun (k : Nat) => Dt.int ((n : Int) + 1 + (k : Int))) (fun (m : Nat) l h' => (∃ y, l = [some (.int (c : Nat)), some (.ref h.length), some (.int (n : Nat)), y]) ∧ h' = h ++ [.lst ((pairsTo c n ++ (List.range m).map fun k => (n, n + 1 + k)).map pairD)]) (c - n - 1) (by
      rintro m hm l h1 ⟨⟨y, rfl⟩, rfl⟩
      refine ⟨.nx [some (.int (c : Nat)), some (.ref h.length), some (.int (n : Nat)), some (.int ((n : Int) + 1 + (m : Int)))] (h ++ [.lst ((pairsTo c n ++ (List.range (m + 1)).map fun k => (n, n + 1 + k)).map pairD)]), ?_, ⟨_, rfl⟩, rfl⟩
      have ea := fun (l : LI) (g : RE) (d : Dt) (eg : g l (h ++ [.lst ((pairsTo c n ++ (List.range m).map fun k => (n, n + 1 + k)).map pairD)]) = some (d, h ++ [.lst ((pairsTo c n ++ (List.range m).map fun k => (n, n + 1 + k)).map pairD)])) =>
        appK_ref (h := h ++ [.lst ((pairsTo c n ++ (List.range m).map fun k => (n, n + 1 + k)).map pairD)]) (l := l) (n := h.length) (ys := (pairsTo c n ++ (List.range m).map fun k => (n, n + 1 + k)).map pairD) (xs := (pairsTo c n ++ (List.range m).map fun k => (n, n + 1 + k)).map pairD) (by simp) eg (by simp) (by simp; omega)
      simp only [L_pairs_of_0, q_sDrop, q_append, q_eV, List.set_cons_zero, List.set_cons_succ, List.getElem?_cons_zero, List.getElem?_cons_succ, getV_some, bnd_some]
      rw [ea _ _ (pairD (n, n + 1 + m))]
      · simp only [bnd_some]
        rw [show ∀ (o o' : Ob), (h ++ [o]).set h.length o' = h ++ [o'] by simp]
        simp [List.range_succ]
      · simp [pairD]) [some (.int (c : Nat)), some (.ref h.length), some (.int (n : Nat)), z] (h ++ [.lst ((pairsTo c n).map pairD)]) ⟨⟨z, rfl⟩, by simp⟩
    have er := r2K_int (h := h ++ [.lst ((pairsTo c n).map pairD)]) (i := (n : Int) + 1) (j := (c : Int)) (by omega) (by omega) (by omega) (by omega)
    rw [show ((c : Int) - ((n : Int) + 1)).toNat = c - n - 1 by omega] at er
    have ep : pairsTo c (n + 1) = pairsTo c n ++ (List.range (c - n - 1)).map fun k => (n, n + 1 + k) := by
      unfold pairsTo
      rw [List.range_succ, List.flatMap_append]
      simp
    refine ⟨.nx [some (.int (c : Nat)), some (.ref h.length), some (.int (n : Nat)), y] (h ++ [.lst ((pairsTo c (n + 1)).map pairD)]), ?_, ⟨_, _, rfl⟩, rfl⟩
    · simp only [L_pairs_of_1, q_sFor, q_iR2, q_e2, q_eV, q_eC, List.set_cons_zero, List.set_cons_succ, List.getElem?_cons_zero, List.getElem?_cons_succ, getV_some, bnd_some, o_add, er, forK_vals]
      rw [e, ep]) [some (.int (c : Nat)), some (.ref h.length), none, none] (h ++ [.lst []]) ⟨⟨none, none, rfl⟩, by simp [pairsTo]⟩
  simp only [F_pairs_of, B_pairs_of, q_fn, q_sSeq, q_sSet, q_eNew, q_aNil, List.map_cons, List.map_nil, List.cons_append, List.nil_append, List.length_cons, List.length_nil, if_true, bnd_some, sqK_nx, Nat.reduceAdd, Nat.reduceSub, List.replicate, List.set_cons_zero, List.set_cons_succ, q_sFor, q_iR1, q_eV, List.getElem?_cons_zero, List.getElem?_cons_succ, getV_some, er, forK_vals, size_lit, Nat.zero_le, e, q_sRet, finK_rt]
  rfl
end G
namespace G
open PySem PySem.Spec PyProof.Rows L2 SM BF
abbrev Ln := Nat × Int × Int
def lenD (x : Ln) : Dt := .tup [.int (x.1 : Nat), .int x.2.1, .int x.2.2]
def lenB (g : Nat) (x : Ln) : List Bd := [(2 * x.1, 2 * x.1 + 1, -x.2.1 * g), (2 * x.1 + 1, 2 * x.1, x.2.2 * g)]
def netV (c : Nat) (N : Nat → Nat → Nat) : List Dt := (List.range c).map fun i => .lst ((List.range c).map fun j => .int ((N i j : Nat) : Int))
def ownB (c : Nat) : List Bd := (List.range c).map fun i => (2 * i, 2 * i + 1, -1)
def bndsL (c : Nat) (N : Nat → Nat → Nat) (ls : List Ln) : List Bd := ownB c ++ ls.flatMap (lenB (2 * c + 1)) ++ (pairsL c).flatMap fun p => setB p.1 (N p.1 p.2) p.2
theorem ext_at2 {h : HI} {F G : List Bd} {rest rest2 : List Ob} {l : LI} {g : RE} (c : F.length + G.length ≤ 100000) (eg : g l (h ++ .lst (F.map trip) :: rest) = some (.ref (h ++ .lst (F.map trip) :: rest).length, (h ++ .lst (F.map trip) :: rest) ++ .lst (G.map trip) :: rest2)) :
    extK g l (.ref h.length, h ++ .lst (F.map trip) :: rest) = some (.non, h ++ .lst ((F ++ G).map trip) :: (rest ++ .lst (G.map trip) :: rest2)) := by
  have e0 : (h ++ Ob.lst (F.map trip) :: rest)[h.length]? = some (.lst (F.map trip)) := by simp
  have e1 : ((h ++ Ob.lst (F.map trip) :: rest) ++ Ob.lst (G.map trip) :: rest2)[h.length]? = some (.lst (F.map trip)) := by
    rw [List.getElem?_append_left (by simp)]
    exact e0
  have e2 : ((h ++ Ob.lst (F.map trip) :: rest) ++ Ob.lst (G.map trip) :: rest2)[(h ++ Ob.lst (F.map trip) :: rest).length]? = some (.lst (G.map trip)) := by
    rw [List.getElem?_append_right (Nat.le_refl _), Nat.sub_self]
    rfl
  rw [extK_ref e0 eg e1 e2 (by simp; omega)]
  simp
theorem flat_take {α β : Type} (f : α → List β) {xs : List α} {k : Nat} {x : α} (hx : xs[k]? = some x) : (xs.take (k + 1)).flatMap f = (xs.take k).flatMap f ++ f x := by
  rw [List.take_add_one, hx, List.flatMap_append]
  simp
theorem e_grain (c : Nat) (h : HI) : F_grain [.int (c : Nat)] h = some (.int ((2 * c + 1 : Nat) : Int), h) := by
  have u := fun (h : HI) => o_mul (h := h) (i := 2) (j := (c : Int)) (Or.inl ⟨by decide, by decide⟩)
  simp [F_grain, B_grain, u]
theorem len_loop {c a : Nat} (hc : c ≤ 100) (N : Nat → Nat → Nat) {ls : List Ln} (hl : ls.length ≤ 1000) {h : HI} (da : h[a]? = some (.lst (ls.map lenD))) (x4 : Option Dt) : ∃ y rest, forK (gSet 3) L_bounds_1 [some (.lst (netV c N)), some (.ref a), some (.ref h.length), none, x4] (.rf a, h ++ [.lst ((ownB c).map trip)]) =
    some (.nx [some (.lst (netV c N)), some (.ref a), some (.ref h.length), y, x4] (h ++ .lst ((ownB c ++ ls.flatMap (lenB (2 * c + 1))).map trip) :: rest)) := by
  have alt := (List.getElem?_eq_some_iff.mp da).1
  have nl : (netV c N).length = c := by simp [netV]
  have ol : (ownB c).length = c := by simp [ownB]
  obtain ⟨l', h', e, ⟨y, rfl⟩, rest, rfl, _⟩ := rf_at (i := 3) (n := a) (body := L_bounds_1) lenD (fun k l h' => (∃ y, l = [some (.lst (netV c N)), some (.ref a), some (.ref h.length), y, x4]) ∧ ∃ rest, h' = h ++ .lst ((ownB c ++ (ls.take k).flatMap (lenB (2 * c + 1))).map trip) :: rest ∧ ((ls.take k).flatMap (lenB (2 * c + 1))).length ≤ 2 * k) ls (by
    rintro k l h' ⟨_, rest, rfl, _⟩
    rw [List.getElem?_append_left alt]
    exact da) (by
    rintro k x hx l h' ⟨⟨y, rfl⟩, rest, rfl, hk⟩
    have kl : k < ls.length := (List.getElem?_eq_some_iff.mp hx).1
    have l2 : (lenB (2 * c + 1) x).length = 2 := rfl
    have eb := e_length_bounds x.1 x.2.1 x.2.2 (g := 2 * c + 1) (by omega) (h ++ .lst ((ownB c ++ (ls.take k).flatMap (lenB (2 * c + 1))).map trip) :: rest)
    have x1 := ext_at2 (h := h) (F := ownB c ++ (ls.take k).flatMap (lenB (2 * c + 1))) (G := lenB (2 * c + 1) x) (rest := rest) (rest2 := []) (l := [some (.lst (netV c N)), some (.ref a), some (.ref h.length), some (lenD x), x4]) (g := eCall F_length_bounds [] (aCons (eV 3) (aCons (eCall F_grain [] (aCons (eF1 fLen (eV 0)) (aNil))) (aNil)))) (by rw [List.length_append, ol, l2]; omega) (by
      simp only [q_call, q_aCons, q_aNil, q_F1, q_eV, List.getElem?_cons_zero, List.getElem?_cons_succ, getV_some, bnd_some, f_lenL, nl, e_grain, List.append_nil, lenD]
      exact eb)
    refine ⟨.nx [some (.lst (netV c N)), some (.ref a), some (.ref h.length), some (lenD x), x4] (h ++ .lst ((ownB c ++ (ls.take (k + 1)).flatMap (lenB (2 * c + 1))).map trip) :: (rest ++ [.lst ((lenB (2 * c + 1) x).map trip)])), ?_, ⟨some (lenD x), rfl⟩, rest ++ [.lst ((lenB (2 * c + 1) x).map trip)], rfl, ?_⟩
    · rw [flat_take _ hx, ← List.append_assoc]
      simp only [L_bounds_1, q_sDrop, q_extend, q_eV, List.set_cons_succ, List.set_cons_zero, List.getElem?_cons_zero, List.getElem?_cons_succ, getV_some, bnd_some, x1]
    · rw [flat_take _ hx, List.length_append, l2]
      omega) [some (.lst (netV c N)), some (.ref a), some (.ref h.length), none, x4] (h ++ [.lst ((ownB c).map trip)]) ⟨⟨_, rfl⟩, [], by simp, by simp⟩
  rw [List.take_length] at e
  exact ⟨y, rest, e⟩
theorem set_loop {c b : Nat} (hc : c ≤ 100) {N : Nat → Nat → Nat} (hN : ∀ i j, waysL (N i j) ≠ []) {h : HI} {F : List Bd} (hF : F.length ≤ 3000) {r0 : List Ob} (db : ∀ G : List Bd, ∀ r2 : List Ob, (h ++ .lst (G.map trip) :: (r0 ++ r2))[b]? = some (.lst ((pairsL c).map pairD))) (x1 y3 : Option Dt) (pl : (pairsL c).length ≤ 10000) (pin : ∀ p ∈ pairsL c, p.1 < c ∧ p.2 < c) :
    ∃ y rest, forK (gSet 4) L_bounds_2 [some (.lst (netV c N)), x1, some (.ref h.length), y3, none] (.rf b, h ++ .lst (F.map trip) :: r0) =
    some (.nx [some (.lst (netV c N)), x1, some (.ref h.length), y3, y] (h ++ .lst ((F ++ (pairsL c).flatMap fun p => setB p.1 (N p.1 p.2) p.2).map trip) :: rest)) := by
  obtain ⟨l', h', e, ⟨y, rfl⟩, r2, rfl, _⟩ := rf_at (i := 4) (n := b) (body := L_bounds_2) pairD (fun k l h' => (∃ y, l = [some (.lst (netV c N)), x1, some (.ref h.length), y3, y]) ∧ ∃ r2, h' = h ++ .lst ((F ++ ((pairsL c).take k).flatMap fun p => setB p.1 (N p.1 p.2) p.2).map trip) :: (r0 ++ r2) ∧ (((pairsL c).take k).flatMap fun p => setB p.1 (N p.1 p.2) p.2).length ≤ 8 * k) (pairsL c) (by
    rintro k l h' ⟨_, r2, rfl, _⟩
    exact db _ r2) (by
    rintro k x hx l h' ⟨⟨y, rfl⟩, r2, rfl, hk⟩
    have kl : k < (pairsL c).length := (List.getElem?_eq_some_iff.mp hx).1
    obtain ⟨p1, p2⟩ := pin x (List.mem_of_getElem? hx)
    have l8 : (setB x.1 (N x.1 x.2) x.2).length ≤ 8 := by
      unfold setB
      rw [List.length_append]
      have := sideB_len x.1 x.2 0 (N x.1 x.2)
      have := sideB_len x.1 x.2 1 (N x.1 x.2)
      omega
    obtain ⟨rs, eb⟩ := e_set_bounds x.1 (N x.1 x.2) x.2 (by omega) (by omega) (hN _ _) (h ++ .lst ((F ++ ((pairsL c).take k).flatMap fun p => setB p.1 (N p.1 p.2) p.2).map trip) :: (r0 ++ r2))
    have n1 : (netV c N)[x.1]? = some (.lst ((List.range c).map fun j => .int ((N x.1 j : Nat) : Int))) := by simp [netV, p1]
    have n2 : ((List.range c).map fun j => Dt.int ((N x.1 j : Nat) : Int))[x.2]? = some (.int ((N x.1 x.2 : Nat) : Int)) := by simp [p2]
    have xx := ext_at2 (h := h) (F := F ++ ((pairsL c).take k).flatMap fun p => setB p.1 (N p.1 p.2) p.2) (G := setB x.1 (N x.1 x.2) x.2) (rest := r0 ++ r2) (rest2 := rs) (l := [some (.lst (netV c N)), x1, some (.ref h.length), y3, some (pairD x)]) (g := eCall F_set_bounds [] (aCons (e2 oIx (eV 4) (eC (.int 0))) (aCons (e2 oIx (e2 oIx (eV 0) (e2 oIx (eV 4) (eC (.int 0)))) (e2 oIx (eV 4) (eC (.int 1)))) (aCons (e2 oIx (eV 4) (eC (.int 1))) (aNil))))) (by rw [List.length_append]; omega) (by
      simp only [q_call, q_aCons, q_aNil, q_e2, q_eC, q_eV, List.getElem?_cons_zero, List.getElem?_cons_succ, getV_some, bnd_some, pairD, o_ixT, atI_0, atI_1, Option.map_some, o_ixL, SM.atI_nat, n1, n2, List.append_nil]
      exact eb)
    refine ⟨.nx [some (.lst (netV c N)), x1, some (.ref h.length), y3, some (pairD x)] (h ++ .lst ((F ++ ((pairsL c).take (k + 1)).flatMap fun p => setB p.1 (N p.1 p.2) p.2).map trip) :: (r0 ++ (r2 ++ .lst ((setB x.1 (N x.1 x.2) x.2).map trip) :: rs))), ?_, ⟨_, rfl⟩, _, rfl, ?_⟩
    · rw [flat_take _ hx, ← List.append_assoc, ← List.append_assoc]
      simp only [L_bounds_2, q_sDrop, q_extend, q_eV, List.set_cons_succ, List.set_cons_zero, List.getElem?_cons_zero, List.getElem?_cons_succ, getV_some, bnd_some, xx]
    · rw [flat_take _ hx, List.length_append]
      omega) [some (.lst (netV c N)), x1, some (.ref h.length), y3, none] (h ++ .lst (F.map trip) :: r0) ⟨⟨_, rfl⟩, [], by simp, by simp⟩
  rw [List.take_length] at e
  exact ⟨y, _, e⟩
theorem pairs_in {c : Nat} {p : Nat × Nat} (h : p ∈ pairsL c) : p.1 < c ∧ p.2 < c := by
  unfold pairsL pairsTo at h
  obtain ⟨i, hi, h⟩ := List.mem_flatMap.mp h
  obtain ⟨k, hk, rfl⟩ := List.mem_map.mp h
  have := List.mem_range.mp hi
  have := List.mem_range.mp hk
  exact ⟨by omega, by show i + 1 + k < c; omega⟩
theorem e_bounds {c a : Nat} (hc : c ≤ 100) {N : Nat → Nat → Nat} (hN : ∀ i j, waysL (N i j) ≠ []) {ls : List Ln} (hl : ls.length ≤ 1000) {h : HI} (da : h[a]? = some (.lst (ls.map lenD))) :
    ∃ rest, F_bounds [.lst (netV c N), .ref a] h = some (.ref h.length, h ++ .lst ((bndsL c N ls).map trip) :: rest) := by
  have nl : (netV c N).length = c := by simp [netV]
  have er := r1K_int (h := h) (show (-(2 ^ 62) : Int) ≤ (c : Int) by omega) (show (c : Int) < 2 ^ 62 by omega)
  simp only [Int.toNat_natCast] at er
  have u := fun (i : Int) (h : HI) => o_mul (h := h) (i := 2) (j := i) (Or.inl ⟨by decide, by decide⟩)
  have ec := compV_all (te := E_bounds_0) (tc := tTrue) (i := 0) (fun (k : Nat) => Dt.int (k : Int)) (fun k => trip (2 * k, 2 * k + 1, -1)) h (List.range c) [none] (by
    intro k _
    exact ⟨by simp, by simp [E_bounds_0, u, trip]⟩)
  have ek := compK_vals (l := [none]) (h := h) (gSet 0) tTrue E_bounds_0 (xs := (List.range c).map fun (k : Nat) => Dt.int (k : Int)) (by simp; omega)
  rw [ec] at ek
  have eo : (List.range c).map (fun k => trip (2 * k, 2 * k + 1, -1)) = (ownB c).map trip := by unfold ownB; rw [List.map_map]; rfl
  rw [eo] at ek
  obtain ⟨y, r0, e1⟩ := len_loop hc N hl da none
  have alt := (List.getElem?_eq_some_iff.mp da).1
  have da' : (h ++ [Ob.lst ((ownB c).map trip)])[a]? = some (.lst (ls.map lenD)) := by rw [List.getElem?_append_left alt]; exact da
  have ep := e_pairs_of (c := c) (by omega) (h ++ .lst ((ownB c ++ ls.flatMap (lenB (2 * c + 1))).map trip) :: r0)
  have fl : (ls.flatMap (lenB (2 * c + 1))).length ≤ 2 * ls.length := by
    clear e1 ep da da' ek
    induction ls with
    | nil => simp
    | cons x ls ih =>
      rw [List.flatMap_cons, List.length_append, List.length_cons]
      have : (lenB (2 * c + 1) x).length = 2 := rfl
      have := ih (by simp at hl; omega)
      omega
  have pl : (pairsL c).length ≤ 10000 := by
    have := pairs_len c c
    have h2 : c * c ≤ 100 * 100 := Nat.mul_le_mul hc hc
    unfold pairsL
    omega
  obtain ⟨y4, rest, e2⟩ := set_loop (b := (h ++ Ob.lst ((ownB c ++ ls.flatMap (lenB (2 * c + 1))).map trip) :: r0).length) hc hN (h := h) (F := ownB c ++ ls.flatMap (lenB (2 * c + 1))) (by simp [ownB] at fl ⊢; omega) (r0 := r0 ++ [.lst ((pairsL c).map pairD)]) (fun G r2 => by
    have : h ++ Ob.lst (G.map trip) :: (r0 ++ [Ob.lst ((pairsL c).map pairD)] ++ r2) = (h ++ Ob.lst (G.map trip) :: r0) ++ Ob.lst ((pairsL c).map pairD) :: r2 := by simp
    rw [this, List.getElem?_append_right (by simp)]
    simp) (some (.ref a)) y pl (fun p hp => pairs_in hp)
  refine ⟨rest, ?_⟩
  have es : (h ++ Ob.lst ((ownB c ++ ls.flatMap (lenB (2 * c + 1))).map trip) :: r0) ++ [Ob.lst ((pairsL c).map pairD)] = h ++ Ob.lst ((ownB c ++ ls.flatMap (lenB (2 * c + 1))).map trip) :: (r0 ++ [Ob.lst ((pairsL c).map pairD)]) := by simp
  rw [es] at ep
  have sk := seqK_ref (h := h ++ Ob.lst ((ownB c ++ ls.flatMap (lenB (2 * c + 1))).map trip) :: (r0 ++ [Ob.lst ((pairsL c).map pairD)])) (n := (h ++ Ob.lst ((ownB c ++ ls.flatMap (lenB (2 * c + 1))).map trip) :: r0).length) (xs := (pairsL c).map pairD) (by
    rw [← es, List.getElem?_append_right (Nat.le_refl _), Nat.sub_self]
    rfl)
  unfold bndsL
  simp only [F_bounds, B_bounds, q_fn, List.length_cons, List.length_nil, if_true, List.map_cons, List.map_nil, Nat.reduceAdd, Nat.reduceSub, List.replicate, List.cons_append, List.nil_append, q_sSeq, q_sSet, q_eCompN, q_iR1, q_F1, q_eV, List.getElem?_cons_zero, List.getElem?_cons_succ, getV_some, bnd_some, f_lenL, nl, er, cap_none, cap_nil, ek, List.set_cons_succ, List.set_cons_zero, sqK_nx, q_sFor, q_iLst, seqK_ref da', e1, q_call, q_aCons, q_aNil, List.append_nil, ep, sk, e2, q_sRet, finK_rt]
end G
namespace G
open PySem PySem.Spec PyProof.Rows L2 SM BF
theorem ways_one : ∀ w : Nat, w < 13 → waysL (2 ^ w) = [w] := by decide +kernel
theorem pz_idx : ∀ p ∈ pairsN, pz (pairsN.idxOf p) = p := by decide +kernel
theorem pz_way {s o : Int × Int} (h1 : okS s) (h2 : okS o) : pz (wayOf s o) = (zone s.1 o.1 o.2, zone s.2 o.1 o.2) := pz_idx _ (pairs_mem h1 h2)
theorem seen_way {s o : Int × Int} (h1 : okS s) (h2 : okS o) (side : Nat) : seenL side (2 ^ wayOf s o) = [if side = 0 then ((zone s.1 o.1 o.2 : Nat) : Int) else ((zone s.2 o.1 o.2 : Nat) : Int)] := by
  unfold seenL
  rw [ways_one _ (wayOf_lt h1 h2)]
  simp only [List.map_cons, List.map_nil, zs, pz_way h1 h2]
def ptB (p j : Nat) (z : Int) : List Bd := pbs p (2 * j) 1 z z ++ pbs p (2 * j + 1) 3 z z
theorem side_way {s o : Int × Int} (h1 : okS s) (h2 : okS o) (i j side : Nat) : sideB i j side (2 ^ wayOf s o) = ptB (2 * i + side) j (if side = 0 then ((zone s.1 o.1 o.2 : Nat) : Int) else ((zone s.2 o.1 o.2 : Nat) : Int)) := by
  unfold sideB ptB
  rw [seen_way h1 h2 side]
  rfl
theorem pt_order {t : Nat → Int} {p j : Nat} {x a b : Int} (hab : a < b) (h : ∀ e ∈ ptB p j ((zone x a b : Nat) : Int), Sat t e) :
    (x < a → t p < t (2 * j)) ∧ (x = a → t p = t (2 * j)) ∧ (a < x → t (2 * j) < t p) ∧ (x < b → t p < t (2 * j + 1)) ∧ (x = b → t p = t (2 * j + 1)) ∧ (b < x → t (2 * j + 1) < t p) := by
  have hc : (x < a ∧ zone x a b = 0) ∨ (x = a ∧ zone x a b = 1) ∨ (a < x ∧ x < b ∧ zone x a b = 2) ∨ (x = b ∧ zone x a b = 3) ∨ (b < x ∧ zone x a b = 4) := by
    unfold zone
    by_cases c1 : x < a
    · exact .inl ⟨c1, if_pos c1⟩
    · by_cases c2 : x = a
      · exact .inr (.inl ⟨c2, by rw [if_neg c1, if_pos c2]⟩)
      · by_cases c3 : x < b
        · exact .inr (.inr (.inl ⟨by omega, c3, by rw [if_neg c1, if_neg c2, if_pos c3]⟩))
        · by_cases c4 : x = b
          · exact .inr (.inr (.inr (.inl ⟨c4, by rw [if_neg c1, if_neg c2, if_neg c3, if_pos c4]⟩)))
          · exact .inr (.inr (.inr (.inr ⟨by omega, by rw [if_neg c1, if_neg c2, if_neg c3, if_neg c4]⟩)))
  rcases hc with ⟨c, z⟩ | ⟨c, z⟩ | ⟨c, c', z⟩ | ⟨c, z⟩ | ⟨c, z⟩ <;> rw [z] at h <;> simp [ptB, pbs, Sat] at h <;> refine ⟨fun _ => ?_, fun _ => ?_, fun _ => ?_, fun _ => ?_, fun _ => ?_, fun _ => ?_⟩ <;> omega
theorem pt_keeps {p j : Nat} {T : Nat → Int} {g : Int} (hg : 1 ≤ g) (hab : T (2 * j) < T (2 * j + 1)) : ∀ e ∈ ptB p j ((zone (T p) (T (2 * j)) (T (2 * j + 1)) : Nat) : Int), g * T e.1 - g * T e.2.1 ≤ e.2.2 := by
  have lt : ∀ x y : Int, x < y → g * x - g * y ≤ -1 := fun x y h => by
    rw [← Int.mul_sub]
    have h1 : g * (x - y) ≤ g * (-1) := Int.mul_le_mul_of_nonneg_left (by omega) (by omega)
    omega
  have eq : ∀ x y : Int, x = y → g * x - g * y ≤ 0 := fun x y h => by rw [h]; omega
  intro e he
  generalize ex : T p = x at he
  have l1 := lt x (T (2 * j))
  have l2 := lt (T (2 * j)) x
  have l3 := lt x (T (2 * j + 1))
  have l4 := lt (T (2 * j + 1)) x
  have q1 := eq x (T (2 * j))
  have q2 := eq (T (2 * j)) x
  have q3 := eq x (T (2 * j + 1))
  have q4 := eq (T (2 * j + 1)) x
  unfold ptB pbs zone at he
  by_cases c1 : x < T (2 * j)
  · have c2 : x < T (2 * j + 1) := by omega
    simp [c1] at he
    rcases he with rfl | rfl
    · simp only [ex]; exact l1 c1
    · simp only [ex]; exact l3 c2
  · by_cases c2 : x = T (2 * j)
    · simp [c1, c2] at he
      rcases he with rfl | rfl | rfl
      · simp only [ex]; exact q1 c2
      · simp only [ex]; exact q2 c2.symm
      · simp only [ex]; exact l3 (by omega)
    · by_cases c3 : x < T (2 * j + 1)
      · simp [c1, c2, c3] at he
        rcases he with rfl | rfl
        · simp only [ex]; exact l2 (by omega)
        · simp only [ex]; exact l3 c3
      · by_cases c4 : x = T (2 * j + 1)
        · have n1 : ¬ (T (2 * j + 1) < T (2 * j)) := by omega
          have n2 : ¬ (T (2 * j + 1) = T (2 * j)) := by omega
          subst c4
          simp [n1, n2] at he
          rcases he with rfl | rfl | rfl
          · simp only [ex]; exact l2 (by omega)
          · simp only [ex]; exact q3 rfl
          · simp only [ex]; exact q4 rfl
        · simp [c1, c2, c3, c4] at he
          rcases he with rfl | rfl
          · simp only [ex]; exact l2 (by omega)
          · simp only [ex]; exact l4 (by omega)
end G
namespace G
open PySem PySem.Spec PyProof.Rows L2 SM BF
theorem no_ring {n : Nat} {told : List Bd} {b : Nat → Int} {c : Nat → Option Nat} {P k : Nat} (hb : ∀ e ∈ told, b e.1 - b e.2.1 ≤ e.2.2) (R : Ring n (tabB told) (wOf told) c P k) : False := by
  have h1 : ∀ i, i ≤ k → b P - b (itr (nxt c) i P) ≤ ((List.range i).map fun m => wOf told (itr (nxt c) m P) (itr (nxt c) (m + 1) P)).sum := by
    intro i
    induction i with
    | zero => intro _; show b P - b P ≤ 0; omega
    | succ i ih =>
      intro hi
      have h2 := ih (by omega)
      have h3 := hb _ ((tab_of told).mem _ (R.edge i (by omega)).1)
      rw [List.range_succ, List.map_append, List.sum_append]
      simp only [List.map_cons, List.map_nil, List.sum_cons, List.sum_nil, Int.add_zero] at h3 ⊢
      omega
  have h2 := h1 k (Nat.le_refl _)
  rw [R.back] at h2
  have := R.sum
  omega
end G
namespace G
open PySem PySem.Spec PyProof.Rows L2 SM BF
theorem rfg_inv {α : Type} {bd : RG} {n : Nat} {body : RS} (D : α → Dt) (I : LI → HI → Prop) (xs : List α) (hI : ∀ l h, I l h → h[n]? = some (.lst (xs.map D)))
    (H : ∀ x ∈ xs, ∀ l h, I l h → ∃ l1 r, bd (D x) l = some l1 ∧ body l1 h = some r ∧ Pass I r) : ∀ l h, I l h → ∃ l' h', forK bd body l (.rf n, h) = some (.nx l' h') ∧ I l' h' := by
  have go : ∀ (f k : Nat) (l : LI) (h : HI), I l h → f = xs.length - k + 1 → k ≤ xs.length → ∃ l' h', forL bd body (.rf n) f k l h = some (.nx l' h') ∧ I l' h' := by
    intro f
    induction f with
    | zero => intro k l h _ e; omega
    | succ f ih =>
      intro k l h i hf hk
      have e := hI l h i
      by_cases hlt : k < xs.length
      · obtain ⟨l1, r, e1, e2, p⟩ := H xs[k] (List.getElem_mem hlt) l h i
        have ek : (xs.map D)[k]? = some (D xs[k]) := by rw [List.getElem?_map, List.getElem?_eq_getElem hlt]; rfl
        have eu : forL bd body (.rf n) (f + 1) k l h = bnd (body l1 h) (stK (forL bd body (.rf n) f (k + 1))) := by
          simp only [forL, Src.at, e, ek, e1, Option.bind_some]
          cases body l1 h with
          | none => rfl
          | some r => cases r <;> rfl
        rw [eu, e2, bnd_some]
        cases r with
        | nx l2 h2 => exact ih (k + 1) l2 h2 p (by omega) hlt
        | ct l2 h2 => exact ih (k + 1) l2 h2 p (by omega) hlt
        | bk l2 h2 => exact p.elim
        | rt d h2 => exact p.elim
      · have ek : (xs.map D)[k]? = none := List.getElem?_eq_none (by rw [List.length_map]; omega)
        exact ⟨l, h, by simp only [forL, Src.at, e, ek], i⟩
  intro l h i
  have e := hI l h i
  obtain ⟨l', h', e1, e2⟩ := go (xs.length + 1) 0 l h i (by omega) (Nat.zero_le _)
  refine ⟨l', h', ?_, e2⟩
  show forL bd body (.rf n) (Src.fuel (.rf n) h) 0 l h = _
  have ef : Src.fuel (.rf n) h = xs.length + 1 := by simp only [Src.fuel, e, List.length_map]
  rw [ef]
  exact e1
theorem min_shift {n : Nat} (hn : 1 ≤ n) (t : Nat → Int) : (List.range n).map (shiftT n t) ≠ [] ∧ minL ((List.range n).map (shiftT n t)) = 0 := by
  have ne : ∀ g : Nat → Int, (List.range n).map g ≠ [] := fun g z => by
    have := congrArg List.length z
    simp at this
    omega
  refine ⟨ne _, ?_⟩
  obtain ⟨a1, a2⟩ := minL_spec _ (ne t)
  obtain ⟨b1, b2⟩ := minL_spec _ (ne (shiftT n t))
  obtain ⟨i, hi, e⟩ := List.mem_map.mp a1
  obtain ⟨j, hj, e'⟩ := List.mem_map.mp b1
  have c1 := b2 (shiftT n t i) (List.mem_map_of_mem hi)
  have c2 := a2 (t j) (List.mem_map_of_mem hj)
  have d1 : shiftT n t i = 0 := by unfold shiftT; rw [e]; omega
  have d2 : shiftT n t j = t j - minL ((List.range n).map t) := rfl
  omega
end G
namespace G
open PySem PySem.Spec PyProof.Rows L2 SM BF
theorem compK_rfv {α : Type} {te : RE} {i n : Nat} (D F : α → Dt) (xs : List α) (l : LI) (h : HI) (e : h[n]? = some (.lst (xs.map D))) (hx : xs.length < sizeLine) (H : ∀ x ∈ xs, te (l.set i (some (D x))) h = some (F x, h)) :
    compK (gSet i) tTrue te l (.rf n, h) = some (xs.map F, h) := by
  have go : ∀ (m k : Nat) (l' : LI), (∀ d, l'.set i d = l.set i d) → m = xs.length - k + 1 → k ≤ xs.length → compL (gSet i) tTrue te (.rf n) m k l' h ((xs.take k).map F) = some (xs.map F, h) := by
    intro m
    induction m with
    | zero => intro k l' _ e; omega
    | succ m ih =>
      intro k l' hl' hm hk
      unfold compL
      simp only [Src.at, e, List.getElem?_map]
      by_cases hlt : k < xs.length
      · rw [List.getElem?_eq_getElem hlt]
        have hx' := H xs[k] (List.getElem_mem hlt)
        have ln : ((xs.take k).map F).length < sizeLine := by rw [List.length_map, List.length_take]; omega
        simp only [Option.map_some, q_gSet, Option.bind_some, q_tTrue, if_true, hl', hx', if_pos ln]
        have := ih (k + 1) (l.set i (some (D xs[k]))) (fun d => by rw [List.set_set]) (by omega) (by omega)
        rw [List.take_add_one, List.getElem?_eq_getElem hlt, List.map_append] at this
        exact this
      · rw [List.getElem?_eq_none (by omega)]
        have : k = xs.length := by omega
        subst this
        simp only [Option.map_none, List.take_length]
  have hf : Src.fuel (.rf n) h = xs.length - 0 + 1 := by simp only [Src.fuel, e, List.length_map]; omega
  unfold compK
  have := go (xs.length - 0 + 1) 0 l (fun _ => rfl) rfl (Nat.zero_le _)
  simp only [hf]
  exact this
def Alike (T t : Nat → Int) (p q : Nat) : Prop := (T p < T q → t p < t q) ∧ (T p = T q → t p = t q) ∧ (T q < T p → t q < t p)
theorem Alike.symm {T t : Nat → Int} {p q : Nat} (h : Alike T t p q) : Alike T t q p := ⟨h.2.2, fun e => (h.2.1 e.symm).symm, h.1⟩
theorem zone_alike {T t : Nat → Int} {p a b : Nat} (h1 : Alike T t p a) (h2 : Alike T t p b) : zone (t p) (t a) (t b) = zone (T p) (T a) (T b) := by
  obtain ⟨a1, a2, a3⟩ := h1
  obtain ⟨b1, b2, b3⟩ := h2
  have c1 : (t p < t a) ↔ (T p < T a) := by
    rcases Int.lt_trichotomy (T p) (T a) with z | z | z
    · have := a1 z; omega
    · have := a2 z; omega
    · have := a3 z; omega
  have c2 : (t p = t a) ↔ (T p = T a) := by
    rcases Int.lt_trichotomy (T p) (T a) with z | z | z
    · have := a1 z; omega
    · have := a2 z; omega
    · have := a3 z; omega
  have d1 : (t p < t b) ↔ (T p < T b) := by
    rcases Int.lt_trichotomy (T p) (T b) with z | z | z
    · have := b1 z; omega
    · have := b2 z; omega
    · have := b3 z; omega
  have d2 : (t p = t b) ↔ (T p = T b) := by
    rcases Int.lt_trichotomy (T p) (T b) with z | z | z
    · have := b1 z; omega
    · have := b2 z; omega
    · have := b3 z; omega
  unfold zone
  simp only [c1, c2, d1, d2]
def ptT (s : Nat → Int × Int) (p : Nat) : Int := if p % 2 = 0 then (s (p / 2)).1 else (s (p / 2)).2
theorem ptT0 (s : Nat → Int × Int) (i : Nat) : ptT s (2 * i) = (s i).1 := by
  unfold ptT
  rw [if_pos (by omega), show 2 * i / 2 = i by omega]
theorem ptT1 (s : Nat → Int × Int) (i : Nat) : ptT s (2 * i + 1) = (s i).2 := by
  unfold ptT
  rw [if_neg (by omega), show (2 * i + 1) / 2 = i by omega]
def netW (s : Nat → Int × Int) (i j : Nat) : Nat := 2 ^ wayOf (s i) (s j)
theorem side_pt {s : Nat → Int × Int} (ok : ∀ i, okS (s i)) (i j side : Nat) (hs : side < 2) : sideB i j side (netW s i j) = ptB (2 * i + side) j ((zone (ptT s (2 * i + side)) (ptT s (2 * j)) (ptT s (2 * j + 1)) : Nat) : Int) := by
  unfold netW
  rw [side_way (ok i) (ok j), ptT0, ptT1]
  rcases (show side = 0 ∨ side = 1 by omega) with rfl | rfl
  · rw [Nat.add_zero, ptT0]; rfl
  · rw [ptT1]; rfl
theorem pairs_lt {c : Nat} {p : Nat × Nat} (h : p ∈ pairsL c) : p.1 < p.2 ∧ p.2 < c := by
  unfold pairsL pairsTo at h
  obtain ⟨i, hi, h⟩ := List.mem_flatMap.mp h
  obtain ⟨k, hk, rfl⟩ := List.mem_map.mp h
  have := List.mem_range.mp hi
  have := List.mem_range.mp hk
  exact ⟨by show i < i + 1 + k; omega, by show i + 1 + k < c; omega⟩
theorem pairs_all {c i j : Nat} (h1 : i < j) (h2 : j < c) : (i, j) ∈ pairsL c := by
  unfold pairsL pairsTo
  refine List.mem_flatMap.mpr ⟨i, List.mem_range.mpr (by omega), List.mem_map.mpr ⟨j - i - 1, List.mem_range.mpr (by omega), ?_⟩⟩
  rw [show i + 1 + (j - i - 1) = j by omega]
def LenOk (c : Nat) (s : Nat → Int × Int) (x : Ln) : Prop := x.1 < c ∧ x.2.1 ≤ (s x.1).2 - (s x.1).1 ∧ (s x.1).2 - (s x.1).1 ≤ x.2.2
theorem pbs_of {p q : Nat} {a mx mn : Int} {e : Bd} (h : e ∈ pbs p q a mx mn) : (e.1 = p ∧ e.2.1 = q) ∨ (e.1 = q ∧ e.2.1 = p) := by
  unfold pbs at h
  rcases List.mem_append.mp h with h | h
  · split at h
    · rw [List.mem_singleton.mp h]; exact .inl ⟨rfl, rfl⟩
    · exact nomatch h
  · split at h
    · rw [List.mem_singleton.mp h]; exact .inr ⟨rfl, rfl⟩
    · exact nomatch h
end G
namespace G
open PySem PySem.Spec PyProof.Rows L2 SM BF
theorem bnds_keep {c : Nat} {s : Nat → Int × Int} (ok : ∀ i, okS (s i)) {ls : List Ln} (hl : ∀ x ∈ ls, LenOk c s x) : ∀ e ∈ bndsL c (netW s) ls, ((2 * c + 1 : Nat) : Int) * ptT s e.1 - ((2 * c + 1 : Nat) : Int) * ptT s e.2.1 ≤ e.2.2 := by
  intro e he
  unfold bndsL at he
  have hg : (1 : Int) ≤ ((2 * c + 1 : Nat) : Int) := by omega
  generalize 2 * c + 1 = g at he hg
  rcases List.mem_append.mp he with he | he
  · rcases List.mem_append.mp he with he | he
    · obtain ⟨i, _, rfl⟩ := List.mem_map.mp he
      simp only [ptT0, ptT1]
      have := ok i
      unfold okS at this
      rw [← Int.mul_sub]
      have h1 : (g : Int) * ((s i).1 - (s i).2) ≤ g * (-1) := Int.mul_le_mul_of_nonneg_left (by omega) (by omega)
      omega
    · obtain ⟨x, hx, he⟩ := List.mem_flatMap.mp he
      obtain ⟨h1, h2, h3⟩ := hl x hx
      unfold lenB at he
      have a1 : (g : Int) * ((s x.1).1 - (s x.1).2) ≤ g * (-x.2.1) := Int.mul_le_mul_of_nonneg_left (by omega) (by omega)
      have a2 : (g : Int) * ((s x.1).2 - (s x.1).1) ≤ g * x.2.2 := Int.mul_le_mul_of_nonneg_left (by omega) (by omega)
      simp only [List.mem_cons, List.not_mem_nil, or_false] at he
      rcases he with rfl | rfl
      · simp only [ptT0, ptT1]
        rw [← Int.mul_sub, Int.mul_comm (-x.2.1)]
        exact a1
      · simp only [ptT0, ptT1]
        rw [← Int.mul_sub, Int.mul_comm x.2.2]
        exact a2
  · obtain ⟨p, hp, he⟩ := List.mem_flatMap.mp he
    have hab : ptT s (2 * p.2) < ptT s (2 * p.2 + 1) := by rw [ptT0, ptT1]; exact ok _
    unfold setB at he
    rcases List.mem_append.mp he with he | he
    · rw [side_pt ok _ _ 0 (by omega)] at he
      exact pt_keeps hg hab e he
    · rw [side_pt ok _ _ 1 (by omega)] at he
      exact pt_keeps hg hab e he
theorem side_of {i j side m : Nat} {e : Bd} (h : e ∈ sideB i j side m) : ∃ z : Nat, z < 2 ∧ ((e.1 = 2 * i + side ∧ e.2.1 = 2 * j + z) ∨ (e.1 = 2 * j + z ∧ e.2.1 = 2 * i + side)) := by
  unfold sideB at h
  rcases List.mem_append.mp h with h | h
  · exact ⟨0, by omega, pbs_of h⟩
  · exact ⟨1, by omega, pbs_of h⟩
theorem bnds_lt {c : Nat} (N : Nat → Nat → Nat) {ls : List Ln} (hl : ∀ x ∈ ls, x.1 < c) : ∀ e ∈ bndsL c N ls, e.1 < 2 * c ∧ e.2.1 < 2 * c ∧ e.1 ≠ e.2.1 := by
  intro e he
  unfold bndsL at he
  rcases List.mem_append.mp he with he | he
  · rcases List.mem_append.mp he with he | he
    · obtain ⟨i, hi, rfl⟩ := List.mem_map.mp he
      have := List.mem_range.mp hi
      refine ⟨?_, ?_, ?_⟩ <;> simp only <;> omega
    · obtain ⟨x, hx, he⟩ := List.mem_flatMap.mp he
      have := hl x hx
      unfold lenB at he
      simp only [List.mem_cons, List.not_mem_nil, or_false] at he
      rcases he with rfl | rfl
      · refine ⟨?_, ?_, ?_⟩ <;> simp only <;> omega
      · refine ⟨?_, ?_, ?_⟩ <;> simp only <;> omega
  · obtain ⟨p, hp, he⟩ := List.mem_flatMap.mp he
    obtain ⟨h1, h2⟩ := pairs_lt hp
    unfold setB at he
    rcases List.mem_append.mp he with he | he
    · obtain ⟨z, hz, ⟨a, b⟩ | ⟨a, b⟩⟩ := side_of he
      · rw [a, b]; omega
      · rw [a, b]; omega
    · obtain ⟨z, hz, ⟨a, b⟩ | ⟨a, b⟩⟩ := side_of he
      · rw [a, b]; omega
      · rw [a, b]; omega
theorem flat_len {α β : Type} (f : α → List β) (n : Nat) : ∀ (xs : List α) (_ : ∀ x ∈ xs, (f x).length ≤ n), (xs.flatMap f).length ≤ n * xs.length
  | [], _ => by simp
  | x :: xs, h => by
    have := flat_len f n xs (fun y hy => h y (by simp [hy]))
    have := h x (by simp)
    rw [List.flatMap_cons, List.length_append, List.length_cons, Nat.mul_succ]
    omega
theorem bnds_len {c : Nat} (hc : c ≤ 8) (N : Nat → Nat → Nat) {ls : List Ln} (hl : ls.length ≤ 100) : (bndsL c N ls).length ≤ 1000 := by
  unfold bndsL
  rw [List.length_append, List.length_append]
  have a1 : (ownB c).length = c := by simp [ownB]
  have a2 := flat_len (lenB (2 * c + 1)) 2 ls (fun x _ => Nat.le_refl _)
  have a3 := flat_len (fun p : Nat × Nat => setB p.1 (N p.1 p.2) p.2) 8 (pairsL c) (fun x _ => by
    unfold setB
    rw [List.length_append]
    have := sideB_len x.1 x.2 0 (N x.1 x.2)
    have := sideB_len x.1 x.2 1 (N x.1 x.2)
    omega)
  have a4 := pairs_len c c
  have h2 : c * c ≤ 8 * 8 := Nat.mul_le_mul hc hc
  have a5 : (pairsL c).length ≤ 64 := by unfold pairsL; omega
  omega
theorem all_alike {c : Nat} {s : Nat → Int × Int} (ok : ∀ i, okS (s i)) {ls : List Ln} {t : Nat → Int} (ht : ∀ e ∈ bndsL c (netW s) ls, Sat t e) : ∀ p q, p < 2 * c → q < 2 * c → Alike (ptT s) t p q := by
  have own : ∀ i, i < c → t (2 * i) < t (2 * i + 1) := by
    intro i hi
    have h := ht (2 * i, 2 * i + 1, -1) (List.mem_append.mpr (.inl (List.mem_append.mpr (.inl (List.mem_map.mpr ⟨i, List.mem_range.mpr hi, rfl⟩)))))
    simp only [Sat] at h
    omega
  have two : ∀ i j, i < j → j < c → ∀ side, side < 2 → Alike (ptT s) t (2 * i + side) (2 * j) ∧ Alike (ptT s) t (2 * i + side) (2 * j + 1) := by
    intro i j hij hj side hs
    have hab : ptT s (2 * j) < ptT s (2 * j + 1) := by rw [ptT0, ptT1]; exact ok _
    have h : ∀ e ∈ sideB i j side (netW s i j), Sat t e := by
      intro e he
      refine ht e (List.mem_append.mpr (.inr (List.mem_flatMap.mpr ⟨(i, j), pairs_all hij hj, ?_⟩)))
      unfold setB
      rcases (show side = 0 ∨ side = 1 by omega) with rfl | rfl
      · exact List.mem_append.mpr (.inl he)
      · exact List.mem_append.mpr (.inr he)
    rw [side_pt ok _ _ side hs] at h
    obtain ⟨a1, a2, a3, b1, b2, b3⟩ := pt_order hab h
    exact ⟨⟨a1, a2, a3⟩, ⟨b1, b2, b3⟩⟩
  have lo : ∀ p q, p < 2 * c → q < 2 * c → p / 2 < q / 2 → Alike (ptT s) t p q := by
    intro p q hp hq hpq
    obtain ⟨h1, h2⟩ := two (p / 2) (q / 2) hpq (by omega) (p % 2) (by omega)
    rw [show 2 * (p / 2) + p % 2 = p by omega] at h1 h2
    rcases (show q % 2 = 0 ∨ q % 2 = 1 by omega) with z | z
    · rw [show 2 * (q / 2) = q by omega] at h1; exact h1
    · rw [show 2 * (q / 2) + 1 = q by omega] at h2; exact h2
  intro p q hp hq
  rcases Nat.lt_trichotomy (p / 2) (q / 2) with z | z | z
  · exact lo p q hp hq z
  · have o1 := own (p / 2) (by omega)
    have o2 : ptT s (2 * (p / 2)) < ptT s (2 * (p / 2) + 1) := by rw [ptT0, ptT1]; exact ok _
    rcases (show p % 2 = 0 ∨ p % 2 = 1 by omega) with y | y <;> rcases (show q % 2 = 0 ∨ q % 2 = 1 by omega) with x | x
    · have : p = q := by omega
      subst this
      exact ⟨fun h => absurd h (by omega), fun _ => rfl, fun h => absurd h (by omega)⟩
    · rw [show 2 * (p / 2) = p by omega, show p + 1 = q by omega] at o1 o2
      exact ⟨fun _ => o1, fun h => absurd h (by omega), fun h => absurd h (by omega)⟩
    · rw [show 2 * (p / 2) = q by omega, show q + 1 = p by omega] at o1 o2
      exact ⟨fun h => absurd h (by omega), fun h => absurd h (by omega), fun _ => o1⟩
    · have : p = q := by omega
      subst this
      exact ⟨fun h => absurd h (by omega), fun _ => rfl, fun h => absurd h (by omega)⟩
  · exact (lo q p hq hp z).symm
theorem way_alike {c : Nat} {s : Nat → Int × Int} {t : Nat → Int} (h : ∀ p q, p < 2 * c → q < 2 * c → Alike (ptT s) t p q) {i j : Nat} (hi : i < c) (hj : j < c) : wayOf (t (2 * i), t (2 * i + 1)) (t (2 * j), t (2 * j + 1)) = wayOf (s i) (s j) := by
  unfold wayOf
  simp only
  have h1 := zone_alike (h (2 * i) (2 * j) (by omega) (by omega)) (h (2 * i) (2 * j + 1) (by omega) (by omega))
  have h2 := zone_alike (h (2 * i + 1) (2 * j) (by omega) (by omega)) (h (2 * i + 1) (2 * j + 1) (by omega) (by omega))
  rw [h1, h2]
  simp only [ptT0, ptT1]
theorem len_kept {c : Nat} {s : Nat → Int × Int} {ls : List Ln} {t : Nat → Int} (ht : ∀ e ∈ bndsL c (netW s) ls, Sat t e) {x : Ln} (hx : x ∈ ls) : x.2.1 * ((2 * c + 1 : Nat) : Int) ≤ t (2 * x.1 + 1) - t (2 * x.1) ∧ t (2 * x.1 + 1) - t (2 * x.1) ≤ x.2.2 * ((2 * c + 1 : Nat) : Int) := by
  have h1 := ht (2 * x.1, 2 * x.1 + 1, -x.2.1 * ((2 * c + 1 : Nat) : Int)) (List.mem_append.mpr (.inl (List.mem_append.mpr (.inr (List.mem_flatMap.mpr ⟨x, hx, by simp [lenB]⟩)))))
  have h2 := ht (2 * x.1 + 1, 2 * x.1, x.2.2 * ((2 * c + 1 : Nat) : Int)) (List.mem_append.mpr (.inl (List.mem_append.mpr (.inr (List.mem_flatMap.mpr ⟨x, hx, by simp [lenB]⟩)))))
  simp only [Sat, Int.neg_mul] at h1 h2
  omega
end G
namespace G
open PySem PySem.Spec PyProof.Rows L2 SM BF
theorem e_mixed (x f : Int) (h : HI) : F__law_mixed [.int x, .int f] h = some (.int ((x % 2147483647 + 11) * f % 2147483629), h) := by
  have c : CMul (x % 2147483647 + 11) f := Or.inl ⟨by omega, by omega⟩
  have d1 := fun (i : Int) (h : HI) => o_mod (h := h) (i := i) (show (0 : Int) < 2147483647 by decide)
  have d2 := fun (i : Int) (h : HI) => o_mod (h := h) (i := i) (show (0 : Int) < 2147483629 by decide)
  have d3 := fun (h : HI) => o_mul (h := h) c
  simp only [F__law_mixed, B__law_mixed, q_fn, List.length_cons, List.length_nil, if_true, List.map_cons, List.map_nil, List.replicate, List.cons_append, List.nil_append, q_sRet, q_e2, q_eV, q_eC, List.getElem?_cons_zero, List.getElem?_cons_succ, getV_some, bnd_some, d1, d2, d3, o_add, finK_rt]
theorem cut_ints (ns : List Int) (lo hi : Option Int) : ∃ ms : List Int, cutD (ns.map Dt.int) lo hi = ms.map Dt.int ∧ ms.length ≤ ns.length := by
  unfold SM.cutD
  rw [← List.map_drop, ← List.map_take]
  refine ⟨_, rfl, ?_⟩
  rw [List.length_take, List.length_drop]
  omega
end G
namespace G
open PySem PySem.Spec PyProof.Rows L2 SM
theorem e_cell (ns : List Int) (k : Nat) (h : HI) : F__law_cell_at [.lst (ns.map Dt.int), .int (k : Int)] h = some (.int (ns[k]?.getD 0), h) := by
  simp [F__law_cell_at, B__law_cell_at]
  by_cases hk : k < ns.length
  · simp [hk]
  · simp [hk]
end G
namespace G
open PySem PySem.Spec PyProof.Rows L2 SM
theorem e_whole (i : Int) (h : HI) : F__law_whole [.int i] h = some (.bl true, h) := by simp [F__law_whole, B__law_whole]
end G
namespace G
open PySem PySem.Spec PyProof.Rows L2 SM
theorem e_lzone (t : Int) {a b : Int} (hab : a < b) (h : HI) : F__law_zone [.int t, .tup [.int a, .int b]] h = some (.int (zone t a b), h) := by
  simp [F__law_zone, B__law_zone]
  unfold zone
  repeat' split
  all_goals first | rfl | (exfalso; omega)
theorem e_pairs (h : HI) : F__law_zones [] h = some (.lst (pairsN.map pr), h) := by
  rfl
theorem e_lway {s o : Int × Int} (h1 : okS s) (h2 : okS o) (h : HI) : F__law_way [spanD s, spanD o] h = some (.int (wayOf s o), h) := by
  have hp := idx_pairs _ (pairs_mem h1 h2)
  simp only [pr] at hp
  simp [F__law_way, B__law_way, spanD, e_lzone _ h2, e_pairs, hp.1, hp.2]
  rfl
theorem cShl1 {w : Nat} (h : w < 13) : CPow 1 (w : Int) := ⟨by omega, by omega, by decide⟩
end G
namespace G
open PySem PySem.Spec PyProof.Rows L2 SM BF
def numK (ns : List Int) (k : Nat) : Int := (ns[k + 1]?.getD 0 % 2147483647 + 11) * (48271 + 2 * (k : Int) * (k : Int)) % 2147483629
def spK (ns : List Int) (sc : Int) (k : Nat) : Int × Int := (numK ns k / 7 % 6 * sc, numK ns k / 7 % 6 * sc + (1 + numK ns k / 42 % 4) * sc)
theorem spK_ok (ns : List Int) {sc : Int} (h : 1 ≤ sc) (k : Nat) : okS (spK ns sc k) := by
  unfold okS spK
  have : 0 < (1 + numK ns k / 42 % 4) * sc := Int.mul_pos (by omega) (by omega)
  simp only
  omega
def spansL (s : Nat → Int × Int) (c : Nat) : List Dt := (List.range c).map fun k => spanD (s k)
theorem spans_at {s : Nat → Int × Int} {c k : Nat} (hk : k < c) : (spansL s c)[k]? = some (spanD (s k)) := by simp [spansL, hk]
theorem e_spans (ns : List Int) {c : Nat} (hc : c ≤ 8) (sc : Int) (h : HI) : F__law_spans [.lst (ns.map Dt.int), .int (c : Nat), .int sc] h = some (.ref h.length, h ++ [.lst (spansL (spK ns sc) c)]) := by
  have er := fun h => r1K_int (h := h) (show (-(2 ^ 62) : Int) ≤ (c : Int) by omega) (show (c : Int) < 2 ^ 62 by omega)
  simp only [Int.toNat_natCast] at er
  have m6 := fun (i : Int) (h : HI) => o_mod (h := h) (i := i) (show (0 : Int) < 6 by decide)
  have m4 := fun (i : Int) (h : HI) => o_mod (h := h) (i := i) (show (0 : Int) < 4 by decide)
  have d1 := fun (i : Int) (h : HI) => o_div (h := h) (i := i) (j := 7) ⟨by decide, by decide⟩
  have d2 := fun (i : Int) (h : HI) => o_div (h := h) (i := i) (j := 42) ⟨by decide, by decide⟩
  obtain ⟨l', h', e, ⟨y4, y5, y6, rfl⟩, rfl⟩ := walk_range (i := 4) (body := L__law_spans_0) (fun (k : Nat) => Dt.int (k : Int)) (fun k l h' => (∃ y4 y5 y6, l = [some (.lst (ns.map Dt.int)), some (.int (c : Nat)), some (.int sc), some (.ref h.length), y4, y5, y6]) ∧ h' = h ++ [.lst (spansL (spK ns sc) k)]) c (by
    rintro k hk l h' ⟨⟨y4, y5, y6, rfl⟩, rfl⟩
    have cc := fun h => e_cell ns (k + 1) h
    have ca : (k : Int) + 1 = ((k + 1 : Nat) : Int) := by omega
    have u1 := fun (h : HI) => o_mul (h := h) (i := 2) (j := (k : Int)) (Or.inl ⟨by decide, by decide⟩)
    have u2 := fun (h : HI) => o_mul (h := h) (i := 2 * (k : Int)) (j := (k : Int)) (Or.inl ⟨by omega, by omega⟩)
    have u3 := fun (i : Int) (h : HI) => o_mul (h := h) (i := i % 6) (j := sc) (Or.inl ⟨by omega, by omega⟩)
    have u4 := fun (i : Int) (h : HI) => o_mul (h := h) (i := 1 + i % 4) (j := sc) (Or.inl ⟨by omega, by omega⟩)
    have en : (ns[k + 1]?.getD 0 % 2147483647 + 11) * (48271 + 2 * (k : Int) * (k : Int)) % 2147483629 = numK ns k := rfl
    have dh : (h ++ [Ob.lst (spansL (spK ns sc) k)])[h.length]? = some (.lst (spansL (spK ns sc) k)) := by simp
    refine ⟨.nx [some (.lst (ns.map Dt.int)), some (.int (c : Nat)), some (.int sc), some (.ref h.length), some (.int (k : Nat)), some (.int (numK ns k)), some (.int (numK ns k / 7 % 6 * sc))] (h ++ [.lst (spansL (spK ns sc) (k + 1))]), ?_, ⟨_, _, _, rfl⟩, rfl⟩
    have ap := appK_ref (l := [some (.lst (ns.map Dt.int)), some (.int (c : Nat)), some (.int sc), some (.ref h.length), some (.int (k : Nat)), some (.int (numK ns k)), some (.int (numK ns k / 7 % 6 * sc))]) (h := h ++ [Ob.lst (spansL (spK ns sc) k)]) (g := eTup (aCons (eV 6) (aCons (e2 oAdd (eV 6) (e2 oMul (e2 oAdd (eC (.int 1)) (e2 oMod (e2 oDiv (eV 5) (eC (.int 42))) (eC (.int 4)))) (eV 2))) (aNil)))) (d := spanD (spK ns sc k)) dh (by simp [spK, spanD, d2, m4, u4]) dh (by simp [spansL]; omega)
    have es : (h ++ [Ob.lst (spansL (spK ns sc) k)]).set h.length (.lst (spansL (spK ns sc) k ++ [spanD (spK ns sc k)])) = h ++ [.lst (spansL (spK ns sc) (k + 1))] := by
      have : spansL (spK ns sc) (k + 1) = spansL (spK ns sc) k ++ [spanD (spK ns sc k)] := by
        unfold spansL
        rw [List.range_succ, List.map_append]
        rfl
      rw [this]
      simp
    rw [es] at ap
    simp only [L__law_spans_0, q_sSeq, q_sSet, q_call, q_aCons, q_aNil, q_e2, q_eV, q_eC, List.set_cons_succ, List.set_cons_zero, List.getElem?_cons_zero, List.getElem?_cons_succ, getV_some, bnd_some, o_add, ca, cc, u1, u2, List.append_nil, e_mixed, en, sqK_nx, d1, m6, u3, q_sDrop, q_append, ap]) [some (.lst (ns.map Dt.int)), some (.int (c : Nat)), some (.int sc), some (.ref h.length), none, none, none] (h ++ [.lst []]) ⟨⟨_, _, _, rfl⟩, by simp [spansL]⟩
  simp [F__law_spans, B__law_spans, er, e]
theorem e_net {s : Nat → Int × Int} (ok : ∀ i, okS (s i)) {c a : Nat} (hc : c ≤ 8) {h : HI} (da : h[a]? = some (.lst (spansL s c))) (l : LI) (hl : l[3]? = some (some (.ref a))) : eComp (iLst (eV 3)) (gSet 0) (tTrue) (E_law_1) [none, some 3] l h = some (.lst (netV c (netW s)), h) := by
  have dm : spansL s c = (List.range c).map fun k => spanD (s k) := rfl
  have sz : (List.range c).length < sizeLine := by simp [sizeLine]; omega
  have inner : ∀ i, E_law_1 [some (spanD (s i)), some (.ref a)] h = some (.lst ((List.range c).map fun j => .int ((netW s i j : Nat) : Int)), h) := by
    intro i
    have ck := compK_rfv (te := E_law_0) (i := 0) (fun j => spanD (s j)) (fun j => Dt.int ((netW s i j : Nat) : Int)) (List.range c) [none, some (spanD (s i))] h (dm ▸ da) sz (by
      intro j hj
      have sh := o_shl (h := h) (cShl1 (wayOf_lt (ok i) (ok j)))
      simp only [E_law_0, q_e2, q_eC, q_call, q_aCons, q_aNil, q_eV, List.set_cons_zero, List.getElem?_cons_zero, List.getElem?_cons_succ, getV_some, bnd_some, List.append_nil, e_lway (ok i) (ok j), sh, Int.toNat_natCast, netW]
      simp)
    simp only [E_law_1, q_eComp, q_iLst, q_eV, List.getElem?_cons_zero, List.getElem?_cons_succ, getV_some, bnd_some, seqK_ref da, cap_none, cap_some, cap_nil, Option.join_some, ck]
  have ck := compK_rfv (te := E_law_1) (i := 0) (fun j => spanD (s j)) (fun i => Dt.lst ((List.range c).map fun j => .int ((netW s i j : Nat) : Int))) (List.range c) [none, some (.ref a)] h (dm ▸ da) sz (by
    intro i _
    exact inner i)
  simp only [q_eComp, q_iLst, q_eV, hl, getV_some, bnd_some, seqK_ref da, cap_none, cap_some, cap_nil, Option.join_some, ck]
  rfl
theorem pick4 (i : Int) (a b c d : Int) (ha : 0 ≤ a) (hb : 0 ≤ b) (hc : 0 ≤ c) (hd : 0 ≤ d) : ∃ z, 0 ≤ z ∧ atI [Dt.int a, Dt.int b, Dt.int c, Dt.int d] (i % 4) = some (.int z) := by
  rcases (show i % 4 = 0 ∨ i % 4 = 1 ∨ i % 4 = 2 ∨ i % 4 = 3 by omega) with h | h | h | h <;> rw [h]
  · exact ⟨a, ha, rfl⟩
  · exact ⟨b, hb, rfl⟩
  · exact ⟨c, hc, rfl⟩
  · exact ⟨d, hd, rfl⟩
theorem e_lens (ns : List Int) (hl : ns.length ≤ 63) {s : Nat → Int × Int} (ok : ∀ i, okS (s i)) {sc : Int} (hsc : 1 ≤ sc) {c a : Nat} (hc1 : 1 ≤ c) (hc : c ≤ 8) {h : HI} (da : h[a]? = some (.lst (spansL s c))) :
    ∃ ls : List Ln, ls.length ≤ 63 ∧ (∀ x ∈ ls, LenOk c s x) ∧ F__law_lengths [.lst (ns.map Dt.int), .ref a, .int sc] h = some (.ref h.length, h ++ [.lst (ls.map lenD)]) := by
  obtain ⟨ms, ec, hm⟩ := cut_ints ns (some 10) (some 60)
  have alt := (List.getElem?_eq_some_iff.mp da).1
  have m4 := fun (i : Int) (h : HI) => o_mod (h := h) (i := i) (show (0 : Int) < 4 by decide)
  have mc := fun (i : Int) (h : HI) => o_mod (h := h) (i := i) (show (0 : Int) < (c : Int) by omega)
  have d1 := fun (i : Int) (h : HI) => o_div (h := h) (i := i) (j := 8) ⟨by decide, by decide⟩
  have d2 := fun (i : Int) (h : HI) => o_div (h := h) (i := i) (j := 32) ⟨by decide, by decide⟩
  have p1 := fun (h : HI) => o_pow (h := h) (i := 10) (j := 17) ⟨by decide, by decide, by decide⟩
  have v1 := fun (i : Int) (h : HI) => o_mod (h := h) (i := i) (show (0 : Int) < 10 ^ (17 : Int).toNat by decide)
  have u9 := fun (h : HI) => o_mul (h := h) (i := 9) (j := sc) (Or.inl ⟨by decide, by decide⟩)
  have sl : (spansL s c).length = c := by simp [spansL]
  obtain ⟨l', h', e, ⟨y4, y5, y6, y7, y8, y9, rfl⟩, ls, hlen, hok, rfl⟩ := walk_at (i := 4) (body := L__law_lengths_0) Dt.int (fun k l h' => (∃ y4 y5 y6 y7 y8 y9, l = [some (.lst (ns.map Dt.int)), some (.ref a), some (.int sc), some (.ref h.length), y4, y5, y6, y7, y8, y9]) ∧ ∃ ls : List Ln, ls.length = k ∧ (∀ x ∈ ls, LenOk c s x) ∧ h' = h ++ [.lst (ls.map lenD)]) ms 0 (by
    rintro k x hx l h' ⟨⟨y4, y5, y6, y7, y8, y9, rfl⟩, ls, hk, hok, rfl⟩
    have kl : k < ms.length := (List.getElem?_eq_some_iff.mp hx).1
    obtain ⟨N, hN⟩ := Int.eq_ofNat_of_zero_le (Int.emod_nonneg ((x % 2147483647 + 11) * 69621) (show (2147483629 : Int) ≠ 0 by decide))
    have em : ∀ h, F__law_mixed [.int x, .int 69621] h = some (.int (N : Nat), h) := fun h => by rw [e_mixed, hN]
    have ei : (N : Int) % (c : Int) = ((N % c : Nat) : Int) := by simp
    have hi : N % c < c := Nat.mod_lt _ (by omega)
    generalize N % c = i at ei hi
    obtain ⟨z1, z1p, z1e⟩ := pick4 ((N : Int) / 8) 0 1 sc (9 * sc) (by omega) (by omega) (by omega) (by omega)
    obtain ⟨z2, z2p, z2e⟩ := pick4 ((N : Int) / 32) 0 1 sc (x % 10 ^ (17 : Int).toNat) (by omega) (by omega) (by omega) (Int.emod_nonneg _ (by decide))
    have si := spans_at (s := s) hi
    have sz := ok i
    unfold okS at sz
    have dh : (h ++ [Ob.lst (ls.map lenD)])[h.length]? = some (.lst (ls.map lenD)) := by simp
    have da' : (h ++ [Ob.lst (ls.map lenD)])[a]? = some (.lst (spansL s c)) := by rw [List.getElem?_append_left alt]; exact da
    let y : Ln := (i, max 0 ((s i).2 - (s i).1 - z1), (s i).2 - (s i).1 + z2)
    have ap := appK_ref (l := [some (.lst (ns.map Dt.int)), some (.ref a), some (.int sc), some (.ref h.length), some (.int x), some (.int (N : Nat)), some (.int (i : Nat)), some (.int ((s i).2 - (s i).1)), some (.int (max 0 ((s i).2 - (s i).1 - z1))), some (.int ((s i).2 - (s i).1 + z2))]) (h := h ++ [.lst (ls.map lenD)]) (g := eTup (aCons (eV 6) (aCons (eV 8) (aCons (eV 9) (aNil))))) (d := lenD y) dh (by simp [lenD, y]) dh (by simp; omega)
    have es : (h ++ [Ob.lst (ls.map lenD)]).set h.length (.lst (ls.map lenD ++ [lenD y])) = h ++ [.lst ((ls ++ [y]).map lenD)] := by simp
    rw [es] at ap
    refine ⟨.nx [some (.lst (ns.map Dt.int)), some (.ref a), some (.int sc), some (.ref h.length), some (.int x), some (.int (N : Nat)), some (.int (i : Nat)), some (.int ((s i).2 - (s i).1)), some (.int (max 0 ((s i).2 - (s i).1 - z1))), some (.int ((s i).2 - (s i).1 + z2))] (h ++ [.lst ((ls ++ [y]).map lenD)]), ?_, ⟨_, _, _, _, _, _, rfl⟩, ls ++ [y], by simp; omega, ?_, rfl⟩
    · have i1 := o_ixR da' (i : Int)
      rw [SM.atI_nat, si, Option.map_some] at i1
      have fl := f_lenR da'
      have s4 : ∀ a b c d : Dt, [a, b, c, d].length ≤ sizeLine := fun _ _ _ _ => by simp [sizeLine]
      rw [sl] at fl
      simp only [L__law_lengths_0, q_sSeq, q_sSet, q_call, q_aCons, q_aNil, q_e2, q_eV, q_eC, q_F1, q_F2, q_eLst, List.set_cons_succ, List.set_cons_zero, List.getElem?_cons_zero, List.getElem?_cons_succ, getV_some, bnd_some, List.append_nil, em, sqK_nx, fl, mc, ei, i1, spanD, o_ixT, atI_0, atI_1, Option.map_some, o_sub, u9, d1, d2, m4, p1, v1, s4, if_true, o_ixL, z1e, z2e, f_max2, o_add, q_sDrop, q_append, ap]
    · intro w hw
      rcases List.mem_append.mp hw with hw | hw
      · exact hok w hw
      · rw [List.mem_singleton.mp hw]
        refine ⟨hi, ?_, ?_⟩ <;> simp only [y] <;> omega) [some (.lst (ns.map Dt.int)), some (.ref a), some (.int sc), some (.ref h.length), none, none, none, none, none, none] (h ++ [.lst []]) ⟨⟨_, _, _, _, _, _, rfl⟩, [], rfl, fun _ h => (nomatch h), rfl⟩
  refine ⟨ls, by omega, hok, ?_⟩
  simp [F__law_lengths, B__law_lengths, ec, e]
end G
namespace G
open PySem PySem.Spec PyProof.Rows L2 SM BF
def madeL (u : Nat → Int) (c : Nat) : List Dt := spansL (fun k => (u (2 * k), u (2 * k + 1))) c
theorem k15_ways {c : Nat} (hc : c ≤ 8) {s : Nat → Int × Int} (ok : ∀ i, okS (s i)) {u : Nat → Int} (oku : ∀ i, i < c → u (2 * i) < u (2 * i + 1)) (hw : ∀ i j, i < c → j < c → wayOf (u (2 * i), u (2 * i + 1)) (u (2 * j), u (2 * j + 1)) = wayOf (s i) (s j)) (x0 x2 x3 x5 x6 x7 : Option Dt) (h : HI) :
    ∃ y9 y10, walkL (gSet 9) L_law_5 ((List.range c).map fun (k : Nat) => Dt.int (k : Int)) [x0, some (.int (c : Nat)), x2, x3, some (.lst (netV c (netW s))), x5, x6, x7, some (.lst (madeL u c)), none, none, none, none, none] h =
      some (.nx [x0, some (.int (c : Nat)), x2, x3, some (.lst (netV c (netW s))), x5, x6, x7, some (.lst (madeL u c)), y9, y10, none, none, none] h) := by
  have er := fun h => r1K_int (h := h) (show (-(2 ^ 62) : Int) ≤ (c : Int) by omega) (show (c : Int) < 2 ^ 62 by omega)
  simp only [Int.toNat_natCast] at er
  have okm : ∀ i, i < c → okS (u (2 * i), u (2 * i + 1)) := fun i hi => oku i hi
  have ma : ∀ i, i < c → (madeL u c)[i]? = some (spanD (u (2 * i), u (2 * i + 1))) := fun i hi => spans_at hi
  obtain ⟨l', h', e, ⟨y9, y10, rfl⟩, hh⟩ := walk_range (i := 9) (body := L_law_5) (fun (k : Nat) => Dt.int (k : Int)) (fun _ l h' => (∃ y9 y10, l = [x0, some (.int (c : Nat)), x2, x3, some (.lst (netV c (netW s))), x5, x6, x7, some (.lst (madeL u c)), y9, y10, none, none, none]) ∧ h' = h) c (by
    rintro i hi l h' ⟨⟨y9, y10, rfl⟩, rfl⟩
    obtain ⟨l', h2, e', ⟨z10, rfl⟩, hh⟩ := walk_range (i := 10) (body := L_law_4) (fun (k : Nat) => Dt.int (k : Int)) (fun _ l h2 => (∃ z10, l = [x0, some (.int (c : Nat)), x2, x3, some (.lst (netV c (netW s))), x5, x6, x7, some (.lst (madeL u c)), some (.int (i : Nat)), z10, none, none, none]) ∧ h2 = h') c (by
      rintro j hj l h2 ⟨⟨z10, rfl⟩, rfl⟩
      refine ⟨.nx [x0, some (.int (c : Nat)), x2, x3, some (.lst (netV c (netW s))), x5, x6, x7, some (.lst (madeL u c)), some (.int (i : Nat)), some (.int (j : Nat)), none, none, none] h2, ?_, ⟨_, rfl⟩, rfl⟩
      have wl : wayOf (s i) (s j) < 13 := wayOf_lt (ok i) (ok j)
      have sh := o_shl (h := h2) (cShl1 wl)
      have ew := e_lway (okm i hi) (okm j hj) h2
      rw [hw i j hi hj] at ew
      have n1 : (netV c (netW s))[i]? = some (.lst ((List.range c).map fun j => .int ((netW s i j : Nat) : Int))) := by simp [netV, hi]
      have n2 : ((List.range c).map fun j => Dt.int ((netW s i j : Nat) : Int))[j]? = some (.int ((netW s i j : Nat) : Int)) := by simp [hj]
      have eq : decide ((1 : Int) * 2 ^ wayOf (s i) (s j) = ((netW s i j : Nat) : Int)) = true := decide_eq_true (by unfold netW; simp)
      simp only [L_law_4, q_sIf, q_tB, q_e2, q_eC, q_call, q_aCons, q_aNil, q_eV, List.set_cons_succ, List.set_cons_zero, List.getElem?_cons_zero, List.getElem?_cons_succ, getV_some, bnd_some, o_ixL, SM.atI_nat, ma i hi, ma j hj, Option.map_some, List.append_nil, ew, sh, Int.toNat_natCast, n1, n2, o_ne, eq, Bool.not_true, tbK_bl, Bool.false_eq_true, if_false, q_sNil]) [x0, some (.int (c : Nat)), x2, x3, some (.lst (netV c (netW s))), x5, x6, x7, some (.lst (madeL u c)), some (.int (i : Nat)), y10, none, none, none] h' ⟨⟨_, rfl⟩, rfl⟩
    rw [hh] at e'
    refine ⟨.nx [x0, some (.int (c : Nat)), x2, x3, some (.lst (netV c (netW s))), x5, x6, x7, some (.lst (madeL u c)), some (.int (i : Nat)), z10, none, none, none] h', ?_, ⟨_, _, rfl⟩, rfl⟩
    have lt : decide (u (2 * i + 1) ≤ u (2 * i)) = false := decide_eq_false (by have := oku i hi; omega)
    simp only [L_law_5, q_sSeq, q_sIf, q_tB, q_e2, q_eC, q_eV, List.set_cons_succ, List.set_cons_zero, List.getElem?_cons_zero, List.getElem?_cons_succ, getV_some, bnd_some, o_ixL, SM.atI_nat, ma i hi, Option.map_some, spanD, o_ixT, atI_0, atI_1, o_ge, lt, tbK_bl, Bool.false_eq_true, if_false, q_sNil, sqK_nx, q_sFor, q_iR1, er, forK_vals, e']) [x0, some (.int (c : Nat)), x2, x3, some (.lst (netV c (netW s))), x5, x6, x7, some (.lst (madeL u c)), none, none, none, none, none] h ⟨⟨_, _, rfl⟩, rfl⟩
  rw [hh] at e
  exact ⟨y9, y10, e⟩
theorem k15_lens {c a : Nat} (hc : c ≤ 8) {s : Nat → Int × Int} {u : Nat → Int} {ls : List Ln} (hx : ∀ x ∈ ls, x.1 < c ∧ x.2.1 * ((2 * c + 1 : Nat) : Int) ≤ u (2 * x.1 + 1) - u (2 * x.1) ∧ u (2 * x.1 + 1) - u (2 * x.1) ≤ x.2.2 * ((2 * c + 1 : Nat) : Int)) (x0 x2 x3 x4 x5 x6 x7 y9 y10 : Option Dt) {h : HI} (da : h[a]? = some (.lst (ls.map lenD))) :
    ∃ l', forK (gSet3 9 11 12) L_law_6 [x0, some (.int (c : Nat)), x2, x3, x4, x5, x6, x7, some (.lst (madeL u c)), y9, y10, none, none, none] (.rf a, h) = some (.nx l' h) := by
  have ma : ∀ i, i < c → (madeL u c)[i]? = some (spanD (u (2 * i), u (2 * i + 1))) := fun i hi => spans_at hi
  obtain ⟨l', h', e, _, hh⟩ := rfg_inv (bd := gSet3 9 11 12) (n := a) (body := L_law_6) lenD (fun l h' => (∃ y9 y11 y12 y13, l = [x0, some (.int (c : Nat)), x2, x3, x4, x5, x6, x7, some (.lst (madeL u c)), y9, y10, y11, y12, y13]) ∧ h' = h) ls (by
    rintro l h' ⟨_, rfl⟩
    exact da) (by
    rintro x hm l h' ⟨⟨y9, y11, y12, y13, rfl⟩, rfl⟩
    obtain ⟨i, lo, hi⟩ := x
    obtain ⟨h1, h2, h3⟩ := hx _ hm
    simp only at h1 h2 h3
    refine ⟨_, .nx [x0, some (.int (c : Nat)), x2, x3, x4, x5, x6, x7, some (.lst (madeL u c)), some (.int (i : Nat)), y10, some (.int lo), some (.int hi), some (.int (u (2 * i + 1) - u (2 * i)))] h', rfl, ?_, ⟨_, _, _, _, rfl⟩, rfl⟩
    have gg : (2 : Int) * (c : Int) + 1 = ((2 * c + 1 : Nat) : Int) := by omega
    have u1 := fun (h : HI) => o_mul (h := h) (i := 2) (j := (c : Int)) (Or.inl ⟨by decide, by decide⟩)
    have u2 := fun (i : Int) (h : HI) => o_mul (h := h) (i := i) (j := ((2 * c + 1 : Nat) : Int)) (Or.inr ⟨by omega, by omega⟩)
    have c1 : decide (u (2 * i + 1) - u (2 * i) < lo * ((2 * c + 1 : Nat) : Int)) = false := decide_eq_false (by omega)
    have c2 : decide (hi * ((2 * c + 1 : Nat) : Int) < u (2 * i + 1) - u (2 * i)) = false := decide_eq_false (by omega)
    simp only [L_law_6, q_sSeq, q_sSet, q_sIf, q_tOr, q_tB, q_e2, q_eC, q_eV, List.set_cons_succ, List.set_cons_zero, List.getElem?_cons_zero, List.getElem?_cons_succ, getV_some, bnd_some, o_ixL, SM.atI_nat, ma i h1, Option.map_some, spanD, o_ixT, atI_0, atI_1, o_sub, sqK_nx, u1, o_add, gg, u2, o_lt, o_gt, c1, c2, tbK_bl, Bool.false_eq_true, if_false, q_sNil]) [x0, some (.int (c : Nat)), x2, x3, x4, x5, x6, x7, some (.lst (madeL u c)), y9, y10, none, none, none] h ⟨⟨_, _, _, _, rfl⟩, rfl⟩
  rw [hh] at e
  exact ⟨l', e⟩
theorem law_true (ns : List Int) (hl : ns.length ≤ 63) : ∃ h', F_law [.lst (ns.map Dt.int)] [] = some (.bl true, h') := by
  have c0 := fun h => e_cell ns 0 h
  have c9 := fun h => e_cell ns 9 h
  simp only [Int.cast_ofNat_Int] at c0 c9
  obtain ⟨c, hcc, hc1, hc⟩ : ∃ c : Nat, 1 + ns[0]?.getD (0 : Int) % 8 = (c : Int) ∧ 1 ≤ c ∧ c ≤ 8 := ⟨(1 + ns[0]?.getD (0 : Int) % 8).toNat, by omega, by omega, by omega⟩
  have p15 := fun (h : HI) => o_pow (h := h) (i := 10) (j := 15) ⟨by decide, by decide, by decide⟩
  have m8 := fun (i : Int) (h : HI) => o_mod (h := h) (i := i) (show (0 : Int) < 8 by decide)
  have m15 := fun (i : Int) (h : HI) => o_mod (h := h) (i := i) (show (0 : Int) < 10 ^ (15 : Int).toNat by decide)
  obtain ⟨sc, hsc, sc1⟩ : ∃ sc : Int, 1 + ns[9]?.getD (0 : Int) % 10 ^ (15 : Int).toNat = sc ∧ 1 ≤ sc := ⟨_, rfl, by have := Int.emod_nonneg (ns[9]?.getD (0 : Int)) (show (10 ^ (15 : Int).toNat : Int) ≠ 0 by decide); omega⟩
  have ok := fun i => spK_ok ns sc1 i
  have es := e_spans ns hc sc []
  simp only [List.length_nil, List.nil_append] at es
  generalize spK ns sc = s at ok es
  have da0 : ([Ob.lst (spansL s c)] : HI)[0]? = some (.lst (spansL s c)) := rfl
  obtain ⟨ls, ll, lok, el⟩ := e_lens ns hl ok sc1 hc1 hc da0
  simp only [List.length_cons, List.length_nil, Nat.zero_add, List.cons_append, List.nil_append] at el
  have da1 : ([Ob.lst (spansL s c), .lst (ls.map lenD)] : HI)[1]? = some (.lst (ls.map lenD)) := rfl
  obtain ⟨rest, eb⟩ := e_bounds (c := c) (by omega) (N := netW s) (fun i j => by unfold netW; rw [ways_one _ (wayOf_lt (ok i) (ok j))]; simp) (by omega) da1
  simp only [List.length_cons, List.length_nil, Nat.zero_add, Nat.reduceAdd, List.cons_append, List.nil_append] at eb
  have u1 := fun (h : HI) => o_mul (h := h) (i := 2) (j := (c : Int)) (Or.inl ⟨by decide, by decide⟩)
  have g2 : (2 : Int) * (c : Int) = ((2 * c : Nat) : Int) := by omega
  have st1 : decide ((("times" : Str)) = (("times" : Str))) = true := decide_eq_true rfl
  have er := fun h => r1K_int (h := h) (show (-(2 ^ 62) : Int) ≤ (c : Int) by omega) (show (c : Int) < 2 ^ 62 by omega)
  simp only [Int.toNat_natCast] at er
  rcases e_timedR (n := 2 * c) (a := 2) (by omega) (by omega) (bndsL c (netW s) ls) (bnds_lt (netW s) (fun x hx => (lok x hx).1)) (bnds_len hc (netW s) (by omega)) (Ob.lst (spansL s c) :: .lst (ls.map lenD) :: .lst ((bndsL c (netW s) ls).map trip) :: rest) rfl with ⟨t, h', st, fr, et⟩ | ⟨cc, P, k, r, h', R, _⟩
  · have al := all_alike ok st
    have wa := fun i j hi hj => way_alike (i := i) (j := j) al hi hj
    have lk := fun x hx => len_kept st (x := x) hx
    have own : ∀ i, i < c → t (2 * i) < t (2 * i + 1) := fun i hi => (al (2 * i) (2 * i + 1) (by omega) (by omega)).1 (by rw [ptT0, ptT1]; exact ok i)
    obtain ⟨m1, m2⟩ := min_shift (n := 2 * c) (by omega) t
    have em := f_min (h := h') m1
    rw [← times_ints, m2] at em
    have d3 : h'[1]? = some (.lst (ls.map lenD)) := (fr 1 (by simp)).trans rfl
    have lens := times_len (2 * c) (shiftT (2 * c) t)
    have sz2 : (timesL (2 * c) (shiftT (2 * c) t)).length < sizeLine := by rw [lens]; simp [sizeLine]; omega
    have ca := compV_all (te := E_law_2) (i := 0) (tc := tTrue) Dt.int (fun _ => Dt.bl true) h' ((List.range (2 * c)).map (shiftT (2 * c) t)) [none] (by
      intro x _
      exact ⟨by simp, by simp [E_law_2, e_whole]⟩)
    have ck := compK_vals (l := [none]) (h := h') (gSet 0) tTrue E_law_2 sz2
    rw [times_ints, ca] at ck
    have fa := f_all (h := h') (((List.range (2 * c)).map (shiftT (2 * c) t)).map fun _ => true)
    rw [List.map_map] at fa
    have fa' : ((List.range (2 * c)).map (shiftT (2 * c) t)).map (fun _ => Dt.bl true) = ((List.range (2 * c)).map (shiftT (2 * c) t)).map (Dt.bl ∘ fun _ => true) := rfl
    rw [fa'] at ck
    have at1 : (((List.range (2 * c)).map (shiftT (2 * c) t)).map fun _ => true).all id = true := by simp
    rw [at1] at fa
    rw [← times_ints] at ck
    have hdif : ∀ p q, shiftT (2 * c) t p - shiftT (2 * c) t q = t p - t q := fun p q => by unfold shiftT; omega
    generalize shiftT (2 * c) t = u at *
    have dif : ∀ p q, u p - u q = t p - t q := hdif
    have ma := compV_all (te := E_law_3) (i := 0) (tc := tTrue) (fun (k : Nat) => Dt.int (k : Int)) (fun k => spanD (u (2 * k), u (2 * k + 1))) h' (List.range c) [none, some (.lst (timesL (2 * c) u))] (by
      intro k hk
      have hk := List.mem_range.mp hk
      have u1 := fun (h : HI) => o_mul (h := h) (i := 2) (j := (k : Int)) (Or.inl ⟨by decide, by decide⟩)
      have g1 : (2 : Int) * (k : Int) = ((2 * k : Nat) : Int) := by omega
      have g2 : ((2 * k : Nat) : Int) + 1 = ((2 * k + 1 : Nat) : Int) := by omega
      have t1 := times_at u (show 2 * k < 2 * c by omega)
      have t2 := times_at u (show 2 * k + 1 < 2 * c by omega)
      refine ⟨by simp, ?_⟩
      simp only [E_law_3, q_eTup, q_aCons, q_aNil, q_e2, q_eC, q_eV, List.set_cons_zero, List.getElem?_cons_zero, List.getElem?_cons_succ, getV_some, bnd_some, u1, g1, o_add, g2, o_ixL, SM.atI_nat, t1, t2, Option.map_some, spanD]
      rfl)
    have mk := compK_vals (l := [none, some (.lst (timesL (2 * c) u))]) (h := h') (gSet 0) tTrue E_law_3 (xs := (List.range c).map fun (k : Nat) => Dt.int (k : Int)) (by simp [sizeLine]; omega)
    rw [ma] at mk
    have mk' : (List.range c).map (fun k => spanD (u (2 * k), u (2 * k + 1))) = madeL u c := rfl
    rw [mk'] at mk
    obtain ⟨y9, y10, w1⟩ := k15_ways hc ok (u := u) (fun i hi => by have := own i hi; have := dif (2 * i) (2 * i + 1); omega) (fun i j hi hj => by
      rw [← wa i j hi hj]
      exact way_alike (s := fun k => (t (2 * k), t (2 * k + 1))) (c := c) (t := u) (fun p q _ _ => by
        have e1 : ∀ p, ptT (fun k => (t (2 * k), t (2 * k + 1))) p = t p := fun p => by
          unfold ptT
          split
          · rename_i z; show t (2 * (p / 2)) = t p; rw [show 2 * (p / 2) = p by omega]
          · rename_i z; show t (2 * (p / 2) + 1) = t p; rw [show 2 * (p / 2) + 1 = p by omega]
        have := dif p q
        refine ⟨?_, ?_, ?_⟩ <;> rw [e1, e1] <;> omega) hi hj) (some (.lst (ns.map Dt.int))) (some (.int sc)) (some (.ref 0)) (some (.ref 1)) (some (.tup [.str "times", .lst (timesL (2 * c) u)])) (some (.lst (timesL (2 * c) u))) h'
    obtain ⟨l', w2⟩ := k15_lens hc (s := s) (u := u) (ls := ls) (fun x hx => by
      have := lk x hx
      have := dif (2 * x.1 + 1) (2 * x.1)
      refine ⟨(lok x hx).1, ?_, ?_⟩ <;> omega) (some (.lst (ns.map Dt.int))) (some (.int sc)) (some (.ref 0)) (some (.lst (netV c (netW s)))) (some (.ref 1)) (some (.tup [.str "times", .lst (timesL (2 * c) u)])) (some (.lst (timesL (2 * c) u))) y9 y10 d3
    refine ⟨h', ?_⟩
    have en := e_net ok hc (h := [Ob.lst (spansL s c)]) da0 [some (.lst (ns.map Dt.int)), some (.int (c : Nat)), some (.int sc), some (.ref 0), none, none, none, none, none, none, none, none, none, none] rfl
    have m0 : ∀ d : Dt, atI [d, Dt.lst (timesL (2 * c) u)] 0 = some d := fun _ => rfl
    have m1' : ∀ d : Dt, atI [d, Dt.lst (timesL (2 * c) u)] 1 = some (Dt.lst (timesL (2 * c) u)) := fun _ => rfl
    simp only [F_law, B_law, q_fn, List.length_cons, List.length_nil, if_true, List.map_cons, List.map_nil, Nat.reduceAdd, Nat.reduceSub, List.replicate, List.cons_append, List.nil_append, q_sSeq, q_sSet, q_e2, q_eC, q_eV, q_call, q_aCons, q_aNil, List.set_cons_succ, List.set_cons_zero, List.getElem?_cons_zero, List.getElem?_cons_succ, getV_some, bnd_some, List.append_nil, c0, c9, m8, p15, m15, o_add, hcc, hsc, sqK_nx, es, en, el, eb, u1, g2, et, q_sIf, q_tOr, q_tNot, q_tB, q_F1, m0, m1', o_ixT, Option.map_some, em, q_eComp, q_iLst, seqK_lst, cap_none, cap_some, cap_nil, Option.join_some, ck, fa, er, q_iR1, mk, q_sFor, forK_vals, w1, seqK_ref d3, w2, q_sRet, finK_rt, tbK_bl, Bool.not_true, Bool.false_eq_true, if_false, q_sNil, o_ne, lens, f_lenL]
    have t1 : ∀ xs, tyN h' (.tup xs) = some "tuple" := fun _ => rfl
    have t2 : ∀ xs, tyN h' (.lst xs) = some "list" := fun _ => rfl
    have t3 : isT "tuple" "tuple" = true := by decide
    have t4 : isT "list" "list" = true := by decide
    have dd : ∀ i : Int, decide (i = i) = true := fun _ => decide_eq_true rfl
    simp only [decide_true, o_ixT, m0, m1', q_isi, getV_some, bnd_some, t1, t2, t3, t4, Option.map_some, List.getElem?_cons_zero, List.getElem?_cons_succ, tbK_bl, Bool.not_true, Bool.false_eq_true, if_false, f_lenT, List.length_cons, List.length_nil, Nat.zero_add, Nat.reduceAdd, Int.cast_ofNat_Int, o_ne, dd, o_nes, st1, q_sNil, q_sIf, sqK_nx, List.set_cons_succ, List.set_cons_zero, q_eV, f_lenL, lens, u1, g2, ck, fa, em, q_sSeq, q_sSet, q_tOr, q_tNot, q_tB, q_e2, q_F1, q_eC, er, q_iR1, mk, q_sFor, forK_vals, w1, seqK_ref d3, w2, q_sRet, finK_rt, q_eComp, q_iLst, seqK_lst, cap_none, cap_some, cap_nil, Option.join_some]
  · exact (no_ring (b := fun p => ((2 * c + 1 : Nat) : Int) * ptT s p) (bnds_keep ok lok) R).elim
end G
namespace G
open PySem PySem.Spec PyProof.Rows L2 SM
theorem all_mk {l : PySem.W.OpenLaw} {w : World} {K : PySem.W.Frag} {h : Heap} {mg : Str → Option Value} {fa : Addr} (X : K.In h) (G : h.Ns mainGlobals mg) (hfa : mg "law" = some (.ref fa))
    {f_zones : Addr} {oc_zones kV_zones dc_zones pm_zones cd_zones ct_zones : Value} {od_zones an_zones : Option Addr} {sl_zones : Array (Option Value)}
    {f_ways_in : Addr} {oc_ways_in kV_ways_in dc_ways_in pm_ways_in cd_ways_in ct_ways_in : Value} {od_ways_in an_ways_in : Option Addr} {sl_ways_in : Array (Option Value)}
    {f_pairs_of : Addr} {oc_pairs_of kV_pairs_of dc_pairs_of pm_pairs_of cd_pairs_of ct_pairs_of : Value} {od_pairs_of an_pairs_of : Option Addr} {sl_pairs_of : Array (Option Value)}
    {f_grain : Addr} {oc_grain kV_grain dc_grain pm_grain cd_grain ct_grain : Value} {od_grain an_grain : Option Addr} {sl_grain : Array (Option Value)}
    {f_length_bounds : Addr} {oc_length_bounds kV_length_bounds dc_length_bounds pm_length_bounds cd_length_bounds ct_length_bounds : Value} {od_length_bounds an_length_bounds : Option Addr} {sl_length_bounds : Array (Option Value)}
    {f_point_bounds : Addr} {oc_point_bounds kV_point_bounds dc_point_bounds pm_point_bounds cd_point_bounds ct_point_bounds : Value} {od_point_bounds an_point_bounds : Option Addr} {sl_point_bounds : Array (Option Value)}
    {f_set_bounds : Addr} {oc_set_bounds kV_set_bounds dc_set_bounds pm_set_bounds cd_set_bounds ct_set_bounds : Value} {od_set_bounds an_set_bounds : Option Addr} {sl_set_bounds : Array (Option Value)}
    {f_bounds : Addr} {oc_bounds kV_bounds dc_bounds pm_bounds cd_bounds ct_bounds : Value} {od_bounds an_bounds : Option Addr} {sl_bounds : Array (Option Value)}
    {f_least_bounds : Addr} {oc_least_bounds kV_least_bounds dc_least_bounds pm_least_bounds cd_least_bounds ct_least_bounds : Value} {od_least_bounds an_least_bounds : Option Addr} {sl_least_bounds : Array (Option Value)}
    {f_moved : Addr} {oc_moved kV_moved dc_moved pm_moved cd_moved ct_moved : Value} {od_moved an_moved : Option Addr} {sl_moved : Array (Option Value)}
    {f_ring_behind : Addr} {oc_ring_behind kV_ring_behind dc_ring_behind pm_ring_behind cd_ring_behind ct_ring_behind : Value} {od_ring_behind an_ring_behind : Option Addr} {sl_ring_behind : Array (Option Value)}
    {f_timed : Addr} {oc_timed kV_timed dc_timed pm_timed cd_timed ct_timed : Value} {od_timed an_timed : Option Addr} {sl_timed : Array (Option Value)}
    {f__law_cell_at : Addr} {oc__law_cell_at kV__law_cell_at dc__law_cell_at pm__law_cell_at cd__law_cell_at ct__law_cell_at : Value} {od__law_cell_at an__law_cell_at : Option Addr} {sl__law_cell_at : Array (Option Value)}
    {f__law_whole : Addr} {oc__law_whole kV__law_whole dc__law_whole pm__law_whole cd__law_whole ct__law_whole : Value} {od__law_whole an__law_whole : Option Addr} {sl__law_whole : Array (Option Value)}
    {f__law_mixed : Addr} {oc__law_mixed kV__law_mixed dc__law_mixed pm__law_mixed cd__law_mixed ct__law_mixed : Value} {od__law_mixed an__law_mixed : Option Addr} {sl__law_mixed : Array (Option Value)}
    {f__law_zones : Addr} {oc__law_zones kV__law_zones dc__law_zones pm__law_zones cd__law_zones ct__law_zones : Value} {od__law_zones an__law_zones : Option Addr} {sl__law_zones : Array (Option Value)}
    {f__law_zone : Addr} {oc__law_zone kV__law_zone dc__law_zone pm__law_zone cd__law_zone ct__law_zone : Value} {od__law_zone an__law_zone : Option Addr} {sl__law_zone : Array (Option Value)}
    {f__law_way : Addr} {oc__law_way kV__law_way dc__law_way pm__law_way cd__law_way ct__law_way : Value} {od__law_way an__law_way : Option Addr} {sl__law_way : Array (Option Value)}
    {f__law_spans : Addr} {oc__law_spans kV__law_spans dc__law_spans pm__law_spans cd__law_spans ct__law_spans : Value} {od__law_spans an__law_spans : Option Addr} {sl__law_spans : Array (Option Value)}
    {f__law_lengths : Addr} {oc__law_lengths kV__law_lengths dc__law_lengths pm__law_lengths cd__law_lengths ct__law_lengths : Value} {od__law_lengths an__law_lengths : Option Addr} {sl__law_lengths : Array (Option Value)}
    {f_law : Addr} {oc_law kV_law dc_law pm_law cd_law ct_law : Value} {od_law an_law : Option Addr} {sl_law : Array (Option Value)}
    {g_ZONES : Addr}
    (a_zones : PySem.W.nsIn K mainGlobals "zones" = some (some (.ref f_zones))) (l_zones : K.lookup f_zones = some ⟨oc_zones, od_zones, .func (PySem.W.fnOf "zones" "zones" (defArgs s_zones) (defBody s_zones) (defScope s_zones) .none kV_zones dc_zones pm_zones an_zones cd_zones ct_zones), sl_zones⟩) (c_zones : PySem.W.codeIn K cd_zones "zones" = true) (k_zones : PySem.W.keepIn K (.ref f_zones) = true)
    (a_ways_in : PySem.W.nsIn K mainGlobals "ways_in" = some (some (.ref f_ways_in))) (l_ways_in : K.lookup f_ways_in = some ⟨oc_ways_in, od_ways_in, .func (PySem.W.fnOf "ways_in" "ways_in" (defArgs s_ways_in) (defBody s_ways_in) (defScope s_ways_in) .none kV_ways_in dc_ways_in pm_ways_in an_ways_in cd_ways_in ct_ways_in), sl_ways_in⟩) (c_ways_in : PySem.W.codeIn K cd_ways_in "ways_in" = true) (k_ways_in : PySem.W.keepIn K (.ref f_ways_in) = true)
    (a_pairs_of : PySem.W.nsIn K mainGlobals "pairs_of" = some (some (.ref f_pairs_of))) (l_pairs_of : K.lookup f_pairs_of = some ⟨oc_pairs_of, od_pairs_of, .func (PySem.W.fnOf "pairs_of" "pairs_of" (defArgs s_pairs_of) (defBody s_pairs_of) (defScope s_pairs_of) .none kV_pairs_of dc_pairs_of pm_pairs_of an_pairs_of cd_pairs_of ct_pairs_of), sl_pairs_of⟩) (c_pairs_of : PySem.W.codeIn K cd_pairs_of "pairs_of" = true) (k_pairs_of : PySem.W.keepIn K (.ref f_pairs_of) = true)
    (a_grain : PySem.W.nsIn K mainGlobals "grain" = some (some (.ref f_grain))) (l_grain : K.lookup f_grain = some ⟨oc_grain, od_grain, .func (PySem.W.fnOf "grain" "grain" (defArgs s_grain) (defBody s_grain) (defScope s_grain) .none kV_grain dc_grain pm_grain an_grain cd_grain ct_grain), sl_grain⟩) (c_grain : PySem.W.codeIn K cd_grain "grain" = true) (k_grain : PySem.W.keepIn K (.ref f_grain) = true)
    (a_length_bounds : PySem.W.nsIn K mainGlobals "length_bounds" = some (some (.ref f_length_bounds))) (l_length_bounds : K.lookup f_length_bounds = some ⟨oc_length_bounds, od_length_bounds, .func (PySem.W.fnOf "length_bounds" "length_bounds" (defArgs s_length_bounds) (defBody s_length_bounds) (defScope s_length_bounds) .none kV_length_bounds dc_length_bounds pm_length_bounds an_length_bounds cd_length_bounds ct_length_bounds), sl_length_bounds⟩) (c_length_bounds : PySem.W.codeIn K cd_length_bounds "length_bounds" = true) (k_length_bounds : PySem.W.keepIn K (.ref f_length_bounds) = true)
    (a_point_bounds : PySem.W.nsIn K mainGlobals "point_bounds" = some (some (.ref f_point_bounds))) (l_point_bounds : K.lookup f_point_bounds = some ⟨oc_point_bounds, od_point_bounds, .func (PySem.W.fnOf "point_bounds" "point_bounds" (defArgs s_point_bounds) (defBody s_point_bounds) (defScope s_point_bounds) .none kV_point_bounds dc_point_bounds pm_point_bounds an_point_bounds cd_point_bounds ct_point_bounds), sl_point_bounds⟩) (c_point_bounds : PySem.W.codeIn K cd_point_bounds "point_bounds" = true) (k_point_bounds : PySem.W.keepIn K (.ref f_point_bounds) = true)
    (a_set_bounds : PySem.W.nsIn K mainGlobals "set_bounds" = some (some (.ref f_set_bounds))) (l_set_bounds : K.lookup f_set_bounds = some ⟨oc_set_bounds, od_set_bounds, .func (PySem.W.fnOf "set_bounds" "set_bounds" (defArgs s_set_bounds) (defBody s_set_bounds) (defScope s_set_bounds) .none kV_set_bounds dc_set_bounds pm_set_bounds an_set_bounds cd_set_bounds ct_set_bounds), sl_set_bounds⟩) (c_set_bounds : PySem.W.codeIn K cd_set_bounds "set_bounds" = true) (k_set_bounds : PySem.W.keepIn K (.ref f_set_bounds) = true)
    (a_bounds : PySem.W.nsIn K mainGlobals "bounds" = some (some (.ref f_bounds))) (l_bounds : K.lookup f_bounds = some ⟨oc_bounds, od_bounds, .func (PySem.W.fnOf "bounds" "bounds" (defArgs s_bounds) (defBody s_bounds) (defScope s_bounds) .none kV_bounds dc_bounds pm_bounds an_bounds cd_bounds ct_bounds), sl_bounds⟩) (c_bounds : PySem.W.codeIn K cd_bounds "bounds" = true) (k_bounds : PySem.W.keepIn K (.ref f_bounds) = true)
    (a_least_bounds : PySem.W.nsIn K mainGlobals "least_bounds" = some (some (.ref f_least_bounds))) (l_least_bounds : K.lookup f_least_bounds = some ⟨oc_least_bounds, od_least_bounds, .func (PySem.W.fnOf "least_bounds" "least_bounds" (defArgs s_least_bounds) (defBody s_least_bounds) (defScope s_least_bounds) .none kV_least_bounds dc_least_bounds pm_least_bounds an_least_bounds cd_least_bounds ct_least_bounds), sl_least_bounds⟩) (c_least_bounds : PySem.W.codeIn K cd_least_bounds "least_bounds" = true) (k_least_bounds : PySem.W.keepIn K (.ref f_least_bounds) = true)
    (a_moved : PySem.W.nsIn K mainGlobals "moved" = some (some (.ref f_moved))) (l_moved : K.lookup f_moved = some ⟨oc_moved, od_moved, .func (PySem.W.fnOf "moved" "moved" (defArgs s_moved) (defBody s_moved) (defScope s_moved) .none kV_moved dc_moved pm_moved an_moved cd_moved ct_moved), sl_moved⟩) (c_moved : PySem.W.codeIn K cd_moved "moved" = true) (k_moved : PySem.W.keepIn K (.ref f_moved) = true)
    (a_ring_behind : PySem.W.nsIn K mainGlobals "ring_behind" = some (some (.ref f_ring_behind))) (l_ring_behind : K.lookup f_ring_behind = some ⟨oc_ring_behind, od_ring_behind, .func (PySem.W.fnOf "ring_behind" "ring_behind" (defArgs s_ring_behind) (defBody s_ring_behind) (defScope s_ring_behind) .none kV_ring_behind dc_ring_behind pm_ring_behind an_ring_behind cd_ring_behind ct_ring_behind), sl_ring_behind⟩) (c_ring_behind : PySem.W.codeIn K cd_ring_behind "ring_behind" = true) (k_ring_behind : PySem.W.keepIn K (.ref f_ring_behind) = true)
    (a_timed : PySem.W.nsIn K mainGlobals "timed" = some (some (.ref f_timed))) (l_timed : K.lookup f_timed = some ⟨oc_timed, od_timed, .func (PySem.W.fnOf "timed" "timed" (defArgs s_timed) (defBody s_timed) (defScope s_timed) .none kV_timed dc_timed pm_timed an_timed cd_timed ct_timed), sl_timed⟩) (c_timed : PySem.W.codeIn K cd_timed "timed" = true) (k_timed : PySem.W.keepIn K (.ref f_timed) = true)
    (a__law_cell_at : PySem.W.nsIn K mainGlobals "_law_cell_at" = some (some (.ref f__law_cell_at))) (l__law_cell_at : K.lookup f__law_cell_at = some ⟨oc__law_cell_at, od__law_cell_at, .func (PySem.W.fnOf "_law_cell_at" "_law_cell_at" (defArgs s__law_cell_at) (defBody s__law_cell_at) (defScope s__law_cell_at) .none kV__law_cell_at dc__law_cell_at pm__law_cell_at an__law_cell_at cd__law_cell_at ct__law_cell_at), sl__law_cell_at⟩) (c__law_cell_at : PySem.W.codeIn K cd__law_cell_at "_law_cell_at" = true) (k__law_cell_at : PySem.W.keepIn K (.ref f__law_cell_at) = true)
    (a__law_whole : PySem.W.nsIn K mainGlobals "_law_whole" = some (some (.ref f__law_whole))) (l__law_whole : K.lookup f__law_whole = some ⟨oc__law_whole, od__law_whole, .func (PySem.W.fnOf "_law_whole" "_law_whole" (defArgs s__law_whole) (defBody s__law_whole) (defScope s__law_whole) .none kV__law_whole dc__law_whole pm__law_whole an__law_whole cd__law_whole ct__law_whole), sl__law_whole⟩) (c__law_whole : PySem.W.codeIn K cd__law_whole "_law_whole" = true) (k__law_whole : PySem.W.keepIn K (.ref f__law_whole) = true)
    (a__law_mixed : PySem.W.nsIn K mainGlobals "_law_mixed" = some (some (.ref f__law_mixed))) (l__law_mixed : K.lookup f__law_mixed = some ⟨oc__law_mixed, od__law_mixed, .func (PySem.W.fnOf "_law_mixed" "_law_mixed" (defArgs s__law_mixed) (defBody s__law_mixed) (defScope s__law_mixed) .none kV__law_mixed dc__law_mixed pm__law_mixed an__law_mixed cd__law_mixed ct__law_mixed), sl__law_mixed⟩) (c__law_mixed : PySem.W.codeIn K cd__law_mixed "_law_mixed" = true) (k__law_mixed : PySem.W.keepIn K (.ref f__law_mixed) = true)
    (a__law_zones : PySem.W.nsIn K mainGlobals "_law_zones" = some (some (.ref f__law_zones))) (l__law_zones : K.lookup f__law_zones = some ⟨oc__law_zones, od__law_zones, .func (PySem.W.fnOf "_law_zones" "_law_zones" (defArgs s__law_zones) (defBody s__law_zones) (defScope s__law_zones) .none kV__law_zones dc__law_zones pm__law_zones an__law_zones cd__law_zones ct__law_zones), sl__law_zones⟩) (c__law_zones : PySem.W.codeIn K cd__law_zones "_law_zones" = true) (k__law_zones : PySem.W.keepIn K (.ref f__law_zones) = true)
    (a__law_zone : PySem.W.nsIn K mainGlobals "_law_zone" = some (some (.ref f__law_zone))) (l__law_zone : K.lookup f__law_zone = some ⟨oc__law_zone, od__law_zone, .func (PySem.W.fnOf "_law_zone" "_law_zone" (defArgs s__law_zone) (defBody s__law_zone) (defScope s__law_zone) .none kV__law_zone dc__law_zone pm__law_zone an__law_zone cd__law_zone ct__law_zone), sl__law_zone⟩) (c__law_zone : PySem.W.codeIn K cd__law_zone "_law_zone" = true) (k__law_zone : PySem.W.keepIn K (.ref f__law_zone) = true)
    (a__law_way : PySem.W.nsIn K mainGlobals "_law_way" = some (some (.ref f__law_way))) (l__law_way : K.lookup f__law_way = some ⟨oc__law_way, od__law_way, .func (PySem.W.fnOf "_law_way" "_law_way" (defArgs s__law_way) (defBody s__law_way) (defScope s__law_way) .none kV__law_way dc__law_way pm__law_way an__law_way cd__law_way ct__law_way), sl__law_way⟩) (c__law_way : PySem.W.codeIn K cd__law_way "_law_way" = true) (k__law_way : PySem.W.keepIn K (.ref f__law_way) = true)
    (a__law_spans : PySem.W.nsIn K mainGlobals "_law_spans" = some (some (.ref f__law_spans))) (l__law_spans : K.lookup f__law_spans = some ⟨oc__law_spans, od__law_spans, .func (PySem.W.fnOf "_law_spans" "_law_spans" (defArgs s__law_spans) (defBody s__law_spans) (defScope s__law_spans) .none kV__law_spans dc__law_spans pm__law_spans an__law_spans cd__law_spans ct__law_spans), sl__law_spans⟩) (c__law_spans : PySem.W.codeIn K cd__law_spans "_law_spans" = true) (k__law_spans : PySem.W.keepIn K (.ref f__law_spans) = true)
    (a__law_lengths : PySem.W.nsIn K mainGlobals "_law_lengths" = some (some (.ref f__law_lengths))) (l__law_lengths : K.lookup f__law_lengths = some ⟨oc__law_lengths, od__law_lengths, .func (PySem.W.fnOf "_law_lengths" "_law_lengths" (defArgs s__law_lengths) (defBody s__law_lengths) (defScope s__law_lengths) .none kV__law_lengths dc__law_lengths pm__law_lengths an__law_lengths cd__law_lengths ct__law_lengths), sl__law_lengths⟩) (c__law_lengths : PySem.W.codeIn K cd__law_lengths "_law_lengths" = true) (k__law_lengths : PySem.W.keepIn K (.ref f__law_lengths) = true)
    (a_law : PySem.W.nsIn K mainGlobals "law" = some (some (.ref f_law))) (l_law : K.lookup f_law = some ⟨oc_law, od_law, .func (PySem.W.fnOf "law" "law" (defArgs s_law) (defBody s_law) (defScope s_law) .none kV_law dc_law pm_law an_law cd_law ct_law), sl_law⟩) (c_law : PySem.W.codeIn K cd_law "law" = true) (k_law : PySem.W.keepIn K (.ref f_law) = true)
    (z_all : PySem.W.nsIn K mainGlobals "all" = some none)
    (z_bool : PySem.W.nsIn K mainGlobals "bool" = some none)
    (z_int : PySem.W.nsIn K mainGlobals "int" = some none)
    (z_isinstance : PySem.W.nsIn K mainGlobals "isinstance" = some none)
    (z_len : PySem.W.nsIn K mainGlobals "len" = some none)
    (z_list : PySem.W.nsIn K mainGlobals "list" = some none)
    (z_max : PySem.W.nsIn K mainGlobals "max" = some none)
    (z_min : PySem.W.nsIn K mainGlobals "min" = some none)
    (z_range : PySem.W.nsIn K mainGlobals "range" = some none)
    (z_tuple : PySem.W.nsIn K mainGlobals "tuple" = some none)
    (n_ZONES : PySem.W.nsIn K mainGlobals "ZONES" = some (some (.ref g_ZONES))) (r_ZONES : readK K 6 (.ref g_ZONES) = some C_ZONES)
    : ∃ fd : FuncData, (∀ (s : Shared) (v : Value), BindsTo s fd ⟨[v], []⟩ [("_law_script", v)]) ∧ ∀ base : Heap, K.In base → base.Ns mainGlobals mg → FnOk l.prog w K mg base CX0 4 fa fd ["_law_script"] (spM K 1 F_law) := by
  have F_zones := fun_mk (st := s_zones) l_zones c_zones k_zones
  have b_zones := F_zones.binds (ps := ["way"]) fun _ _ _ _ _ _ us hl => match us, hl with | [_], _ => rfl
  have F_ways_in := fun_mk (st := s_ways_in) l_ways_in c_ways_in k_ways_in
  have b_ways_in := F_ways_in.binds (ps := ["mask"]) fun _ _ _ _ _ _ us hl => match us, hl with | [_], _ => rfl
  have F_pairs_of := fun_mk (st := s_pairs_of) l_pairs_of c_pairs_of k_pairs_of
  have b_pairs_of := F_pairs_of.binds (ps := ["count"]) fun _ _ _ _ _ _ us hl => match us, hl with | [_], _ => rfl
  have F_grain := fun_mk (st := s_grain) l_grain c_grain k_grain
  have b_grain := F_grain.binds (ps := ["count"]) fun _ _ _ _ _ _ us hl => match us, hl with | [_], _ => rfl
  have F_length_bounds := fun_mk (st := s_length_bounds) l_length_bounds c_length_bounds k_length_bounds
  have b_length_bounds := F_length_bounds.binds (ps := ["length", "one"]) fun _ _ _ _ _ _ us hl => match us, hl with | [_, _], _ => rfl
  have F_point_bounds := fun_mk (st := s_point_bounds) l_point_bounds c_point_bounds k_point_bounds
  have b_point_bounds := F_point_bounds.binds (ps := ["p", "q", "at", "seen"]) fun _ _ _ _ _ _ us hl => match us, hl with | [_, _, _, _], _ => rfl
  have F_set_bounds := fun_mk (st := s_set_bounds) l_set_bounds c_set_bounds k_set_bounds
  have b_set_bounds := F_set_bounds.binds (ps := ["i", "mask", "j"]) fun _ _ _ _ _ _ us hl => match us, hl with | [_, _, _], _ => rfl
  have F_bounds := fun_mk (st := s_bounds) l_bounds c_bounds k_bounds
  have b_bounds := F_bounds.binds (ps := ["net", "lengths"]) fun _ _ _ _ _ _ us hl => match us, hl with | [_, _], _ => rfl
  have F_least_bounds := fun_mk (st := s_least_bounds) l_least_bounds c_least_bounds k_least_bounds
  have b_least_bounds := F_least_bounds.binds (ps := ["found"]) fun _ _ _ _ _ _ us hl => match us, hl with | [_], _ => rfl
  have F_moved := fun_mk (st := s_moved) l_moved c_moved k_moved
  have b_moved := F_moved.binds (ps := ["least", "times", "causes"]) fun _ _ _ _ _ _ us hl => match us, hl with | [_, _, _], _ => rfl
  have F_ring_behind := fun_mk (st := s_ring_behind) l_ring_behind c_ring_behind k_ring_behind
  have b_ring_behind := F_ring_behind.binds (ps := ["point", "causes"]) fun _ _ _ _ _ _ us hl => match us, hl with | [_, _], _ => rfl
  have F_timed := fun_mk (st := s_timed) l_timed c_timed k_timed
  have b_timed := F_timed.binds (ps := ["points", "bounds"]) fun _ _ _ _ _ _ us hl => match us, hl with | [_, _], _ => rfl
  have F__law_cell_at := fun_mk (st := s__law_cell_at) l__law_cell_at c__law_cell_at k__law_cell_at
  have b__law_cell_at := F__law_cell_at.binds (ps := ["_law_script", "_law_k"]) fun _ _ _ _ _ _ us hl => match us, hl with | [_, _], _ => rfl
  have F__law_whole := fun_mk (st := s__law_whole) l__law_whole c__law_whole k__law_whole
  have b__law_whole := F__law_whole.binds (ps := ["_law_found"]) fun _ _ _ _ _ _ us hl => match us, hl with | [_], _ => rfl
  have F__law_mixed := fun_mk (st := s__law_mixed) l__law_mixed c__law_mixed k__law_mixed
  have b__law_mixed := F__law_mixed.binds (ps := ["_law_cell", "_law_factor"]) fun _ _ _ _ _ _ us hl => match us, hl with | [_, _], _ => rfl
  have F__law_zones := fun_mk (st := s__law_zones) l__law_zones c__law_zones k__law_zones
  have b__law_zones := F__law_zones.binds (ps := []) fun _ _ _ _ _ _ us hl => match us, hl with | [], _ => rfl
  have F__law_zone := fun_mk (st := s__law_zone) l__law_zone c__law_zone k__law_zone
  have b__law_zone := F__law_zone.binds (ps := ["_law_at", "_law_other"]) fun _ _ _ _ _ _ us hl => match us, hl with | [_, _], _ => rfl
  have F__law_way := fun_mk (st := s__law_way) l__law_way c__law_way k__law_way
  have b__law_way := F__law_way.binds (ps := ["_law_one", "_law_other"]) fun _ _ _ _ _ _ us hl => match us, hl with | [_, _], _ => rfl
  have F__law_spans := fun_mk (st := s__law_spans) l__law_spans c__law_spans k__law_spans
  have b__law_spans := F__law_spans.binds (ps := ["_law_script", "_law_count", "_law_scale"]) fun _ _ _ _ _ _ us hl => match us, hl with | [_, _, _], _ => rfl
  have F__law_lengths := fun_mk (st := s__law_lengths) l__law_lengths c__law_lengths k__law_lengths
  have b__law_lengths := F__law_lengths.binds (ps := ["_law_script", "_law_spans_here", "_law_scale"]) fun _ _ _ _ _ _ us hl => match us, hl with | [_, _, _], _ => rfl
  have F_law := fun_mk (st := s_law) l_law c_law k_law
  have b_law := F_law.binds (ps := ["_law_script"]) fun _ _ _ _ _ _ us hl => match us, hl with | [_], _ => rfl
  have T : Txt K mg := {
    d_zones := ⟨⟨_, _, F_zones, PySem.W.mg_of X G a_zones, b_zones⟩⟩
    d_ways_in := ⟨⟨_, _, F_ways_in, PySem.W.mg_of X G a_ways_in, b_ways_in⟩⟩
    d_pairs_of := ⟨⟨_, _, F_pairs_of, PySem.W.mg_of X G a_pairs_of, b_pairs_of⟩⟩
    d_grain := ⟨⟨_, _, F_grain, PySem.W.mg_of X G a_grain, b_grain⟩⟩
    d_length_bounds := ⟨⟨_, _, F_length_bounds, PySem.W.mg_of X G a_length_bounds, b_length_bounds⟩⟩
    d_point_bounds := ⟨⟨_, _, F_point_bounds, PySem.W.mg_of X G a_point_bounds, b_point_bounds⟩⟩
    d_set_bounds := ⟨⟨_, _, F_set_bounds, PySem.W.mg_of X G a_set_bounds, b_set_bounds⟩⟩
    d_bounds := ⟨⟨_, _, F_bounds, PySem.W.mg_of X G a_bounds, b_bounds⟩⟩
    d_least_bounds := ⟨⟨_, _, F_least_bounds, PySem.W.mg_of X G a_least_bounds, b_least_bounds⟩⟩
    d_moved := ⟨⟨_, _, F_moved, PySem.W.mg_of X G a_moved, b_moved⟩⟩
    d_ring_behind := ⟨⟨_, _, F_ring_behind, PySem.W.mg_of X G a_ring_behind, b_ring_behind⟩⟩
    d_timed := ⟨⟨_, _, F_timed, PySem.W.mg_of X G a_timed, b_timed⟩⟩
    d__law_cell_at := ⟨⟨_, _, F__law_cell_at, PySem.W.mg_of X G a__law_cell_at, b__law_cell_at⟩⟩
    d__law_whole := ⟨⟨_, _, F__law_whole, PySem.W.mg_of X G a__law_whole, b__law_whole⟩⟩
    d__law_mixed := ⟨⟨_, _, F__law_mixed, PySem.W.mg_of X G a__law_mixed, b__law_mixed⟩⟩
    d__law_zones := ⟨⟨_, _, F__law_zones, PySem.W.mg_of X G a__law_zones, b__law_zones⟩⟩
    d__law_zone := ⟨⟨_, _, F__law_zone, PySem.W.mg_of X G a__law_zone, b__law_zone⟩⟩
    d__law_way := ⟨⟨_, _, F__law_way, PySem.W.mg_of X G a__law_way, b__law_way⟩⟩
    d__law_spans := ⟨⟨_, _, F__law_spans, PySem.W.mg_of X G a__law_spans, b__law_spans⟩⟩
    d__law_lengths := ⟨⟨_, _, F__law_lengths, PySem.W.mg_of X G a__law_lengths, b__law_lengths⟩⟩
    z_all := PySem.W.mg_none_of X G z_all
    z_bool := PySem.W.mg_none_of X G z_bool
    z_int := PySem.W.mg_none_of X G z_int
    z_isinstance := PySem.W.mg_none_of X G z_isinstance
    z_len := PySem.W.mg_none_of X G z_len
    z_list := PySem.W.mg_none_of X G z_list
    z_max := PySem.W.mg_none_of X G z_max
    z_min := PySem.W.mg_none_of X G z_min
    z_range := PySem.W.mg_none_of X G z_range
    z_tuple := PySem.W.mg_none_of X G z_tuple
    c_ZONES := ⟨⟨_, 6, PySem.W.mg_of X G n_ZONES, r_ZONES⟩⟩
  }
  have e := hfa.symm.trans (PySem.W.mg_of X G a_law)
  cases e
  refine ⟨PySem.W.fnOf "law" "law" (defArgs s_law) (defBody s_law) (defScope s_law) .none kV_law dc_law pm_law an_law cd_law ct_law, fun s v => .of_eq rfl, fun base _ _ => ?_⟩
  exact fn_law T base F_law
end G
open PySem PySem.W PyProof.Rows
set_option maxRecDepth 100000 in
set_option maxHeartbeats 0 in
theorem PySem.Challenge.cw_spanways_k15_times_of_single_ways_holds : PySem.Challenge.rw_spanways_k15_times_of_single_ways.Holds := by
  w_on; o_law; k_head; (case hw => w_witness2)
  k_fill
  refine SM.law_walk (l := PySem.Challenge.rw_spanways_k15_times_of_single_ways) (F := G.F_law) (k := 4) (x := "_law_script") rfl rfl ⟨rfl, by decide, by decide⟩ (fun w h Y => PySem.W.kIn_of Y) ?F G.law_true
  case F =>
    intro w mg fa h KX GN hmg
    refine' G.all_mk KX GN hmg ?a_zones ?l_zones ?c_zones ?k_zones ?a_ways_in ?l_ways_in ?c_ways_in ?k_ways_in ?a_pairs_of ?l_pairs_of ?c_pairs_of ?k_pairs_of ?a_grain ?l_grain ?c_grain ?k_grain ?a_length_bounds ?l_length_bounds ?c_length_bounds ?k_length_bounds ?a_point_bounds ?l_point_bounds ?c_point_bounds ?k_point_bounds ?a_set_bounds ?l_set_bounds ?c_set_bounds ?k_set_bounds ?a_bounds ?l_bounds ?c_bounds ?k_bounds ?a_least_bounds ?l_least_bounds ?c_least_bounds ?k_least_bounds ?a_moved ?l_moved ?c_moved ?k_moved ?a_ring_behind ?l_ring_behind ?c_ring_behind ?k_ring_behind ?a_timed ?l_timed ?c_timed ?k_timed ?a__law_cell_at ?l__law_cell_at ?c__law_cell_at ?k__law_cell_at ?a__law_whole ?l__law_whole ?c__law_whole ?k__law_whole ?a__law_mixed ?l__law_mixed ?c__law_mixed ?k__law_mixed ?a__law_zones ?l__law_zones ?c__law_zones ?k__law_zones ?a__law_zone ?l__law_zone ?c__law_zone ?k__law_zone ?a__law_way ?l__law_way ?c__law_way ?k__law_way ?a__law_spans ?l__law_spans ?c__law_spans ?k__law_spans ?a__law_lengths ?l__law_lengths ?c__law_lengths ?k__law_lengths ?a_law ?l_law ?c_law ?k_law ?z_all ?z_bool ?z_int ?z_isinstance ?z_len ?z_list ?z_max ?z_min ?z_range ?z_tuple ?n_ZONES ?r_ZONES
    (case a_zones => k_is)
    (case l_zones => k_is)
    (case c_zones => k_is)
    (case k_zones => k_is)
    (case a_ways_in => k_is)
    (case l_ways_in => k_is)
    (case c_ways_in => k_is)
    (case k_ways_in => k_is)
    (case a_pairs_of => k_is)
    (case l_pairs_of => k_is)
    (case c_pairs_of => k_is)
    (case k_pairs_of => k_is)
    (case a_grain => k_is)
    (case l_grain => k_is)
    (case c_grain => k_is)
    (case k_grain => k_is)
    (case a_length_bounds => k_is)
    (case l_length_bounds => k_is)
    (case c_length_bounds => k_is)
    (case k_length_bounds => k_is)
    (case a_point_bounds => k_is)
    (case l_point_bounds => k_is)
    (case c_point_bounds => k_is)
    (case k_point_bounds => k_is)
    (case a_set_bounds => k_is)
    (case l_set_bounds => k_is)
    (case c_set_bounds => k_is)
    (case k_set_bounds => k_is)
    (case a_bounds => k_is)
    (case l_bounds => k_is)
    (case c_bounds => k_is)
    (case k_bounds => k_is)
    (case a_least_bounds => k_is)
    (case l_least_bounds => k_is)
    (case c_least_bounds => k_is)
    (case k_least_bounds => k_is)
    (case a_moved => k_is)
    (case l_moved => k_is)
    (case c_moved => k_is)
    (case k_moved => k_is)
    (case a_ring_behind => k_is)
    (case l_ring_behind => k_is)
    (case c_ring_behind => k_is)
    (case k_ring_behind => k_is)
    (case a_timed => k_is)
    (case l_timed => k_is)
    (case c_timed => k_is)
    (case k_timed => k_is)
    (case a__law_cell_at => k_is)
    (case l__law_cell_at => k_is)
    (case c__law_cell_at => k_is)
    (case k__law_cell_at => k_is)
    (case a__law_whole => k_is)
    (case l__law_whole => k_is)
    (case c__law_whole => k_is)
    (case k__law_whole => k_is)
    (case a__law_mixed => k_is)
    (case l__law_mixed => k_is)
    (case c__law_mixed => k_is)
    (case k__law_mixed => k_is)
    (case a__law_zones => k_is)
    (case l__law_zones => k_is)
    (case c__law_zones => k_is)
    (case k__law_zones => k_is)
    (case a__law_zone => k_is)
    (case l__law_zone => k_is)
    (case c__law_zone => k_is)
    (case k__law_zone => k_is)
    (case a__law_way => k_is)
    (case l__law_way => k_is)
    (case c__law_way => k_is)
    (case k__law_way => k_is)
    (case a__law_spans => k_is)
    (case l__law_spans => k_is)
    (case c__law_spans => k_is)
    (case k__law_spans => k_is)
    (case a__law_lengths => k_is)
    (case l__law_lengths => k_is)
    (case c__law_lengths => k_is)
    (case k__law_lengths => k_is)
    (case a_law => k_is)
    (case l_law => k_is)
    (case c_law => k_is)
    (case k_law => k_is)
    (case z_all => k_is)
    (case z_bool => k_is)
    (case z_int => k_is)
    (case z_isinstance => k_is)
    (case z_len => k_is)
    (case z_list => k_is)
    (case z_max => k_is)
    (case z_min => k_is)
    (case z_range => k_is)
    (case z_tuple => k_is)
    (case n_ZONES => k_is)
    (case r_ZONES => kernel_rfl)
