import PyProof.Rows.All
import Wide.All
import OpenK.AllK
import Wide.FinOn
import Lean
import PyProof.EqAt
import PyProof.EqKinds
import PyProof.TupleCall
import PySem.SetTable
import PyProof.Rows.SetFrom
import PyProof.TupleKey
import PyProof.DictKinds
import PyProof.SetKind
import PyProof.IsRules
import PySem.Challenge.RW_spanways_k13_bounds
set_option Elab.async false
set_option linter.all false
set_option maxRecDepth 100000
namespace L2
open PySem PySem.Spec PyProof.Rows

abbrev Key := Sum Int Str
def keyIs : Key → Value → Bool
  | .inl k, v => Value.isInt k v
  | .inr x, v => Value.isStrOf x v
def keyH (w : World) : Key → Int
  | .inl k => hashInt k
  | .inr x => hashStr w x
theorem keyIs_shape : ∀ {k : Key} {v : Value}, keyIs k v = true → (∃ i t, k = Sum.inl i ∧ v = Value.int i t) ∨ (∃ x t, k = Sum.inr x ∧ v = Value.str x t)
  | .inl i, v, h => by
    obtain ⟨t, e⟩ := Value.isInt_shape (k := i) (v := v) h
    exact .inl ⟨i, t, rfl, e⟩
  | .inr x, v, h => by
    obtain ⟨t, e⟩ := Value.isStrOf_shape (x := x) (v := v) h
    exact .inr ⟨x, t, rfl, e⟩
theorem key_ll (a b : Int) : decide ((Sum.inl a : Key) = Sum.inl b) = (a == b) := by
  by_cases e : a = b
  · subst e; simp
  · have h : ¬ (Sum.inl a : Key) = Sum.inl b := fun q => e (Sum.inl.inj q)
    rw [decide_eq_false h]
    exact (beq_eq_false_iff_ne.mpr e).symm
theorem key_rr (a b : Str) : decide ((Sum.inr a : Key) = Sum.inr b) = decide (a = b) := by
  by_cases e : a = b
  · subst e; simp
  · have h : ¬ (Sum.inr a : Key) = Sum.inr b := fun q => e (Sum.inr.inj q)
    rw [decide_eq_false h, decide_eq_false e]
theorem key_lr (a : Int) (b : Str) : decide ((Sum.inl a : Key) = Sum.inr b) = false := decide_eq_false (fun q => nomatch q)
theorem key_rl (a : Str) (b : Int) : decide ((Sum.inr a : Key) = Sum.inl b) = false := decide_eq_false (fun q => nomatch q)

def mixKind (prog : Program) (w : World) : PySem.KeyKind prog w Key where
  is := keyIs
  hash := keyH w
  inj := fun v a b ha hb => by
    rcases keyIs_shape ha with ⟨i, t, rfl, rfl⟩ | ⟨x, t, rfl, rfl⟩
    · rcases keyIs_shape hb with ⟨j, u, rfl, e⟩ | ⟨y, u, rfl, e⟩
      · injection e with e1 _; rw [e1]
      · exact nomatch e
    · rcases keyIs_shape hb with ⟨j, u, rfl, e⟩ | ⟨y, u, rfl, e⟩
      · exact nomatch e
      · injection e with e1 _; rw [e1]
  byValue := fun k v h => by
    rcases keyIs_shape h with ⟨i, t, rfl, rfl⟩ | ⟨x, t, rfl, rfl⟩ <;> rfl
  pyHash := fun hv h => by
    rcases keyIs_shape hv with ⟨i, t, rfl, rfl⟩ | ⟨x, t, rfl, rfl⟩
    · exact wpAny_pyHash_int h
    · exact wpAny_pyHash_str h
  eqBool := fun hu hv h => by
    rcases keyIs_shape hu with ⟨i, t, rfl, rfl⟩ | ⟨x, t, rfl, rfl⟩
    · rcases keyIs_shape hv with ⟨j, u, rfl, rfl⟩ | ⟨y, u, rfl, rfl⟩
      · rw [key_ll] at h; exact wpAny_eqBool_int h
      · rw [key_lr] at h; exact SeqAt.EqAt.int_str i t y u _ _ _ _ h
    · rcases keyIs_shape hv with ⟨j, u, rfl, rfl⟩ | ⟨y, u, rfl, rfl⟩
      · rw [key_rl] at h; exact SeqAt.EqAt.str_int x t j u _ _ _ _ h
      · rw [key_rr] at h; exact wpAny_eqBool_str h
  «strs» := fun k x t v h => by
    rcases keyIs_shape h with ⟨i, u, rfl, e⟩ | ⟨y, u, rfl, e⟩
    · exact nomatch e
    · injection e with e1 _
      subst e1
      cases v <;> rfl

end L2

namespace L2
open PySem PySem.Spec PyProof.Rows

inductive V where
  | non | bl (b : Bool) | int (i : Int) | str (x : Str) | byt (b : Array UInt8) | flt (b : UInt64) | ref (a : Addr) | ty (n : String)
  deriving DecidableEq

def RelV : V → Value → Prop
  | .non, u => u = Value.none
  | .bl b, u => u = Value.bool b
  | .int i, u => ∃ t, u = Value.int i t
  | .str x, u => ∃ t, u = Value.str x t
  | .byt b, u => ∃ t, u = Value.bytes b t
  | .flt b, u => ∃ t, u = Value.float b t
  | .ref a, u => u = Value.ref a
  | .ty n, u => u = Value.type n

abbrev Vals : List V → List Value → Prop := Paired RelV
theorem Vals.length {xs : List V} {us : List Value} (r : Vals xs us) : xs.length = us.length := Paired.length r
theorem Vals.get : ∀ {xs : List V} {us : List Value} {i : Nat} {x : V}, Vals xs us → xs[i]? = some x → ∃ u, us[i]? = some u ∧ RelV x u
  | _, _, _, _, .nil, e => by simp at e
  | _, _, 0, _, .cons r _, e => by simp at e; subst e; exact ⟨_, rfl, r⟩
  | _, _, i + 1, x, .cons _ t, e => by
    obtain ⟨u, h1, h2⟩ := Vals.get (i := i) (x := x) t (by simpa using e)
    exact ⟨u, by simpa using h1, h2⟩
theorem Vals.set {x : V} {u : Value} (r : RelV x u) : ∀ {xs : List V} {us : List Value} (i : Nat), Vals xs us → Vals (xs.set i x) (us.set i u)
  | _, _, _, .nil => .nil
  | _, _, 0, .cons _ t => .cons r t
  | _, _, i + 1, .cons q t => .cons q (Vals.set r i t)
theorem Vals.append : ∀ {xs ys : List V} {us ws : List Value}, Vals xs us → Vals ys ws → Vals (xs ++ ys) (us ++ ws)
  | _, _, _, _, .nil, s => s
  | _, _, _, _, .cons r t, s => .cons r (Vals.append t s)
theorem Vals.take : ∀ {xs : List V} {us : List Value} (n : Nat), Vals xs us → Vals (xs.take n) (us.take n)
  | _, _, 0, _ => .nil
  | _, _, _ + 1, .nil => .nil
  | _, _, n + 1, .cons r t => .cons r (Vals.take n t)
theorem Vals.drop : ∀ {xs : List V} {us : List Value} (n : Nat), Vals xs us → Vals (xs.drop n) (us.drop n)
  | _, _, 0, r => r
  | _, _, _ + 1, .nil => .nil
  | _, _, n + 1, .cons _ t => Vals.drop n t

def RelO : Option V → Option Value → Prop
  | some v, some u => RelV v u
  | none, none => True
  | _, _ => False
def KV {κ : Type} : List (κ × V) → List (κ × Value) → Prop := Paired fun (p : κ × V) (q : κ × Value) => p.1 = q.1 ∧ RelV p.2 q.2

def kV : Key → V
  | .inl i => .int i
  | .inr x => .str x

inductive HO where
  /-- a list -/
  | lst (xs : List V)
  /-- a tuple (never changes) -/
  | tup (xs : List V)
  /-- a dict whose keys are ints and texts; one whose keys are tuples of ints and texts (the empty one is both) -/
  | dK (kvs : List (Key × V)) | dT (kvs : List (List Key × V))
  /-- a set of ints: its members, its size -/
  | set (S : Int → Bool) (n : Nat)
  /-- an instance of the class at C, its dict at dx, its attributes -/
  | ins (C dx : Addr) (fs : List (Str × V))
  /-- the dict of the instance at x -/
  | own (x : Addr)
  /-- the dict of an exception -/
  | xd (fs : List (Str × V))
  /-- a bound method, f of x -/
  | met (f x : Addr)
  /-- a range object lo, lo + 1, .. below hi -/
  | rng (lo hi : Int)
  /-- a thing that is known to the object (the script; a dict while a loop walks it): read, never written while it is so -/
  | frz (o : Obj) (u : HO)
  /-- a code object's table -/
  | tbl (ps : Array Value)
  /-- any other thing, by what is true of its one object (a def of one's own: SetO a S n := HO.ext fun h => ..) -/
  | ext (φ : Heap → Prop)

abbrev Hp := Addr → Option HO
def upd (H : Hp) (a : Addr) (o : HO) : Hp := fun b => if b = a then some o else H b
theorem upd_same {H : Hp} {a : Addr} {o : HO} : upd H a o a = some o := by unfold upd; rw [if_pos rfl]
theorem upd_ne {H : Hp} {a b : Addr} {o : HO} (h : b ≠ a) : upd H a o b = H b := by unfold upd; rw [if_neg h]
theorem ne_of_none {H : Hp} {a b : Addr} {o : HO} (h : H a = some o) (h' : H b = none) : a ≠ b := by
  intro e; subst e; rw [h] at h'; cases h'

section
variable (P : Program) (w : World)
def ObjOk (H : Hp) (h : Heap) (a : Addr) : HO → Prop
  | .lst xs => xs.length ≤ sizeLine ∧ ∃ (its : List Value) (n : Nat), Vals xs its ∧ h.get? a = some { cls := .type "list", data := .seq its.toArray n }
  | .tup xs => xs.length ≤ sizeLine ∧ ∃ its : List Value, Vals xs its ∧ IsTup h a its.toArray
  | .dK kvs => kvs.length ≤ sizeLine ∧ (a == sysModules) = false ∧ ∃ vs, KV kvs vs ∧ h.DictOf (mixKind P w) a vs
  | .dT kvs => kvs.length ≤ sizeLine ∧ (a == sysModules) = false ∧ ∃ xs : List (List Key × Addr × Value),
      Paired (fun (p : List Key × V) (q : List Key × Addr × Value) => p.1 = q.1 ∧ H q.2.1 = some (.tup (p.1.map kV)) ∧ RelV p.2 q.2.2) kvs xs ∧
      ∃ o es ep, h.get? a = some o ∧ o.ExactDict ∧ o.data = .dict es ep ∧ es.toList = xs.map (entryOfKey (tupleKind (mixKind P w))) ∧ (xs.map (·.1)).Nodup
  | .set S n => h.SetOf (intKind P w) a S n
  | .ins C dx fs => H dx = some (.own a) ∧ fs.length ≤ 1000 ∧ dx ≠ a ∧ h.get? a = some (PySem.W.instObj C dx) ∧
      ∃ mA, h.Ns1 dx mA ∧ (∀ f, RelO (fs.lookup f) (mA f)) ∧ PySem.Within mA (fs.map (·.1))
  | .own _ => ∃ o, h.get? a = some o
  | .xd fs => ∃ mA, h.Ns1 a mA ∧ ∀ f, RelO (fs.lookup f) (mA f)
  | .rng lo hi => ∃ t u v, h.get? a = some { cls := .type "range", data := .fields #[.int lo t, .int hi u, .int 1 v] }
  | .frz o u => h.get? a = some o ∧ ObjOk H h a u
  | .tbl ps => h.get? a = some { cls := .none, data := .fields ps }
  | .met f x => h.get? a = some (PySem.W.methodObj (.ref f) (.ref x))
  | .ext φ => φ h ∧ (∃ o, h.get? a = some o) ∧ ∀ h1 h2 : Heap, φ h1 → (∀ o, h1.get? a = some o → h2.get? a = some o) → φ h2
def HOk (H : Hp) (h : Heap) : Prop := ∀ a o, H a = some o → ObjOk P w H h a o
end

section
variable {P : Program} {w : World} {H H' : Hp} {h h' : Heap} {a : Addr} {o : HO}
theorem ObjOk.lt (x : ObjOk P w H h a o) : a < h.objs.size := by
  cases o with
  | lst xs => obtain ⟨_, _, _, _, e⟩ := x; exact Heap.lt_size e
  | tup xs => obtain ⟨_, _, _, p⟩ := x; exact p.lt
  | dK kvs => obtain ⟨_, _, _, _, o, _, _, e, _⟩ := x; exact Heap.lt_size e
  | dT kvs => obtain ⟨_, _, _, _, o, _, _, e, _⟩ := x; exact Heap.lt_size e
  | set S n => obtain ⟨o, _, _, _, e, _⟩ := x; exact Heap.lt_size e
  | ins C dx fs => obtain ⟨_, _, _, e, _⟩ := x; exact Heap.lt_size e
  | own y => obtain ⟨_, e⟩ := x; exact Heap.lt_size e
  | xd fs => obtain ⟨_, ⟨_, _, _, e, _⟩, _⟩ := x; exact Heap.lt_size e
  | rng lo hi => obtain ⟨_, _, _, e⟩ := x; exact Heap.lt_size e
  | frz ob u => obtain ⟨e, _⟩ := x; exact Heap.lt_size e
  | tbl ps => exact Heap.lt_size (show h.get? a = some _ from x)
  | met f y => exact Heap.lt_size (show h.get? a = some _ from x)
  | ext φ => obtain ⟨_, ⟨_, e⟩, _⟩ := x; exact Heap.lt_size e
theorem Paired.mapP {α β : Type} {F G : α → β → Prop} : ∀ {l₁ : List α} {l₂ : List β}, Paired F l₁ l₂ → (∀ a b, F a b → G a b) → Paired G l₁ l₂
  | _, _, .nil, _ => .nil
  | _, _, .cons r t, f => .cons (f _ _ r) (Paired.mapP t f)
theorem ObjOk.stay (x : ObjOk P w H h a o) (k : ∀ b u, (b = a ∨ H b = some (.own a)) → h.get? b = some u → h'.get? b = some u)
    (ho : ∀ b, H b = some (.own a) → H' b = some (.own a)) (ht : ∀ b xs, H b = some (.tup xs) → H' b = some (.tup xs)) : ObjOk P w H' h' a o := by
  induction o with
  | lst xs => obtain ⟨z, its, n, r, e⟩ := x; exact ⟨z, its, n, r, k _ _ (.inl rfl) e⟩
  | tup xs => obtain ⟨z, its, r, ob, e, c⟩ := x; exact ⟨z, its, r, ob, k _ _ (.inl rfl) e, c⟩
  | dK kvs => obtain ⟨z, y, vs, r, ob, es, ep, e, c⟩ := x; exact ⟨z, y, vs, r, ob, es, ep, k _ _ (.inl rfl) e, c⟩
  | dT kvs =>
    obtain ⟨z, y, xs, r, ob, es, ep, e, c⟩ := x
    exact ⟨z, y, xs, Paired.mapP r fun p q z => ⟨z.1, ht _ _ z.2.1, z.2.2⟩, ob, es, ep, k _ _ (.inl rfl) e, c⟩
  | set S n => obtain ⟨ob, es, ep, t, e, c⟩ := x; exact ⟨ob, es, ep, t, k _ _ (.inl rfl) e, c⟩
  | ins C dx fs =>
    obtain ⟨d, z, ne, e, mA, ⟨od, es, ep, e2, c⟩, r⟩ := x
    exact ⟨ho _ d, z, ne, k _ _ (.inl rfl) e, mA, ⟨od, es, ep, k _ _ (.inr d) e2, c⟩, r⟩
  | own y => obtain ⟨ob, e⟩ := x; exact ⟨ob, k _ _ (.inl rfl) e⟩
  | xd fs => obtain ⟨mA, ⟨od, es, ep, e, c⟩, r⟩ := x; exact ⟨mA, ⟨od, es, ep, k _ _ (.inl rfl) e, c⟩, r⟩
  | rng lo hi => obtain ⟨t, u, v, e⟩ := x; exact ⟨t, u, v, k _ _ (.inl rfl) e⟩
  | frz ob u ih => obtain ⟨e, q⟩ := x; exact ⟨k _ _ (.inl rfl) e, ih q⟩
  | tbl ps =>
    have e : h.get? a = some { cls := .none, data := .fields ps } := x
    show h'.get? a = some { cls := .none, data := .fields ps }
    exact k a _ (.inl rfl) e
  | met f y =>
    have e : h.get? a = some (PySem.W.methodObj (.ref f) (.ref y)) := x
    show h'.get? a = some (PySem.W.methodObj (.ref f) (.ref y))
    exact k a _ (.inl rfl) e
  | ext φ => obtain ⟨p, ⟨o, e⟩, st⟩ := x; exact ⟨st _ _ p fun o q => k _ _ (.inl rfl) q, ⟨o, k _ _ (.inl rfl) e⟩, st⟩
theorem HOk.lt (x : HOk P w H h) (e : H a = some o) : a < h.objs.size := (x a o e).lt
theorem HOk.fresh (x : HOk P w H h) (e : h.objs.size ≤ a) : H a = none := by
  cases q : H a with
  | none => rfl
  | some u => exact absurd (Nat.lt_of_lt_of_le (x.lt q) e) (Nat.lt_irrefl _)
theorem HOk.kept (x : HOk P w H h) (k : ∀ b u, h.get? b = some u → h'.get? b = some u) : HOk P w H h' := fun a o e =>
  (x a o e).stay (fun b u _ q => k b u q) (fun _ q => q) fun _ _ q => q
theorem HOk.laid (x : HOk P w H h) (k : ∀ b u, h.get? b = some u → h'.get? b = some u) (hp : h.objs.size ≤ a) (new : ObjOk P w (upd H a o) h' a o) : HOk P w (upd H a o) h' := fun b u e => by
  have hn := x.fresh hp
  by_cases hb : b = a
  · subst hb; rw [upd_same] at e; cases e; exact new
  · rw [upd_ne hb] at e
    exact (x b u e).stay (fun c v _ q => k c v q) (fun c q => by rw [upd_ne (ne_of_none q hn)]; exact q) fun c xs q => by rw [upd_ne (ne_of_none q hn)]; exact q
end

def Rd (H : Hp) (a : Addr) (u : HO) : Prop := H a = some u ∨ ∃ o, H a = some (.frz o u)
theorem Rd.ok {P : Program} {w : World} {H : Hp} {h : Heap} {a : Addr} {u : HO} (r : Rd H a u) (x : HOk P w H h) : ObjOk P w H h a u := by
  rcases r with r | ⟨o, r⟩
  · exact x a u r
  · obtain ⟨_, q⟩ := x a _ r
    exact q
def Mut : Option HO → Prop
  | some (.lst _) => True
  | some (.dK _) => True
  | some (.dT _) => True
  | some (.set _ _) => True
  | some (.ins _ _ _) => True
  | some (.ext _) => True
  | _ => False
section
variable {P : Program} {w : World} {H : Hp} {h h' : Heap} {x e : Addr} {o' : HO}
theorem HOk.write (ok : HOk P w H h) (mu : Mut (H x)) (he : e = x ∨ H e = some (.own x)) (k : ∀ b u, b ≠ e → h.get? b = some u → h'.get? b = some u) (heo : ∃ u, h'.get? e = some u)
    (new : ObjOk P w (upd H x o') h' x o') : HOk P w (upd H x o') h' := fun b u q => by
  have nown : ∀ c y, H c = some (.own y) → c ≠ x := fun c y r z => by subst z; rw [r] at mu; exact mu
  have ntup : ∀ c xs, H c = some (.tup xs) → c ≠ x := fun c xs r z => by subst z; rw [r] at mu; exact mu
  by_cases hb : b = x
  · subst hb; rw [upd_same] at q; cases q; exact new
  · rw [upd_ne hb] at q
    by_cases hbe : b = e
    · have q' : H b = some (.own x) := by
        rcases he with z | z
        · exact absurd (hbe.trans z) hb
        · rw [hbe]; exact z
      rw [q] at q'; cases q'
      obtain ⟨v, hv⟩ := heo
      exact ⟨v, by rw [hbe]; exact hv⟩
    · refine (ok b u q).stay (fun c v hc r => k c v ?_ r) (fun c r => by rw [upd_ne (nown c b r)]; exact r) fun c xs r => by rw [upd_ne (ntup c xs r)]; exact r
      rcases hc with rfl | hc
      · exact hbe
      · rintro rfl
        rcases he with z | z
        · exact nown c b hc z
        · rw [hc] at z; cases z; exact hb rfl
end

structure Un (fs ex : List Addr) (H H' : Hp) (h h' : Heap) : Prop where
  keep : ∀ b o, h.get? b = some o → H b = none → b ∉ fs → b ∉ ex → h'.get? b = some o
  slot : ∀ b o, h.get? b = some o → H b = none → b ∈ fs → b ∉ ex → ∃ sl, h'.get? b = some { o with slots := sl }
  free : ∀ b o, h.get? b = some o → H b = none → b ∉ ex → H' b = none
  there : ∀ b o, h.get? b = some o → b ∉ ex → ∃ o', h'.get? b = some o'
  tups : ∀ b xs, H b = some (.tup xs) → H' b = some (.tup xs)
  frzs : ∀ b o u, H b = some (.frz o u) → H' b = some (.frz o u)
  tbls : ∀ b ps, H b = some (.tbl ps) → ∃ more, H' b = some (.tbl (ps ++ more))
section
variable {fs fs' ex ex' : List Addr} {H H1 H2 : Hp} {h h1 h2 h' : Heap} {a x e : Addr} {o : HO}
theorem Un.any (u : Un fs ex H H1 h h1) {b : Addr} {ob : Obj} (q : h.get? b = some ob) (n : H b = none) (hx : b ∉ ex) : ∃ sl, h1.get? b = some { ob with slots := sl } := by
  by_cases hb : b ∈ fs
  · exact u.slot b ob q n hb hx
  · exact ⟨ob.slots, u.keep b ob q n hb hx⟩
theorem Un.trans (a : Un fs ex H H1 h h1) (b : Un fs ex H1 H2 h1 h2) : Un fs ex H H2 h h2 where
  keep := fun c ob q n hc hx => b.keep c ob (a.keep c ob q n hc hx) (a.free c ob q n hx) hc hx
  slot := fun c ob q n hc hx => by
    obtain ⟨sl, e1⟩ := a.slot c ob q n hc hx
    obtain ⟨sl', e2⟩ := b.slot c _ e1 (a.free c ob q n hx) hc hx
    exact ⟨sl', e2⟩
  free := fun c ob q n hx => by
    obtain ⟨o', e1⟩ := a.there c ob q hx
    exact b.free c o' e1 (a.free c ob q n hx) hx
  there := fun c ob q hx => by
    obtain ⟨o', e1⟩ := a.there c ob q hx
    exact b.there c o' e1 hx
  tups := fun c xs q => b.tups c xs (a.tups c xs q)
  frzs := fun c ob xs q => b.frzs c ob xs (a.frzs c ob xs q)
  tbls := fun c ps q => by
    obtain ⟨m1, e1⟩ := a.tbls c ps q
    obtain ⟨m2, e2⟩ := b.tbls c _ e1
    exact ⟨m1 ++ m2, by rw [e2, Array.append_assoc]⟩
theorem Un.kept (k : ∀ b u, h.get? b = some u → h'.get? b = some u) : Un fs ex H H h h' :=
  ⟨fun b ob q _ _ _ => k b ob q, fun b ob q _ _ _ => ⟨ob.slots, k b ob q⟩, fun _ _ _ n _ => n, fun b ob q _ => ⟨ob, k b ob q⟩, fun _ _ q => q, fun _ _ _ q => q, fun _ ps q => ⟨#[], by rw [q]; simp⟩⟩
theorem Un.refl : Un fs ex H H h h := Un.kept fun _ _ q => q
theorem Un.laid (k : ∀ b u, h.get? b = some u → h'.get? b = some u) (hp : h.objs.size ≤ a) (hn : H a = none) : Un fs ex H (upd H a o) h h' where
  keep := fun b u q _ _ _ => k b u q
  slot := fun b u q _ _ _ => ⟨u.slots, k b u q⟩
  free := fun b u q n _ => by rw [upd_ne (Nat.ne_of_lt (Nat.lt_of_lt_of_le (Heap.lt_size q) hp))]; exact n
  there := fun b u q _ => ⟨u, k b u q⟩
  tups := fun b xs q => by rw [upd_ne (ne_of_none q hn)]; exact q
  frzs := fun b u xs q => by rw [upd_ne (ne_of_none q hn)]; exact q
  tbls := fun b ps q => ⟨#[], by rw [upd_ne (ne_of_none q hn), q]; simp⟩
theorem Un.write (mu : Mut (H x)) (he : e = x ∨ H e = some (.own x)) (k : ∀ b u, b ≠ e → h.get? b = some u → h'.get? b = some u) (heo : ∃ u, h'.get? e = some u) : Un fs ex H (upd H x o) h h' := by
  have hx : ∀ b, H b = none → b ≠ x := fun b n z => by subst z; rw [n] at mu; exact mu
  have hb : ∀ b, H b = none → b ≠ e := fun b n z => by
    subst z
    rcases he with r | r
    · exact hx b n r
    · rw [n] at r; cases r
  have hm : ∀ b u, H b = some u → ¬ Mut (some u) → b ≠ x := fun b u q nm z => by subst z; rw [q] at mu; exact nm mu
  refine ⟨fun b u q n _ _ => k b u (hb b n) q, fun b u q n _ _ => ⟨u.slots, k b u (hb b n) q⟩, fun b u q n _ => by rw [upd_ne (hx b n)]; exact n, fun b u q _ => ?_,
    fun b xs q => by rw [upd_ne (hm b _ q fun z => z)]; exact q, fun b u xs q => by rw [upd_ne (hm b _ q fun z => z)]; exact q, fun b ps q => ⟨#[], by rw [upd_ne (hm b _ q fun z => z), q]; simp⟩⟩
  by_cases hbe : b = e
  · subst hbe; exact heo
  · exact ⟨u, k b u hbe q⟩
theorem Un.mono (u : Un fs ex H H1 h h1) (hs : ∀ b ∈ fs, b ∈ fs') (hx : ∀ b ∈ ex, b ∈ ex') : Un fs' ex' H H1 h h1 :=
  ⟨fun b ob q n hb he => u.keep b ob q n (fun z => hb (hs b z)) fun z => he (hx b z), fun _ _ q n _ he => u.any q n fun z => he (hx _ z), fun b ob q n he => u.free b ob q n fun z => he (hx b z), fun b ob q he => u.there b ob q fun z => he (hx b z), u.tups, u.frzs, u.tbls⟩
end

def trk (h : Heap) (H : Hp) : List Addr := (List.range h.objs.size).filter fun a => (H a).isSome
def hidT (h : Heap) (H : Hp) : Heap := PySem.W.hideAll h (trk h H)
theorem hidT_size (h : Heap) (H : Hp) : (hidT h H).objs.size = h.objs.size := PySem.W.hideAll_size _ _
theorem hidT_get {h : Heap} {H : Hp} {b : Addr} {o : Obj} (e : h.get? b = some o) (n : H b = none) : (hidT h H).get? b = some o :=
  PySem.W.hideAll_get _ e fun hm => by
    have q : (H b).isSome = true := (List.mem_filter.mp hm).2
    rw [n] at q; simp at q
theorem of_hidT {h : Heap} {H : Hp} {b : Addr} {o : Obj} (e : (hidT h H).get? b = some o) : h.get? b = some o ∧ H b = none := by
  have e' : h.get? b = some o := PySem.W.of_hideAll (trk h H) e
  refine ⟨e', ?_⟩
  cases q : H b with
  | none => rfl
  | some x =>
    have hm : b ∈ trk h H := List.mem_filter.mpr ⟨List.mem_range.mpr (Heap.lt_size e'), by simp [q]⟩
    have z : (hidT h H).get? b = none := PySem.W.hideAll_none (trk h H) hm
    rw [z] at e; cases e

def allNews (g h : Heap) (L : Addr) : List (Addr × Obj) := (List.range h.objs.size).filterMap fun a => if a = L ∨ (g.get? a).isSome = true then none else (h.get? a).map fun o => (a, o)
def rest (g h : Heap) (L d : Addr) : List (Addr × Obj) := (allNews g h L).filter fun p => decide (p.1 ≠ d)
end L2

namespace L2
open PySem PySem.Spec PyProof.Rows

structure Mod (K : PySem.W.Frag) (mg : Str → Option Value) (base : Heap) : Prop where
  kin : K.In base
  glob : base.Ns mainGlobals mg
  blt : ∃ mb, base.Ns builtinsNs mb ∧ ∀ x : Str, x ≠ "__name__" → mb x = bootBuiltins x
  nolimit : base.NoLimit

structure Cx where
  prog : Program
  w : World
  K : PySem.W.Frag
  mg : Str → Option Value
  base : Heap
  A : Around
  N : List Str
  s₀ : Shared
  H₀ : Hp
  env : Env
  outer : List Env
  stack : List Env
  ex : List Addr
  fn : Str → Bool
  calm : Bool
  pn : List (Addr × Obj)
  xe : Value → Shared → Prop
def frs (l : List Env) : List Addr := l.filterMap (·.frame)
abbrev Cx.fs (X : Cx) : List Addr := frs X.outer

def Vis (sc : Scope) (x : Str) : Prop := sc.names.lookup x = some .local ∨ sc.names.lookup x = some .cell ∨ sc.names.lookup x = some .free
def Loc (sc : Scope) (x : Str) : Prop := sc.names.lookup x = some .local ∨ sc.names.lookup x = some .cell
def Look (env : Env) (h : Heap) (m : Str → Option Value) (x : Str) (u : Value) : Prop :=
  (env.kindOf x = some .local ∧ m x = some u) ∨ ((env.kindOf x = some .cell ∨ env.kindOf x = some .free) ∧ ∃ c, env.cells.lookup x = some c ∧ h.IsCell c (some u))

structure Cx.Ok (X : Cx) : Prop where
  mod : Mod X.K X.mg X.base
  kind : X.env.scope.kind = .function
  glob : X.env.globals = mainGlobals
  blt : X.env.builtins = builtinsNs
  above : X.s₀.heap.objs.size ≤ X.env.locals
  inj : ∀ x y c, X.env.cells.lookup x = some c → X.env.cells.lookup y = some c → x = y
  has : ∀ x, (X.env.kindOf x = some .cell ∨ X.env.kindOf x = some .free) → ∃ c, X.env.cells.lookup x = some c
  cab : ∀ x c, X.fn x = true → X.env.cells.lookup x = some c → X.s₀.heap.objs.size ≤ c
  hd : X.calm = true → X.A.handled = none
  frames : X.A.frames = some X.stack
  stk : X.stack = X.outer ∨ (X.stack = X.env :: X.outer ∧ X.env.frame = some X.env.locals)
  exf : ∀ b ∈ X.ex, b ≠ X.env.locals ∧ ∀ x c, X.env.cells.lookup x = some c → c ≠ b
  bs : ∀ b o, X.base.get? b = some o → X.s₀.heap.get? b = some o ∧ X.H₀ b = none
  bsz : X.base.objs.size ≤ X.s₀.heap.objs.size
  noex : ∀ b o, X.base.get? b = some o → b ∉ X.ex
  exfs : ∀ b ∈ X.ex, b ∉ X.fs
  funs : X.s₀.heap.FunFrames X.base X.outer
  frf : ∀ b ∈ X.fs, X.H₀ b = none

structure Inv (X : Cx) (pins : List (Addr × Obj)) (σ : List (Option V)) (H : Hp) (s : Shared) : Prop where
  ok : X.Ok
  os : s.os = X.s₀.os
  bare : AllBare s.gens
  base : Un X.fs X.ex X.H₀ H X.s₀.heap s.heap
  loc : ∃ m, s.heap.Ns X.env.locals m ∧ ∀ (i : Nat) (x : Str) (v : V), X.N[i]? = some x → σ[i]? = some (some v) → Vis X.env.scope x → ∃ u, RelV v u ∧ Look X.env s.heap m x u
  cell : ∀ x c, X.env.cells.lookup x = some c → ∃ v, s.heap.IsCell c v
  free : H X.env.locals = none
  freeC : ∀ x c, X.env.cells.lookup x = some c → H c = none
  pin : ∀ p ∈ X.pn ++ pins, s.heap.get? p.1 = some p.2 ∧ H p.1 = none ∧ p.1 ≠ X.env.locals ∧ p.1 ∉ X.fs ∧ ∀ v, p.2.data ≠ .cell v
  hok : HOk X.prog X.w H s.heap
  len : σ.length = X.N.length

section
variable {X : Cx} {pins : List (Addr × Obj)} {σ : List (Option V)} {H H' : Hp} {s : Shared} {h' : Heap}

theorem Cx.Ok.nofr (ok : X.Ok) {b : Addr} {o : Obj} (e : X.base.get? b = some o) : b ∉ X.fs := fun hb => by
  have := (ok.funs.mem hb).1
  rw [e] at this; cases this
theorem Inv.bs (I : Inv X pins σ H s) : ∀ b o, X.base.get? b = some o → s.heap.get? b = some o ∧ H b = none := fun b o e =>
  ⟨I.base.keep b o (I.ok.bs b o e).1 (I.ok.bs b o e).2 (I.ok.nofr e) (I.ok.noex b o e), I.base.free b o (I.ok.bs b o e).1 (I.ok.bs b o e).2 (I.ok.noex b o e)⟩
theorem Inv.bk (I : Inv X pins σ H s) : ∀ b o, X.base.get? b = some o → s.heap.get? b = some o := fun b o e => (I.bs b o e).1
theorem Inv.mod (I : Inv X pins σ H s) : Mod X.K X.mg X.base := I.ok.mod
theorem Inv.kIn (I : Inv X pins σ H s) : X.K.In s.heap := I.ok.mod.kin.keeps I.bk
theorem Inv.nolimit (I : Inv X pins σ H s) : s.heap.NoLimit := I.ok.mod.nolimit.keeps I.bk
theorem Inv.lt (I : Inv X pins σ H s) : X.env.locals < s.heap.objs.size := let ⟨_, hn, _⟩ := I.loc; hn.lt
theorem Inv.sz (I : Inv X pins σ H s) : X.s₀.heap.objs.size ≤ s.heap.objs.size := Nat.le_trans I.ok.above (Nat.le_of_lt I.lt)
theorem Inv.nofs (I : Inv X pins σ H s) {a : Addr} (h : s.heap.objs.size ≤ a) : a ∉ X.fs := fun hb => by
  obtain ⟨_, o, ho, _⟩ := I.ok.funs.mem hb
  exact absurd (Nat.lt_of_lt_of_le (Heap.lt_size ho) (Nat.le_trans I.sz h)) (Nat.lt_irrefl _)
theorem Inv.cne (I : Inv X pins σ H s) : ∀ x c, X.env.cells.lookup x = some c → c ≠ X.env.locals := fun x c e z => by
  obtain ⟨v, o, ho, hd⟩ := I.cell x c e
  obtain ⟨m, ⟨o', es, ep, ho', hd', _⟩, _⟩ := I.loc
  rw [z, ho'] at ho; cases ho; rw [hd'] at hd; cases hd
theorem Inv.funs (I : Inv X pins σ H s) : s.heap.FunFrames X.base X.outer := by
  have all : ∀ (l : List Env), (∀ b ∈ frs l, b ∈ X.fs) → X.s₀.heap.FunFrames X.base l → s.heap.FunFrames X.base l := by
    intro l
    induction l with
    | nil => intro _ _; trivial
    | cons env r ih =>
      intro hs hl
      obtain ⟨hk, ⟨L, o, hf, hn, ho, hd⟩, hr⟩ := hl
      have hL : L ∈ X.fs := hs L (by unfold frs; rw [List.filterMap_cons, hf]; exact List.mem_cons_self)
      obtain ⟨sl, e⟩ := I.base.slot L o ho (I.ok.frf L hL) hL fun z => I.ok.exfs L z hL
      exact ⟨hk, ⟨L, _, hf, hn, e, hd⟩, ih (fun b hb => hs b (by unfold frs; rw [List.filterMap_cons, hf]; exact List.mem_cons_of_mem _ hb)) hr⟩
  exact all X.outer (fun _ hb => hb) I.ok.funs

theorem Inv.stack (I : Inv X pins σ H s) : s.heap.FunFrames X.base X.stack := by
  rcases I.ok.stk with e | ⟨e, hf⟩
  · rw [e]; exact I.funs
  · rw [e]
    obtain ⟨m, hn, _⟩ := I.loc
    refine .cons (by rw [I.ok.kind]; decide) hf hn ?_ I.funs
    exact Heap.get?_none_of_le (Nat.le_trans I.ok.bsz I.ok.above)
theorem Inv.stkSub (I : Inv X pins σ H s) : ∀ b ∈ frs X.stack, b ∈ X.env.locals :: X.fs := fun b hb => by
  rcases I.ok.stk with e | ⟨e, hf⟩
  · rw [e] at hb; exact List.mem_cons_of_mem _ hb
  · rw [e] at hb
    unfold frs at hb
    rw [List.filterMap_cons, hf] at hb
    exact hb
theorem Inv.stkFree (I : Inv X pins σ H s) : ∀ b ∈ frs X.stack, H b = none := fun b hb => by
  rcases List.mem_cons.mp (I.stkSub b hb) with e | hb
  · rw [e]; exact I.free
  · obtain ⟨_, o, ho, _⟩ := I.ok.funs.mem hb
    exact I.base.free b o ho (I.ok.frf b hb) fun z => I.ok.exfs b z hb

theorem Inv.step {g' : Array GenState} {t' : Nat} {d' : Drawn} {ch : List Addr} (I : Inv X pins σ H s)
    (hch : ∀ b ∈ ch, (b ∈ X.ex ∨ X.s₀.heap.objs.size ≤ b) ∧ b ≠ X.env.locals ∧ (∀ x c, X.env.cells.lookup x = some c → c ≠ b) ∧ ∀ p ∈ X.pn ++ pins, p.1 ≠ b)
    (keep : ∀ b o, b ≠ X.env.locals → b ∉ X.fs → b ∉ ch → s.heap.get? b = some o → H b = none → h'.get? b = some o)
    (slot : ∀ b o, b ≠ X.env.locals → b ∈ X.fs → b ∉ ch → s.heap.get? b = some o → H b = none → ∃ sl, h'.get? b = some { o with slots := sl }) (free : ∀ b o, b ∉ ch → s.heap.get? b = some o → H b = none → H' b = none)
    (there : ∀ b o, b ∉ ch → s.heap.get? b = some o → ∃ o', h'.get? b = some o')
    (tups : ∀ b xs, H b = some (.tup xs) → H' b = some (.tup xs)) (frzs : ∀ b o u, H b = some (.frz o u) → H' b = some (.frz o u)) (tbls : ∀ b ps, H b = some (.tbl ps) → ∃ more, H' b = some (.tbl (ps ++ more)))
    (ns : ∀ m, s.heap.Ns X.env.locals m → h'.Ns X.env.locals m) (hok : HOk X.prog X.w H' h') (hg : AllBare g') :
    Inv X pins σ H' { s with heap := h', gens := g', drawn := d', toks := t' } := by
  have neL : ∀ b o, X.s₀.heap.get? b = some o → b ≠ X.env.locals := fun b o e => Nat.ne_of_lt (Nat.lt_of_lt_of_le (Heap.lt_size e) I.ok.above)
  have neC : ∀ b o, X.s₀.heap.get? b = some o → b ∉ X.ex → b ∉ ch := fun b o e hx hb => by
    rcases (hch b hb).1 with z | z
    · exact hx z
    · exact absurd (Nat.lt_of_lt_of_le (Heap.lt_size e) z) (Nat.lt_irrefl _)
  have cellK : ∀ x c, X.env.cells.lookup x = some c → ∀ v, s.heap.IsCell c v → h'.IsCell c v := fun x c e v ⟨o, ho, hd⟩ => by
    have nch : c ∉ ch := fun z => (hch c z).2.2.1 x c e rfl
    by_cases hc : c ∈ X.fs
    · obtain ⟨sl, q⟩ := slot c o (I.cne x c e) hc nch ho (I.freeC x c e)
      exact ⟨_, q, hd⟩
    · exact ⟨o, keep c o (I.cne x c e) hc nch ho (I.freeC x c e), hd⟩
  refine ⟨I.ok, I.os, hg, ⟨fun b o e n hb hx => ?_, fun b o e n hb hx => ?_, fun b o e n hx => ?_, fun b o e hx => ?_, fun b xs e => tups b xs (I.base.tups b xs e), fun b o xs e => frzs b o xs (I.base.frzs b o xs e), fun b ps e => ?_⟩, ?_, fun x c e => ?_, ?_, fun x c e => ?_, fun p hp => ?_, hok, I.len⟩
  · exact keep b o (neL b o e) hb (neC b o e hx) (I.base.keep b o e n hb hx) (I.base.free b o e n hx)
  · obtain ⟨sl, e1⟩ := I.base.slot b o e n hb hx
    obtain ⟨sl', e2⟩ := slot b _ (neL b o e) hb (neC b o e hx) e1 (I.base.free b o e n hx)
    exact ⟨sl', e2⟩
  · obtain ⟨o', e1⟩ := I.base.there b o e hx
    exact free b o' (neC b o e hx) e1 (I.base.free b o e n hx)
  · obtain ⟨o', e1⟩ := I.base.there b o e hx
    exact there b o' (neC b o e hx) e1
  · obtain ⟨m1, e1⟩ := I.base.tbls b ps e
    obtain ⟨m2, e2⟩ := tbls b _ e1
    exact ⟨m1 ++ m2, by rw [e2, Array.append_assoc]⟩
  · obtain ⟨m, hn, hl⟩ := I.loc
    refine ⟨m, ns m hn, fun i x v e1 e2 e3 => ?_⟩
    obtain ⟨u, r, l⟩ := hl i x v e1 e2 e3
    refine ⟨u, r, ?_⟩
    rcases l with l | ⟨k, c, e, z⟩
    · exact .inl l
    · exact .inr ⟨k, c, e, cellK x c e _ z⟩
  · obtain ⟨v, z⟩ := I.cell x c e
    exact ⟨v, cellK x c e v z⟩
  · obtain ⟨m, ⟨o, _, _, ho, _⟩, _⟩ := I.loc
    exact free _ o (fun z => (hch _ z).2.1 rfl) ho I.free
  · obtain ⟨v, o, ho, hd⟩ := I.cell x c e
    exact free c o (fun z => (hch c z).2.2.1 x c e rfl) ho (I.freeC x c e)
  · obtain ⟨e, n, ne, nf, d⟩ := I.pin p hp
    have nch : p.1 ∉ ch := fun z => (hch p.1 z).2.2.2 p hp rfl
    exact ⟨keep p.1 p.2 ne nf nch e n, free p.1 p.2 nch e n, ne, nf, d⟩
theorem Inv.un {t' : Nat} (I : Inv X pins σ H s) (u : Un X.fs [] H H' s.heap h') (hok : HOk X.prog X.w H' h') : Inv X pins σ H' { s with heap := h', toks := t' } := by
  obtain ⟨m, ⟨o, es, ep, ho, r⟩, _⟩ := id I.loc
  obtain ⟨sl, hL⟩ := u.any ho I.free (by simp)
  exact I.step (g' := s.gens) (d' := s.drawn) (ch := []) (fun _ z => nomatch z) (fun b o _ hb _ e n => u.keep b o e n hb (by simp)) (fun b o _ hb _ e n => u.slot b o e n hb (by simp)) (fun b o _ e n => u.free b o e n (by simp)) (fun b o _ e => u.there b o e (by simp)) u.tups u.frzs u.tbls (fun m' hm => by
    obtain ⟨o', es', ep', ho', r'⟩ := hm
    rw [ho] at ho'; cases ho'
    exact ⟨_, es', ep', hL, r'⟩) hok I.bare
theorem Inv.call {g' : Array GenState} {t' : Nat} {d' : Drawn} {ch : List Addr} (I : Inv X pins σ H s) (u : Un (frs X.stack) ch H H' s.heap h') (hok : HOk X.prog X.w H' h') (hg : AllBare g')
    (hch : ∀ b ∈ ch, (b ∈ X.ex ∨ X.s₀.heap.objs.size ≤ b) ∧ b ≠ X.env.locals ∧ (∀ x c, X.env.cells.lookup x = some c → c ≠ b) ∧ ∀ p ∈ X.pn ++ pins, p.1 ≠ b) :
    Inv X pins σ H' { s with heap := h', gens := g', drawn := d', toks := t' } := by
  obtain ⟨m, ⟨o, es, ep, ho, r⟩, _⟩ := id I.loc
  obtain ⟨sl, hL⟩ := u.any ho I.free fun z => (hch _ z).2.1 rfl
  exact I.step (ch := ch) hch (fun b o hL hb hc e n => u.keep b o e n (fun z => (List.mem_cons.mp (I.stkSub b z)).elim hL hb) hc) (fun b o _ _ hc e n => u.any e n hc) (fun b o hc e n => u.free b o e n hc) (fun b o hc e => u.there b o e hc) u.tups u.frzs u.tbls (fun m' hm => by
    obtain ⟨o', es', ep', ho', r'⟩ := hm
    rw [ho] at ho'; cases ho'
    exact ⟨_, es', ep', hL, r'⟩) hok hg
theorem Inv.turned {t' : Nat} {it : Addr} (I : Inv X pins σ H s) (k : ∀ b o, b ≠ it → s.heap.get? b = some o → h'.get? b = some o) (hn : H it = none) (hL : it ≠ X.env.locals)
    (h1 : it ∈ X.ex ∨ X.s₀.heap.objs.size ≤ it) (h2 : ∀ x c, X.env.cells.lookup x = some c → c ≠ it) (h3 : ∀ p ∈ X.pn ++ pins, p.1 ≠ it) : Inv X pins σ H { s with heap := h', toks := t' } := by
  have nit : ∀ b u, H b = some u → b ≠ it := fun b u e z => by rw [z, hn] at e; cases e
  refine I.step (g' := s.gens) (d' := s.drawn) (ch := [it]) (fun b hb => ?_) (fun b o _ _ hc e _ => k b o (fun z => hc (by simp [z])) e) (fun b o _ _ hc e _ => ⟨o.slots, k b o (fun z => hc (by simp [z])) e⟩) (fun _ _ _ _ n => n)
    (fun b o hc e => ⟨o, k b o (fun z => hc (by simp [z])) e⟩) (fun _ _ e => e) (fun _ _ _ e => e) (fun b ps e => ⟨#[], by rw [e]; simp⟩) (fun m hm => ?_) (fun b u e => ?_) I.bare
  · have e : b = it := by simpa using hb
    subst e
    exact ⟨h1, hL, h2, h3⟩
  · obtain ⟨o, es, ep, ho, r⟩ := hm
    exact ⟨o, es, ep, k _ o (Ne.symm hL) ho, r⟩
  · refine (I.hok b u e).stay (fun c v hc q => k c v ?_ q) (fun _ q => q) fun _ _ q => q
    rcases hc with z | z
    · rw [z]; exact nit b u e
    · exact nit c _ z
theorem Inv.tok (I : Inv X pins σ H s) (t : Nat) : Inv X pins σ H { s with toks := t } := I.un (h' := s.heap) (t' := t) Un.refl I.hok
theorem Inv.kept {t' : Nat} (I : Inv X pins σ H s) (k : ∀ b u, s.heap.get? b = some u → h'.get? b = some u) : Inv X pins σ H { s with heap := h', toks := t' } := I.un (Un.kept k) (I.hok.kept k)
theorem Inv.laid {a : Addr} {o : HO} {t' : Nat} (I : Inv X pins σ H s) (k : ∀ b u, s.heap.get? b = some u → h'.get? b = some u) (hp : s.heap.objs.size ≤ a) (new : ObjOk X.prog X.w (upd H a o) h' a o) :
    Inv X pins σ (upd H a o) { s with heap := h', toks := t' } := I.un (Un.laid k hp (I.hok.fresh hp)) (I.hok.laid k hp new)
theorem Inv.write {x e : Addr} {o : HO} {t' : Nat} (I : Inv X pins σ H s) (mu : Mut (H x)) (he : e = x ∨ H e = some (.own x)) (k : ∀ b u, b ≠ e → s.heap.get? b = some u → h'.get? b = some u) (heo : ∃ u, h'.get? e = some u)
    (new : ObjOk X.prog X.w (upd H x o) h' x o) : Inv X pins σ (upd H x o) { s with heap := h', toks := t' } := I.un (Un.write mu he k heo) (I.hok.write mu he k heo new)
theorem Inv.pins_of {pins' : List (Addr × Obj)} (I : Inv X pins σ H s) (h : ∀ p ∈ pins', s.heap.get? p.1 = some p.2 ∧ H p.1 = none ∧ p.1 ≠ X.env.locals ∧ p.1 ∉ X.fs ∧ ∀ v, p.2.data ≠ .cell v) : Inv X pins' σ H s :=
  ⟨I.ok, I.os, I.bare, I.base, I.loc, I.cell, I.free, I.freeC, fun p hp => (List.mem_append.mp hp).elim (fun z => I.pin p (List.mem_append_left _ z)) (h p), I.hok, I.len⟩

theorem nodup_ix {N : List Str} (hN : N.Nodup) {i j : Nat} {x : Str} (a : N[i]? = some x) (b : N[j]? = some x) : i = j := by
  obtain ⟨h1, e1⟩ := List.getElem?_eq_some_iff.mp a
  obtain ⟨h2, e2⟩ := List.getElem?_eq_some_iff.mp b
  exact (List.getElem_inj hN).mp (e1.trans e2.symm)

theorem store_ok2 {M : Model} {A : Around} {E : Value → Shared → Prop} {i : Nat} {x : Str} {v : V} {u : Value} {Q : Unit → Shared → Prop} (I : Inv X pins σ H s) (hN : X.N.Nodup) (hi : X.N[i]? = some x) (hx : Loc X.env.scope x) (r : RelV v u)
    (h : ∀ s', Inv X pins (σ.set i (some v)) H s' → (∃ a, Heap.SameBut a s.heap s'.heap ∧ (a = X.env.locals ∨ X.env.cells.lookup x = some a)) → Q () s') (hf : X.fn x = true ∨ X.env.scope.names.lookup x = some .local := by first | exact .inl rfl | exact .inr rfl | assumption) : wpAny M A (storeName X.env x u) Q E s := by
  obtain ⟨m, hn, hl⟩ := id I.loc
  have hcls : (X.env.scope.kind == .class || (X.env.scope.kind == .module && X.env.locals != X.env.globals)) = false := by rw [I.ok.kind]; rfl
  have hiσ : i < σ.length := by rw [I.len]; exact (List.getElem?_eq_some_iff.mp hi).1
  have cne := I.cne
  have tracked : ∀ {a : Addr} {h' : Heap}, (∃ o, s.heap.get? a = some o ∧ H a = none) → Heap.SameBut a s.heap h' → HOk X.prog X.w H h' := fun {a h'} ha hs b ob e => by
    obtain ⟨_, _, hfree⟩ := ha
    refine (I.hok b ob e).stay (fun c w' hc q => (hs.2 c ?_).trans q) (fun _ q => q) fun _ _ q => q
    rintro rfl
    rcases hc with rfl | hc
    · rw [hfree] at e; cases e
    · rw [hfree] at hc; cases hc
  rcases hx with hk | hk
  · refine wpAny_storeName_local hk hn (fun h' hn' hs => ?_) hcls
    obtain ⟨oL, _, _, hoL, _⟩ := id hn
    refine h _ ⟨I.ok, I.os, I.bare, ⟨fun b o e n hb hx => ?_, fun b o e n hb hx => ?_, I.base.free, fun b o e hx => ?_, I.base.tups, I.base.frzs, I.base.tbls⟩, ⟨_, hn', fun j y v' e1 e2 e3 => ?_⟩, fun y c e => ?_, I.free, I.freeC, fun p hp => ?_, tracked ⟨oL, hoL, I.free⟩ hs, by simpa using I.len⟩ ⟨_, hs, .inl rfl⟩
    · exact (hs.2 b (Nat.ne_of_lt (Nat.lt_of_lt_of_le (Heap.lt_size e) I.ok.above))).trans (I.base.keep b o e n hb hx)
    · obtain ⟨sl, e1⟩ := I.base.slot b o e n hb hx
      exact ⟨sl, (hs.2 b (Nat.ne_of_lt (Nat.lt_of_lt_of_le (Heap.lt_size e) I.ok.above))).trans e1⟩
    · obtain ⟨o', e1⟩ := I.base.there b o e hx
      exact ⟨o', (hs.2 b (Nat.ne_of_lt (Nat.lt_of_lt_of_le (Heap.lt_size e) I.ok.above))).trans e1⟩
    · by_cases hj : j = i
      · subst hj
        rw [hi] at e1; cases e1
        rw [List.getElem?_set_self hiσ] at e2
        cases e2
        exact ⟨u, r, .inl ⟨hk, by simp⟩⟩
      · rw [List.getElem?_set_ne (Ne.symm hj)] at e2
        obtain ⟨u', r', q⟩ := hl j y v' e1 e2 e3
        refine ⟨u', r', ?_⟩
        rcases q with ⟨k, e⟩ | ⟨k, c, e, z⟩
        · refine .inl ⟨k, ?_⟩
          have : y ≠ x := fun e => hj (nodup_ix hN e1 (e ▸ hi))
          simp [this, e]
        · exact .inr ⟨k, c, e, z.sameBut hs (cne y c e)⟩
    · obtain ⟨w', z⟩ := I.cell y c e
      exact ⟨w', z.sameBut hs (cne y c e)⟩
    · obtain ⟨e, n, ne, nf, d⟩ := I.pin p hp
      exact ⟨(hs.2 p.1 ne).trans e, n, ne, nf, d⟩
  · have hfn : X.fn x = true := by
      rcases hf with z | z
      · exact z
      · rw [z] at hk; cases hk
    obtain ⟨c, hc⟩ := I.ok.has x (.inl hk)
    obtain ⟨w', z⟩ := I.cell x c hc
    refine wpAny_storeName_cell I.ok.kind hk hc z (fun h' hc' hs => ?_)
    obtain ⟨oc, hoc, hocd⟩ := id z
    refine h { s with heap := h' } ⟨I.ok, I.os, I.bare, ⟨fun b o e n hb hx => ?_, fun b o e n hb hx => ?_, I.base.free, fun b o e hx => ?_, I.base.tups, I.base.frzs, I.base.tbls⟩, ⟨m, hn.sameBut hs (Ne.symm (cne x c hc)), fun j y v' e1 e2 e3 => ?_⟩, fun y c' e => ?_, I.free, I.freeC, fun p hp => ?_, tracked ⟨oc, hoc, I.freeC x c hc⟩ hs, by simpa using I.len⟩ ⟨c, hs, .inr hc⟩
    · exact (hs.2 b (Nat.ne_of_lt (Nat.lt_of_lt_of_le (Heap.lt_size e) (I.ok.cab x c hfn hc)))).trans (I.base.keep b o e n hb hx)
    · obtain ⟨sl, e1⟩ := I.base.slot b o e n hb hx
      exact ⟨sl, (hs.2 b (Nat.ne_of_lt (Nat.lt_of_lt_of_le (Heap.lt_size e) (I.ok.cab x c hfn hc)))).trans e1⟩
    · obtain ⟨o', e1⟩ := I.base.there b o e hx
      exact ⟨o', (hs.2 b (Nat.ne_of_lt (Nat.lt_of_lt_of_le (Heap.lt_size e) (I.ok.cab x c hfn hc)))).trans e1⟩
    · by_cases hj : j = i
      · subst hj
        rw [hi] at e1; cases e1
        rw [List.getElem?_set_self hiσ] at e2
        cases e2
        exact ⟨u, r, .inr ⟨.inl hk, c, hc, hc'⟩⟩
      · rw [List.getElem?_set_ne (Ne.symm hj)] at e2
        obtain ⟨u', r', q⟩ := hl j y v' e1 e2 e3
        refine ⟨u', r', ?_⟩
        rcases q with q | ⟨k, c', e, z'⟩
        · exact .inl q
        · refine .inr ⟨k, c', e, z'.sameBut hs ?_⟩
          rintro rfl
          exact hj (nodup_ix hN e1 (I.ok.inj _ _ _ e hc ▸ hi))
    · by_cases hcc : c' = c
      · subst hcc; exact ⟨_, hc'⟩
      · obtain ⟨w2, z2⟩ := I.cell y c' e
        exact ⟨w2, z2.sameBut hs hcc⟩
    · obtain ⟨e, n, ne, nf, d⟩ := I.pin p hp
      refine ⟨(hs.2 p.1 ?_).trans e, n, ne, nf, d⟩
      intro q
      rw [q, hoc] at e
      have q' : oc = p.2 := Option.some.inj e
      exact d w' (by rw [← q']; exact hocd)
theorem store_ok {M : Model} {A : Around} {E : Value → Shared → Prop} {i : Nat} {x : Str} {v : V} {u : Value} {Q : Unit → Shared → Prop} (I : Inv X pins σ H s) (hN : X.N.Nodup) (hi : X.N[i]? = some x) (hx : Loc X.env.scope x) (r : RelV v u)
    (h : ∀ s', Inv X pins (σ.set i (some v)) H s' → Q () s') (hf : X.fn x = true ∨ X.env.scope.names.lookup x = some .local := by first | exact .inl rfl | exact .inr rfl | assumption) : wpAny M A (storeName X.env x u) Q E s :=
  store_ok2 I hN hi hx r (fun s' I' _ => h s' I') hf
theorem Inv.call' {s' : Shared} {ch : List Addr} (I : Inv X pins σ H s) (ho : s'.os = s.os) (u : Un (frs X.stack) ch H H' s.heap s'.heap) (hok : HOk X.prog X.w H' s'.heap) (hg : AllBare s'.gens)
    (hch : ∀ b ∈ ch, (b ∈ X.ex ∨ X.s₀.heap.objs.size ≤ b) ∧ b ≠ X.env.locals ∧ (∀ x c, X.env.cells.lookup x = some c → c ≠ b) ∧ ∀ p ∈ X.pn ++ pins, p.1 ≠ b) : Inv X pins σ H' s' := by
  obtain ⟨h', g', d', t', o'⟩ := s'
  have e : o' = s.os := ho
  subst e
  exact I.call (g' := g') (t' := t') (d' := d') u hok hg hch
end

abbrev XK := Value → Option Addr → Hp → Prop
abbrev St := List (Option V)
abbrev VK := V → Hp → Prop
abbrev TE := St → Hp → VK → Prop
abbrev TT := St → Hp → (Bool → Hp → Prop) → Prop
abbrev TA := St → Hp → (List V → Hp → Prop) → Prop
structure Ends where
  nx : St → Hp → Prop
  rt : VK
  bk : St → Hp → Prop := fun _ _ => False
  ct : St → Hp → Prop := fun _ _ => False
abbrev TS := Ends → St → Hp → Prop

def EP (X : Cx) (pins : List (Addr × Obj)) (σ : St) (Q : VK) (u : Value) (s' : Shared) : Prop := ∃ v H', Inv X pins σ H' s' ∧ RelV v u ∧ Q v H'
def TP (X : Cx) (pins : List (Addr × Obj)) (σ : St) (Q : Bool → Hp → Prop) (b : Bool) (s' : Shared) : Prop := ∃ H', Inv X pins σ H' s' ∧ Q b H'
def AP (X : Cx) (pins : List (Addr × Obj)) (σ : St) (Q : List V → Hp → Prop) (us : List Value) (s' : Shared) : Prop := ∃ vs H', Inv X pins σ H' s' ∧ Vals vs us ∧ Q vs H'
def SP (X : Cx) (pins : List (Addr × Obj)) (D : Ends) (f : Flow) (s' : Shared) : Prop :=
  match f with
  | .next => ∃ σ' H', Inv X pins σ' H' s' ∧ D.nx σ' H'
  | .brk => ∃ σ' H', Inv X pins σ' H' s' ∧ D.bk σ' H'
  | .cont => ∃ σ' H', Inv X pins σ' H' s' ∧ D.ct σ' H'
  | .ret u => ∃ v σ' H', Inv X pins σ' H' s' ∧ RelV v u ∧ D.rt v H'

def PE (X : Cx) (e : Expr) (t : TE) : Prop :=
  ∀ (pins : List (Addr × Obj)) (s : Shared) (σ : St) (H : Hp) (Q : VK), Inv X pins σ H s → t σ H Q → wpAny (model X.prog X.w) X.A (eval e X.env) (EP X pins σ Q) X.xe s
def PT (X : Cx) (e : Expr) (t : TT) : Prop :=
  ∀ (pins : List (Addr × Obj)) (s : Shared) (σ : St) (H : Hp) (Q : Bool → Hp → Prop), Inv X pins σ H s → t σ H Q → wpAny (model X.prog X.w) X.A (isTrue e X.env (eval e X.env)) (TP X pins σ Q) X.xe s
def PW (X : Cx) (e : Expr) (t : TT) : Prop :=
  ∀ (whole : Sem Value) (pins : List (Addr × Obj)) (s : Shared) (σ : St) (H : Hp) (Q : Bool → Hp → Prop), Inv X pins σ H s → t σ H Q → wpAny (model X.prog X.w) X.A (isTrue e X.env whole) (TP X pins σ Q) X.xe s
theorem PW.pt {X : Cx} {e : Expr} {t : TT} (h : PW X e t) : PT X e t := h _
def PA (X : Cx) (es : List Expr) (t : TA) : Prop :=
  ∀ (pos : Pos) (pins : List (Addr × Obj)) (s : Shared) (σ : St) (H : Hp) (Q : List V → Hp → Prop), Inv X pins σ H s → t σ H Q → wpAny (model X.prog X.w) X.A (spliced (backTo pos (starEach es X.env))) (AP X pins σ Q) X.xe s
def PS (X : Cx) (st : Stmt) (t : TS) : Prop :=
  ∀ (pins : List (Addr × Obj)) (s : Shared) (σ : St) (H : Hp) (D : Ends), Inv X pins σ H s → t D σ H → wpAny (model X.prog X.w) X.A (exec st X.env) (SP X pins D) X.xe s
def PSs (X : Cx) (st : List Stmt) (t : TS) : Prop :=
  ∀ (pins : List (Addr × Obj)) (s : Shared) (σ : St) (H : Hp) (D : Ends), Inv X pins σ H s → t D σ H → wpAny (model X.prog X.w) X.A (execs st X.env) (SP X pins D) X.xe s
theorem thn {α : Type} {t : Sem α} {Q Q' : α → Shared → Prop} {M : Model} {A : Around} {E : Value → Shared → Prop} {s : Shared} (h : wpAny M A t Q E s) (hQ : ∀ a s, Q a s → Q' a s) : wpAny M A t Q' E s := wpAny_mono h hQ fun _ _ x => x
end L2

namespace L2
open PySem PySem.Spec PyProof.Rows
section
variable {X : Cx}

theorem bin {a b : Expr} {ta tb : TE} (ha : PE X a ta) (hb : PE X b tb) {pins : List (Addr × Obj)} {s : Shared} {σ : St} {H : Hp} {R : V → V → Hp → Prop} (I : Inv X pins σ H s) (h : ta σ H fun x H1 => tb σ H1 fun y H2 => R x y H2)
    {α : Type} {Q : α → Shared → Prop} {f : Value → Value → Sem α}
    (hf : ∀ v u s2 x y H2, Inv X pins σ H2 s2 → RelV x v → RelV y u → R x y H2 → wpAny (model X.prog X.w) X.A (f v u) Q X.xe s2) :
    wpAny (model X.prog X.w) X.A (eval a X.env) (fun v s₁ => wpAny (model X.prog X.w) X.A (eval b X.env) (fun u s₂ => wpAny (model X.prog X.w) X.A (f v u) Q X.xe s₂) X.xe s₁) X.xe s := by
  refine thn (ha pins s σ H _ I h) fun v s1 ⟨x, H1, I1, r1, q1⟩ => ?_
  refine thn (hb pins s1 σ H1 _ I1 q1) fun u s2 ⟨y, H2, I2, r2, q2⟩ => ?_
  exact hf v u s2 x y H2 I2 r1 r2 q2

def tVar (i : Nat) : TE := fun σ H Q => ∃ v, σ[i]? = some (some v) ∧ Q v H
def tC (v : V) : TE := fun _ H Q => Q v H
theorem pe_var {i : Nat} {x : Str} {pos : Pos} (hN : X.N[i]? = some x) (hv : Vis X.env.scope x) (hd : (x == ("__debug__" : Str)) = false := by decide) (hcd : (x == ("__classdict__" : Str)) = false := by decide) : PE X (.Name x pos) (tVar i) := by
  intro pins s σ H Q I h
  obtain ⟨v, e, h⟩ := h
  obtain ⟨m, hn, hl⟩ := I.loc
  obtain ⟨u, r, l⟩ := hl i x v hN e hv
  have fin : EP X pins σ Q u s := ⟨v, H, I, r, h⟩
  rcases l with ⟨hk, hm⟩ | ⟨hk, c, hc, hcell⟩
  · exact wpAny_Name (wpAny_loadName_local I.ok.kind hk hn hm fin) hd
  · rcases hk with hk | hk
    · exact wpAny_Name (wpAny_loadName_cell I.ok.kind hk hc hcell fin) hd
    · exact wpAny_Name (wpAny_loadName_free I.ok.kind hk hc hcell fin hcd) hd
theorem pe_int {i j pos} : PE X (.Constant (.int i) j pos) (tC (.int i)) := fun _ _ _ H _ I h => wpAny_Constant_int ⟨.int i, H, I.tok _, ⟨_, rfl⟩, h⟩
theorem pe_bl {b j pos} : PE X (.Constant (.bool b) j pos) (tC (.bl b)) := fun _ _ _ H _ I h => Constant_bool ⟨.bl b, H, I, rfl, h⟩

def Gl (X : Cx) (x : Str) : Prop := X.env.kindOf x = some .globalImplicit
theorem ld_glob {E : Value → Shared → Prop} {pins : List (Addr × Obj)} {s : Shared} {σ : St} {H : Hp} {x : Str} {u : Value} {pos : Pos} {Q : Value → Shared → Prop} (I : Inv X pins σ H s) (hg : Gl X x) (hm : X.mg x = some u) (h : Q u s)
    (hd : (x == ("__debug__" : Str)) = false := by decide) : wpAny (model X.prog X.w) X.A (eval (.Name x pos) X.env) Q E s :=
  Calls.Name_function_global I.ok.kind hg (Calls.loadGlobal_global (by rw [I.ok.glob]; exact I.mod.glob.keeps I.bk) hm h) hd
theorem ld_blt {E : Value → Shared → Prop} {pins : List (Addr × Obj)} {s : Shared} {σ : St} {H : Hp} {x : Str} {u : Value} {pos : Pos} {Q : Value → Shared → Prop} (I : Inv X pins σ H s) (hg : Gl X x) (hm : X.mg x = none) (hv : bootBuiltins x = some u) (h : Q u s)
    (hn : x ≠ "__name__" := by decide) (hd : (x == ("__debug__" : Str)) = false := by decide) : wpAny (model X.prog X.w) X.A (eval (.Name x pos) X.env) Q E s := by
  obtain ⟨mb, h1, h2⟩ := I.mod.blt
  exact Calls.Name_function_global I.ok.kind hg (Calls.loadGlobal_builtin (by rw [I.ok.glob]; exact I.mod.glob.keeps I.bk) hm (by rw [I.ok.blt]; exact h1.keeps I.bk) ((h2 x hn).trans hv) h) hd
theorem pe_glob {x : Str} {v : V} {u : Value} {pos : Pos} (hg : Gl X x) (hm : X.mg x = some u) (r : RelV v u) (hd : (x == ("__debug__" : Str)) = false := by decide) : PE X (.Name x pos) (tC v) :=
  fun _ _ _ H _ I h => ld_glob I hg hm ⟨v, H, I, r, h⟩ hd
theorem pe_bltn {x : Str} {v : V} {u : Value} {pos : Pos} (hg : Gl X x) (hm : X.mg x = none) (hv : bootBuiltins x = some u) (r : RelV v u) (hn : x ≠ "__name__" := by decide) (hd : (x == ("__debug__" : Str)) = false := by decide) : PE X (.Name x pos) (tC v) :=
  fun _ _ _ H _ I h => ld_blt I hg hm hv ⟨v, H, I, r, h⟩ hn hd

variable {a b : Expr} {ta tb : TE} {pos : Pos}

def PC (X : Cx) (op : CmpOp) (a b : Expr) (t : TE) : Prop :=
  ∀ (pins : List (Addr × Obj)) (s : Shared) (σ : St) (H : Hp) (Q : VK), Inv X pins σ H s → t σ H Q →
    wpAny (model X.prog X.w) X.A (eval a X.env) (fun v s₁ => wpAny (model X.prog X.w) X.A (eval b X.env) (fun u s₂ => wpAny (model X.prog X.w) X.A (compareOp op v u) (EP X pins σ Q) X.xe s₂) X.xe s₁) X.xe s
theorem nobehind (b : Expr) {op : CmpOp} (h : op ≠ .In) (h2 : op ≠ .NotIn) : behindInMarks op b = false := by
  have e1 : (op == CmpOp.In) = false := by cases op <;> first | rfl | exact absurd rfl h
  have e2 : (op == CmpOp.NotIn) = false := by cases op <;> first | rfl | exact absurd rfl h2
  cases b <;> simp [behindInMarks, e1, e2]
def tB (t : TE) : TT := fun σ H Q => t σ H fun x H1 => ∃ c, x = .bl c ∧ Q c H1
theorem pt_cmp {op : CmpOp} {t : TE} (h : PC X op a b t) (h1 : behindInMarks op b = false := by first | exact nobehind _ (by decide) (by decide) | rfl) : PT X (.Compare a [op] [b] pos) (tB t) := by
  intro pins s σ H Q I hw
  refine wpAny_isTrue_Compare1 (thn (h pins s σ H _ I hw) fun v s1 h1 => thn h1 fun u s2 h2 => thn h2 fun c s3 ⟨x, H1, I1, r1, q1⟩ => ?_) h1
  obtain ⟨d, rfl, q⟩ := q1
  cases r1
  exact wpAny_truthy_bool ⟨H1, I1, q⟩
theorem pt_val {e : Expr} {t : TE} (h : PE X e t) (he : ∀ whole, isTrue e X.env whole = (do let v ← whole; standAt e.pos; holding [v] (truthy v)) := by intro _; rfl) : PT X e (tB t) := by
  intro pins s σ H Q I hw
  refine isTrue_plain (thn (h pins s σ H _ I hw) fun v s1 ⟨x, H1, I1, r1, q1⟩ => ?_) (he _)
  obtain ⟨d, rfl, q⟩ := q1
  cases r1
  exact wpAny_truthy_bool ⟨H1, I1, q⟩

variable {tA tB' : TT} {rest : List Expr}
def tAnd (t u : TT) : TT := fun σ H Q => t σ H fun c H1 => if c = true then u σ H1 Q else Q false H1
def tOr (t u : TT) : TT := fun σ H Q => t σ H fun c H1 => if c = true then Q true H1 else u σ H1 Q
def tNot (t : TT) : TT := fun σ H Q => t σ H fun c H1 => Q (!c) H1
theorem pw_and1 (ha : PT X a tA) : PW X (.BoolOp .And [a] pos) tA := by
  intro wh pins s σ H Q I h
  refine isTrue_and (thn (ha pins s σ H Q I h) fun c s1 e => ?_)
  cases c with
  | true => exact isTrue_and_nil e
  | false => exact e
theorem pw_or1 (ha : PT X a tA) : PW X (.BoolOp .Or [a] pos) tA := by
  intro wh pins s σ H Q I h
  refine isTrue_or (thn (ha pins s σ H Q I h) fun c s1 e => ?_)
  cases c with
  | false => exact isTrue_or_nil e
  | true => exact e
theorem pw_and (ha : PT X a tA) (hb : PW X (.BoolOp .And (b :: rest) pos) tB') : PW X (.BoolOp .And (a :: b :: rest) pos) (tAnd tA tB') := by
  intro wh pins s σ H Q I h
  refine isTrue_and (thn (ha pins s σ H _ I h) fun c s1 ⟨H1, I1, q1⟩ => ?_)
  cases c with
  | true => exact hb wh pins s1 σ H1 Q I1 q1
  | false => exact ⟨H1, I1, q1⟩
theorem pw_or (ha : PT X a tA) (hb : PW X (.BoolOp .Or (b :: rest) pos) tB') : PW X (.BoolOp .Or (a :: b :: rest) pos) (tOr tA tB') := by
  intro wh pins s σ H Q I h
  refine isTrue_or (thn (ha pins s σ H _ I h) fun c s1 ⟨H1, I1, q1⟩ => ?_)
  cases c with
  | true => exact ⟨H1, I1, q1⟩
  | false => exact hb wh pins s1 σ H1 Q I1 q1
theorem pt_not (ha : PT X a tA) : PT X (.UnaryOp .Not a pos) (tNot tA) := by
  intro pins s σ H Q I h
  exact isTrue_not (ha pins s σ H (fun c H1 => Q (!c) H1) I h)
def tAndV (ta tb : TE) : TE := fun σ H Q => ta σ H fun x H1 => ∃ c, x = .bl c ∧ if c = true then tb σ H1 Q else Q (.bl false) H1
def tNotV (ta : TE) : TE := fun σ H Q => ta σ H fun x H1 => ∃ c, x = .bl c ∧ Q (.bl (!c)) H1
theorem pe_one {op} {t : TE} (h : PE X a t) : PE X (.BoolOp op [a] pos) t := fun pins s σ H Q I hw => BoolOp_one (h pins s σ H Q I hw)
theorem pe_and (ha : PE X a ta) (hb : PE X (.BoolOp .And (b :: rest) pos) tb) : PE X (.BoolOp .And (a :: b :: rest) pos) (tAndV ta tb) := by
  intro pins s σ H Q I h
  refine BoolOp_and (thn (ha pins s σ H _ I h) fun v s1 ⟨x, H1, I1, r1, q1⟩ => ?_)
  obtain ⟨c, rfl, q1⟩ := q1
  cases r1
  refine wpAny_truthy_bool ?_
  cases c with
  | true => exact hb pins s1 σ H1 Q I1 q1
  | false => exact ⟨.bl false, H1, I1, rfl, q1⟩
theorem pe_not (ha : PE X a ta) : PE X (.UnaryOp .Not a pos) (tNotV ta) := by
  intro pins s σ H Q I h
  refine UnaryOp_ (thn (ha pins s σ H _ I h) fun v s1 ⟨x, H1, I1, r1, q1⟩ => ?_)
  obtain ⟨c, rfl, q1⟩ := q1
  cases r1
  exact not_of (wpAny_truthy_bool ⟨.bl (!c), H1, I1, rfl, q1⟩)
def tIf (t : TT) (ta tb : TE) : TE := fun σ H Q => t σ H fun c H1 => if c = true then ta σ H1 Q else tb σ H1 Q
theorem pe_ifExp {c : Expr} (hc : PT X c tA) (ha : PE X a ta) (hb : PE X b tb) : PE X (.IfExp c a b pos) (tIf tA ta tb) := by
  intro pins s σ H Q I h
  refine wpAny_IfExp (thn (hc pins s σ H _ I h) fun d s1 ⟨H1, I1, q1⟩ => ?_)
  cases d with
  | true => exact ha pins s1 σ H1 Q I1 q1
  | false => exact hb pins s1 σ H1 Q I1 q1
end
end L2

namespace L2
open PySem PySem.Spec PyProof.Rows

def SqL (K : PySem.W.Frag) (H : Hp) (a : Addr) (xs : List V) : Prop :=
  Rd H a (.lst xs) ∨
    ∃ (o : Obj) (its : Array Value) (n : Nat), K.lookup a = some o ∧ o.cls = .type "list" ∧ o.dict = none ∧ o.data = .seq its n ∧ its.size ≤ sizeLine ∧ Vals xs its.toList
def SqT (K : PySem.W.Frag) (H : Hp) (a : Addr) (xs : List V) : Prop :=
  Rd H a (.tup xs) ∨
    ∃ (o : Obj) (its : Array Value) (n : Nat), K.lookup a = some o ∧ o.cls = .type "tuple" ∧ o.data = .seq its n ∧ its.size ≤ sizeLine ∧ Vals xs its.toList
def absV : Value → Option V
  | .none => some .non
  | .bool b => some (.bl b)
  | .int i _ => some (.int i)
  | .str x _ => some (.str x)
  | .bytes b _ => some (.byt b)
  | .float b _ => some (.flt b)
  | .ref a => some (.ref a)
  | .type n => some (.ty n)
  | _ => none
theorem RelV.abs {x : V} {u : Value} (r : RelV x u) : absV u = some x := by
  cases x with
  | non => cases r; rfl
  | bl _ => cases r; rfl
  | int _ => obtain ⟨t, rfl⟩ := r; rfl
  | str _ => obtain ⟨t, rfl⟩ := r; rfl
  | byt _ => obtain ⟨t, rfl⟩ := r; rfl
  | flt _ => obtain ⟨t, rfl⟩ := r; rfl
  | ref _ => cases r; rfl
  | ty _ => cases r; rfl
theorem RelV.inj {x y : V} {u : Value} (r : RelV x u) (q : RelV y u) : x = y := Option.some.inj (r.abs.symm.trans q.abs)
theorem Vals.inj : ∀ {xs ys : List V} {us : List Value}, Vals xs us → Vals ys us → xs = ys
  | _, _, _, .nil, .nil => rfl
  | _, _, _, .cons r t, .cons r' t' => by rw [r.inj r', Vals.inj t t']
section
variable {X : Cx} {pins : List (Addr × Obj)} {σ : St} {H : Hp} {s : Shared} {a : Addr} {xs ys : List V}
theorem SqL.of {K : PySem.W.Frag} (h : H a = some (.lst xs)) : SqL K H a xs := .inl (.inl h)
theorem Inv.list (I : Inv X pins σ H s) (h : SqL X.K H a xs) : ∃ its : List Value, Vals xs its ∧ PlainL s.heap a its.toArray ∧ xs.length ≤ sizeLine := by
  rcases h with h | ⟨o, its, n, hk, hc, hd, hs, hz, r⟩
  · obtain ⟨z, its, n, r, e⟩ := h.ok I.hok
    exact ⟨its, r, ⟨_, n, e, rfl, rfl, rfl⟩, z⟩
  · refine ⟨its.toList, r, ⟨o, n, I.kIn a o hk, hc, hd, by simpa using hs⟩, ?_⟩
    have e := r.length
    simp only [Array.length_toList] at e
    omega
theorem Inv.tuple (I : Inv X pins σ H s) (h : SqT X.K H a xs) : ∃ its : List Value, Vals xs its ∧ IsTup s.heap a its.toArray ∧ xs.length ≤ sizeLine := by
  rcases h with h | ⟨o, its, n, hk, hc, hs, hz, r⟩
  · obtain ⟨z, its, r, p⟩ := h.ok I.hok
    exact ⟨its, r, p, z⟩
  · refine ⟨its.toList, r, ⟨o, I.kIn a o hk, hc, n, by simpa using hs⟩, ?_⟩
    have e := r.length
    simp only [Array.length_toList] at e
    omega
theorem Inv.list_inj (I : Inv X pins σ H s) (h : SqL X.K H a xs) (h' : SqL X.K H a ys) : xs = ys := by
  obtain ⟨its, r, ⟨o, n, e, _, _, d⟩, _⟩ := I.list h
  obtain ⟨its', r', ⟨o', n', e', _, _, d'⟩, _⟩ := I.list h'
  rw [e] at e'; cases e'
  rw [d] at d'
  injection d' with d1 _
  have : its = its' := by simpa using congrArg Array.toList d1
  subst this
  exact r.inj r'
theorem Inv.tuple_inj (I : Inv X pins σ H s) (h : SqT X.K H a xs) (h' : SqT X.K H a ys) : xs = ys := by
  obtain ⟨its, r, ⟨o, e, _, n, d⟩, _⟩ := I.tuple h
  obtain ⟨its', r', ⟨o', e', _, n', d'⟩, _⟩ := I.tuple h'
  rw [e] at e'; cases e'
  rw [d] at d'
  injection d' with d1 _
  have : its = its' := by simpa using congrArg Array.toList d1
  subst this
  exact r.inj r'
end

abbrev Cx.wish (X : Cx) (E : Value → Shared → Prop) : Cx := { X with xe := E }
abbrev Cx.nox (X : Cx) : Cx := X.wish fun _ _ => False
theorem Cx.Ok.wish {X : Cx} (ok : X.Ok) (E : Value → Shared → Prop) : (X.wish E).Ok :=
  ⟨ok.mod, ok.kind, ok.glob, ok.blt, ok.above, ok.inj, ok.has, ok.cab, ok.hd, ok.frames, ok.stk, ok.exf, ok.bs, ok.bsz, ok.noex, ok.exfs, ok.funs, ok.frf⟩
theorem Cx.Ok.unwish {X : Cx} {E : Value → Shared → Prop} (ok : (X.wish E).Ok) : X.Ok :=
  ⟨ok.mod, ok.kind, ok.glob, ok.blt, ok.above, ok.inj, ok.has, ok.cab, ok.hd, ok.frames, ok.stk, ok.exf, ok.bs, ok.bsz, ok.noex, ok.exfs, ok.funs, ok.frf⟩
section
variable {X : Cx} {pins : List (Addr × Obj)} {σ : St} {H : Hp} {s : Shared} {E : Value → Shared → Prop}
theorem Inv.wish (I : Inv X pins σ H s) (E : Value → Shared → Prop) : Inv (X.wish E) pins σ H s := ⟨I.ok.wish E, I.os, I.bare, I.base, I.loc, I.cell, I.free, I.freeC, I.pin, I.hok, I.len⟩
theorem Inv.unwish (I : Inv (X.wish E) pins σ H s) : Inv X pins σ H s := ⟨I.ok.unwish, I.os, I.bare, I.base, I.loc, I.cell, I.free, I.freeC, I.pin, I.hok, I.len⟩
theorem SP.unwish {D : Ends} {f : Flow} {s' : Shared} (h : SP (X.wish E) pins D f s') : SP X pins D f s' := by
  cases f with
  | next => obtain ⟨σ', H', I, q⟩ := h; exact ⟨σ', H', I.unwish, q⟩
  | brk => obtain ⟨σ', H', I, q⟩ := h; exact ⟨σ', H', I.unwish, q⟩
  | cont => obtain ⟨σ', H', I, q⟩ := h; exact ⟨σ', H', I.unwish, q⟩
  | ret u => obtain ⟨v, σ', H', I, r, q⟩ := h; exact ⟨v, σ', H', I.unwish, r, q⟩
theorem PSs.nox {st : List Stmt} {t : TS} (h : PSs X.nox st t) : PSs X st t := fun pins s σ H D I hw =>
  wpAny_mono (h pins s σ H D (I.wish _) hw) (fun _ _ q => q.unwish) fun _ _ z => False.elim z
end

section
variable {X : Cx} {st : Stmt} {rest : List Stmt} {t u : TS} {e : Expr} {te : TE} {pos : Pos}
def tNext : TS := fun D σ H => D.nx σ H
def tSeq (t u : TS) : TS := fun D σ H => t { D with nx := u D } σ H
theorem pss_nil : PSs X [] tNext := fun _ _ σ H _ I h => wpAny_execs_nil ⟨σ, H, I, h⟩
theorem pss_cons (h1 : PS X st t) (h2 : PSs X rest u) : PSs X (st :: rest) (tSeq t u) := by
  intro pins s σ H D I h
  refine wpAny_execs_cons (thn (h1 pins s σ H { D with nx := u D } I h) fun f s1 q => ?_)
  cases f with
  | next =>
    obtain ⟨σ', H', I', q⟩ := q
    exact h2 pins s1 σ' H' D I' q
  | ret v => exact q
  | brk => exact q
  | cont => exact q
theorem pss_one (h1 : PS X st t) : PSs X [st] t := by
  intro pins s σ H D I h
  refine wpAny_execs_cons (thn (h1 pins s σ H D I h) fun f s1 q => ?_)
  cases f with
  | next => exact wpAny_execs_nil q
  | ret v => exact q
  | brk => exact q
  | cont => exact q
theorem Inv.quiet {pins : List (Addr × Obj)} {σ : St} {H : Hp} {s : Shared} (I : Inv X pins σ H s) : interactive X.env = false := by simp [interactive, I.ok.kind]
def tDrop (te : TE) : TS := fun D σ H => te σ H fun _ H1 => D.nx σ H1
theorem ps_expr (he : PE X e te) (hs : swapsWith e none pos.line X.env = pure false := by rfl) : PS X (.Expr e pos) (tDrop te) := by
  intro pins s σ H D I h
  exact wpAny_Expr_any (thn (he pins s σ H _ I h) fun v s1 ⟨x, H1, I1, r1, q1⟩ => ⟨σ, H1, I1, q1⟩) I.quiet hs
def tRet (te : TE) : TS := fun D σ H => te σ H D.rt
theorem ps_ret (he : PE X e te) : PS X (.Return (some e) pos) (tRet te) := by
  intro pins s σ H D I h
  exact wpAny_Return_some (thn (he pins s σ H _ I h) fun v s1 ⟨x, H1, I1, r1, q1⟩ => ⟨x, σ, H1, I1, r1, q1⟩)
def tIfS (c : TT) (t u : TS) : TS := fun D σ H => c σ H fun b H1 => if b = true then t D σ H1 else u D σ H1
theorem ps_if {c : Expr} {a b : List Stmt} {tc : TT} (hc : PT X c tc) (ha : PSs X a t) (hb : PSs X b u) : PS X (.If c a b pos) (tIfS tc t u) := by
  intro pins s σ H D I h
  refine wpAny_If (thn (hc pins s σ H _ I h) fun d s1 ⟨H1, I1, q1⟩ => ?_)
  cases d with
  | true => exact ha pins s1 σ H1 D I1 q1
  | false => exact hb pins s1 σ H1 D I1 q1
end

abbrev TG := V → St → Hp → (St → Hp → Prop) → Prop
abbrev TGs := List V → St → Hp → (St → Hp → Prop) → Prop
def PG (X : Cx) (target : Expr) (t : TG) : Prop :=
  ∀ (pins : List (Addr × Obj)) (s : Shared) (σ : St) (H : Hp) (v : V) (u : Value) (Q : St → Hp → Prop), Inv X pins σ H s → RelV v u → t v σ H Q →
    wpAny (model X.prog X.w) X.A (assign target X.env u) (fun _ s' => ∃ σ' H', Inv X pins σ' H' s' ∧ Q σ' H') X.xe s
def PGs (X : Cx) (ts : List Expr) (t : TGs) : Prop :=
  ∀ (pins : List (Addr × Obj)) (s : Shared) (σ : St) (H : Hp) (vs : List V) (us : List Value) (Q : St → Hp → Prop), Inv X pins σ H s → Vals vs us → t vs σ H Q →
    wpAny (model X.prog X.w) X.A (assignInOrder ((assignEach ts X.env).map (·.2)) us) (fun _ s' => ∃ σ' H', Inv X pins σ' H' s' ∧ Q σ' H') X.xe s
abbrev TSet := V → V → V → Hp → (Hp → Prop) → Prop
def PSet (X : Cx) (t : TSet) : Prop :=
  ∀ (pins : List (Addr × Obj)) (s : Shared) (σ : St) (H : Hp) (o i v : V) (ov iv u : Value) (Q : Hp → Prop), Inv X pins σ H s → RelV o ov → RelV i iv → RelV v u → t o i v H Q →
    wpAny (model X.prog X.w) X.A (setItem ov iv u) (fun _ s' => ∃ H', Inv X pins σ H' s' ∧ Q H') X.xe s
section
variable {X : Cx} {pos : Pos}
def gName (i : Nat) : TG := fun v σ H Q => Q (σ.set i (some v)) H
theorem pg_name {i : Nat} {x : Str} (hN : X.N.Nodup) (hi : X.N[i]? = some x) (hx : Loc X.env.scope x) (hf : X.fn x = true ∨ X.env.scope.names.lookup x = some .local := by first | exact .inl rfl | exact .inr rfl | assumption) : PG X (.Name x pos) (gName i) := by
  intro pins s σ H v u Q I r h
  exact wpAny_assign_Name (store_ok I hN hi hx r (fun s' I' => ⟨_, H, I', h⟩) hf)
def gNil : TGs := fun vs σ H Q => vs = [] ∧ Q σ H
def gCons (t : TG) (u : TGs) : TGs := fun vs σ H Q => ∃ v r, vs = v :: r ∧ t v σ H fun σ' H' => u r σ' H' Q
theorem pgs_nil : PGs X [] gNil := by
  intro pins s σ H vs us Q I r h
  obtain ⟨e, h⟩ := h
  subst e
  cases r
  exact assignInOrder_nil ⟨σ, H, I, h⟩
theorem pgs_cons {e : Expr} {es : List Expr} {t : TG} {u : TGs} (h1 : PG X e t) (h2 : PGs X es u)
    (hs : (assignEach (e :: es) X.env).map (·.2) = assign e X.env :: (assignEach es X.env).map (·.2) := by rfl) : PGs X (e :: es) (gCons t u) := by
  intro pins s σ H vs us Q I r h
  obtain ⟨v, vr, e1, h⟩ := h
  subst e1
  cases r with
  | cons r rr =>
    rw [hs]
    refine assignInOrder_cons (thn (h1 pins s σ H _ _ _ I r h) fun _ s1 ⟨σ1, H1, I1, q1⟩ => ?_)
    exact h2 pins s1 σ1 H1 _ _ Q I1 rr q1
def gTup (K : PySem.W.Frag) (n : Nat) (t : TGs) : TG := fun v σ H Q => ∃ a xs, v = .ref a ∧ SqT K H a xs ∧ xs.length = n ∧ t xs σ H Q
theorem pg_tup {es : List Expr} {k : Nat} {t : TGs} {n : Nat} (hc : X.calm = true) (h : PGs X es t)
    (hn : (assignEach es X.env).length = n := by rfl) (hst : (assignEach es X.env).findIdx? (·.1) = none := by rfl) : PG X (.Tuple es k pos) (gTup X.K n t) := by
  intro pins s σ H v u Q I r hw
  obtain ⟨a, xs, e1, hq, hl, hw⟩ := hw
  subst e1
  cases r
  obtain ⟨its, rv, ht, hz⟩ := I.tuple hq
  refine assign_Tuple_tuple (I.ok.hd hc) ht (by simp [hn, ← hl, rv.length]) hst fun h' hx => ?_
  have I1 : Inv X pins σ H { s with heap := h' } := I.kept (t' := s.toks) fun b o e => hx b o (Nat.ne_of_lt (Heap.lt_size e)) e
  exact h pins _ σ H xs _ Q I1 (by simpa using rv) hw
def gSub (to ti : TE) (t : TSet) : TG := fun v σ H Q => to σ H fun o H1 => ti σ H1 fun i H2 => t o i v H2 fun H3 => Q σ H3
theorem pg_sub {o i : Expr} {to ti : TE} {t : TSet} (ho : PE X o to) (hi : PE X i ti) (hs : PSet X t)
    (ha : ∀ v, assign (.Subscript o i pos) X.env v = (do
      let ov ← holding [v] (eval o X.env)
      let iv ← holding [v, ov] (eval i X.env)
      standAt pos
      holding [v, ov, iv] (setItem ov iv v)
      release [v, ov, iv] []) := by intro _; rfl) : PG X (.Subscript o i pos) (gSub to ti t) := by
  intro pins s σ H v u Q I r h
  rw [ha]
  refine wpAny_bind (wpAny_holding (thn (ho pins s σ H _ I h) fun ov s1 ⟨x, H1, I1, r1, q1⟩ => ?_))
  refine wpAny_bind (wpAny_holding (thn (hi pins s1 σ H1 _ I1 q1) fun iv s2 ⟨y, H2, I2, r2, q2⟩ => ?_))
  refine wpAny_bind (wpAny_standAt (wpAny_bind (wpAny_holding (thn (hs pins s2 σ H2 x y v ov iv u _ I2 r1 r2 r q2) fun _ s3 ⟨H3, I3, q3⟩ => ?_))))
  exact wpAny_release ⟨σ, H3, I3, q3⟩
def tAsg (te : TE) (g : TG) : TS := fun D σ H => te σ H fun x H1 => g x σ H1 D.nx
theorem ps_asg {tg e : Expr} {te : TE} {g : TG} (he : PE X e te) (hg : PG X tg g) (hs : swapsWithSole [tg] e pos.line X.env = pure false := by rfl) (hw : swappedStores [tg] e X.env = pure none := by rfl)
    (h1 : (assignEach [tg] X.env).map (·.2) = [assign tg X.env] := by rfl) : PS X (.Assign [tg] e pos) (tAsg te g) := by
  intro pins s σ H D I h
  refine wpAny_Assign_stores (thn (he pins s σ H _ I h) fun v s1 ⟨x, H1, I1, r1, q1⟩ => ?_) hs hw
  rw [h1]
  exact thn (hg pins s1 σ H1 x v _ I1 r1 q1) fun _ s2 q => q
theorem ps_set {i : Nat} {x : Str} {e : Expr} {te : TE} {pos' : Pos} (hN : X.N.Nodup) (hi : X.N[i]? = some x) (hx : Loc X.env.scope x) (he : PE X e te) (hs : swapsWith e (some (.Name x pos')) pos.line X.env = pure false := by rfl) (hf : X.fn x = true ∨ X.env.scope.names.lookup x = some .local := by first | exact .inl rfl | exact .inr rfl | assumption) :
    PS X (.Assign [.Name x pos'] e pos) (tAsg te (gName i)) := by
  intro pins s σ H D I h
  refine wpAny_Assign_Name (thn (he pins s σ H _ I h) fun v s1 ⟨y, H1, I1, r1, q1⟩ => ?_) hs
  exact store_ok I1 hN hi hx r1 (fun s2 I2 => ⟨_, H1, I2, q1⟩) hf
end

section
variable {X : Cx} {pos : Pos}
end

structure It where
  go : Nat → Hp → Prop
  yld : Nat → Hp → V → Hp → Prop
  stop : Nat → Hp → Prop
def FpOk (X : Cx) (pins : List (Addr × Obj)) (H : Hp) (b : Addr) : Prop :=
  H b = none ∧ b ≠ X.env.locals ∧ b ∉ X.fs ∧ (b ∈ X.ex ∨ X.s₀.heap.objs.size ≤ b) ∧ (∀ x c, X.env.cells.lookup x = some c → c ≠ b) ∧ ∀ p ∈ X.pn ++ pins, p.1 ≠ b
theorem Inv.fpOk {X : Cx} {pins : List (Addr × Obj)} {σ : St} {H H' : Hp} {s : Shared} {b : Addr} (I : Inv X pins σ H s) (hb : s.heap.objs.size ≤ b) (hn : H' b = none) : FpOk X pins H' b := by
  refine ⟨hn, Nat.ne_of_gt (Nat.lt_of_lt_of_le I.lt hb), I.nofs hb, .inr (Nat.le_trans I.sz hb), fun x c e z => ?_, fun p hp z => ?_⟩
  · obtain ⟨v, q⟩ := I.cell x c e
    exact absurd (Nat.lt_of_lt_of_le q.lt (by rw [z]; exact hb)) (Nat.lt_irrefl _)
  · exact absurd (Nat.lt_of_lt_of_le (Heap.lt_size (I.pin p hp).1) (by rw [z]; exact hb)) (Nat.lt_irrefl _)
structure Turn (P : Program) (w : World) (K : PySem.W.Frag) (tg : Expr) (J : It) (fp : List Addr) (it : Addr) (tn : Nat → Heap → Prop) : Prop where
  mem : it ∈ fp
  obj : ∀ i h, tn i h → ∀ b ∈ fp, ∃ o, h.get? b = some o ∧ ∀ v, o.data ≠ .cell v
  keep : ∀ i h h', tn i h → (∀ b ∈ fp, ∀ o, h.get? b = some o → h'.get? b = some o) → tn i h'
  item : ∀ (X : Cx), X.prog = P → X.w = w → X.K = K → X.calm = true → ∀ (i : Nat) (pins : List (Addr × Obj)) (s : Shared) (σ : St) (H : Hp) (E : Value → Shared → Prop), Inv X pins σ H s → (∀ b ∈ fp, FpOk X pins H b) → tn i s.heap → J.go i H →
    wpAny (model P w) X.A (pyNext (.ref it)) (fun r s1 => ∃ u, r = some u ∧
      wpAny (model P w) X.A (letOwnedTupleGo tg (.ref it) u) (fun _ s2 => ∃ x H', Inv X pins σ H' s2 ∧ RelV x u ∧ J.yld i H x H' ∧ tn (i + 1) s2.heap ∧ ∀ b ∈ fp, H' b = none) E s1) E s
  done : ∀ (X : Cx), X.prog = P → X.w = w → X.K = K → X.calm = true → ∀ (i : Nat) (pins : List (Addr × Obj)) (s : Shared) (σ : St) (H : Hp) (E : Value → Shared → Prop), Inv X pins σ H s → (∀ b ∈ fp, FpOk X pins H b) → tn i s.heap → J.stop i H →
    wpAny (model P w) X.A (pyNext (.ref it)) (fun r s1 => r = none ∧ Inv X pins σ H s1) E s
  self : ∀ (A : Around) (i : Nat) (s : Shared) (Q : Value → Shared → Prop) (E : Value → Shared → Prop), tn i s.heap → Q (.ref it) s → wpAny (model P w) A (pyIter (.ref it)) Q E s
abbrev TI := St → Hp → (It → Hp → Prop) → Prop
def PIE (X : Cx) (pins : List (Addr × Obj)) (σ : St) (tg : Expr) (R : It → Hp → Prop) (itv : Value) (s2 : Shared) : Prop :=
  ∃ (it : Addr) (fp : List Addr) (tn : Nat → Heap → Prop) (J : It) (H' : Hp), itv = .ref it ∧ Inv X pins σ H' s2 ∧ Turn X.prog X.w X.K tg J fp it tn ∧ tn 0 s2.heap ∧ (∀ b ∈ fp, FpOk X pins H' b) ∧ R J H'
def PI (X : Cx) (tg iter : Expr) (wi : TI) : Prop :=
  ∀ (pins : List (Addr × Obj)) (s : Shared) (σ : St) (H : Hp) (R : It → Hp → Prop), Inv X pins σ H s → wi σ H R →
    wpAny (model X.prog X.w) X.A (eval iter X.env) (fun v s1 => wpAny (model X.prog X.w) X.A (pyIter v) (PIE X pins σ tg R) X.xe s1) X.xe s

theorem go_of {M : Model} {A : Around} {E : Value → Shared → Prop} {s : Shared} {tg : Expr} {it : Addr} {u : Value} {o : Obj} {n : String} {vs : Array Value} {Q : Unit → Shared → Prop} (ho : s.heap.get? it = some o) (hc : o.cls = .type n) (hd : o.data = .fields vs)
    (hn : ["enumerate", "zip", "dict_itemiterator", "dict_reverseitemiterator", "odict_iterator", "itertools.zip_longest", "itertools.pairwise"].contains n = false) (hQ : Q () s) : wpAny M A (letOwnedTupleGo tg (.ref it) u) Q E s := by
  unfold letOwnedTupleGo
  cases tg <;> first
    | exact wpAny_pure hQ
    | (cases u <;> first
        | exact wpAny_pure hQ
        | (refine wpAny_bind (wpAny_load ho ?_)
           rw [hc, hd]
           show wpAny M A (if (["enumerate", "zip", "dict_itemiterator", "dict_reverseitemiterator", "odict_iterator", "itertools.zip_longest", "itertools.pairwise"].contains n && vs[0]? == some (rawInt _)) = true then _ else _) Q E s
           rw [if_neg (by intro h; rw [hn, Bool.false_and] at h; cases h)]
           exact wpAny_pure hQ))

def Itl (K : PySem.W.Frag) (a : Addr) : It :=
  ⟨fun i H => ∃ xs x, SqL K H a xs ∧ xs[i]? = some x, fun i H x H' => H' = H ∧ ∀ xs, SqL K H a xs → xs[i]? = some x, fun i H => ∃ xs, SqL K H a xs ∧ xs.length ≤ i⟩
def Itr (lo : Int) (n : Nat) : It := ⟨fun i _ => i < n, fun i H x H' => H' = H ∧ x = .int (lo + i), fun i _ => n ≤ i⟩
theorem turn_list {P : Program} {w : World} {K : PySem.W.Frag} {tg : Expr} (a it : Addr) : Turn P w K tg (Itl K a) [it] it (fun i h => h.IsListIter it a i) where
  mem := by simp
  obj := fun i h st b hb => by
    have e : b = it := by simpa using hb
    subst e
    obtain ⟨o, e, c, d⟩ := st
    exact ⟨o, e, fun v z => by rw [d] at z; cases z⟩
  keep := fun i h h' st k => st.at fun o e => k it (by simp) o e
  item := by
    intro X hP hw hK hc i pins s σ H E I hf st hg
    subst hP hw hK
    obtain ⟨xs, x, hq, hx⟩ := hg
    obtain ⟨its, rv, p, hz⟩ := I.list hq
    obtain ⟨u, hu, ru⟩ := rv.get hx
    obtain ⟨f0, f1, f2, f3, f4, f5⟩ := hf it (by simp)
    refine wpAny_pyNext_list_item st p.isList (x := u) (by simpa using hu) fun h' st' sb => ?_
    have I1 : Inv X pins σ H { s with heap := h' } := I.turned (t' := s.toks) (fun b o hb e => (sb.2 b hb).trans e) f0 f1 f3 f4 f5
    obtain ⟨o, e, c, d⟩ := id st'
    exact ⟨u, rfl, go_of (s := { s with heap := h' }) e c d (by decide) ⟨x, H, I1, ru, ⟨rfl, fun ys hy => by rw [I.list_inj hy hq]; exact hx⟩, st', fun b hb => (hf b hb).1⟩⟩
  done := by
    intro X hP hw hK hc i pins s σ H E I hf st hg
    subst hP hw hK
    obtain ⟨xs, hq, hx⟩ := hg
    obtain ⟨its, rv, p, hz⟩ := I.list hq
    obtain ⟨f0, f1, f2, f3, f4, f5⟩ := hf it (by simp)
    have hl := rv.length
    exact wpAny_pyNext_list_end (I.ok.hd hc) st p.isList (by simp; omega) fun h' eb => ⟨rfl, I.turned (t' := s.toks) (fun b o hb e => eb b o hb e) f0 f1 f3 f4 f5⟩
  self := fun _ _ _ _ _ st h => wpAny_pyIter_listiter st h
theorem turn_range {P : Program} {w : World} {K : PySem.W.Frag} {tg : Expr} (it : Addr) (lo : Int) (n : Nat) : Turn P w K tg (Itr lo n) [it] it (fun i h => IsRangeIter h it (lo + (i : Nat) * 1) ((n : Int) - (i : Nat)) 1) where
  mem := by simp
  obj := fun i h st b hb => by
    have e : b = it := by simpa using hb
    subst e
    exact ⟨_, st, fun v z => by
      have z' : Data.fields _ = Data.cell v := z
      cases z'⟩
  keep := fun i h h' st k => k it (by simp) _ st
  item := by
    intro X hP hw hK hc i pins s σ H E I hf st hg
    subst hP hw hK
    obtain ⟨f0, f1, f2, f3, f4, f5⟩ := hf it (by simp)
    have W := Walks.range (prog := X.prog) (w := X.w) (I.ok.hd hc) it lo 1 n
    refine W.item i s _ _ hg st fun v h' tk hv st' kk => ?_
    obtain ⟨t, rfl⟩ := hv
    have I1 : Inv X pins σ H { s with heap := h', toks := tk } := I.turned (fun b o hb e => kk b o (by simpa using hb) e) f0 f1 f3 f4 f5
    refine ⟨_, rfl, go_of (s := { s with heap := h', toks := tk }) (n := "range_iterator") st' rfl rfl (by decide) ⟨.int (lo + i), H, I1, ⟨t, ?_⟩, ⟨rfl, rfl⟩, st', fun b hb => (hf b hb).1⟩⟩
    rw [Int.mul_one]
  done := by
    intro X hP hw hK hc i pins s σ H E I hf st hg
    subst hP hw hK
    obtain ⟨f0, f1, f2, f3, f4, f5⟩ := hf it (by simp)
    exact wpAny_pyNext_range_end (I.ok.hd hc) st (by have : n ≤ i := hg; omega) fun h' eb => ⟨rfl, I.turned (t' := s.toks) (fun b o hb e => eb b o hb e) f0 f1 f3 f4 f5⟩
  self := fun _ _ _ _ _ st h => wpAny_pyIter_rangeiter st h
end L2

namespace L2
open PySem PySem.Spec PyProof.Rows
section
variable {X : Cx} {tg : Expr}
def iList (K : PySem.W.Frag) (tl : TE) : TI := fun σ H R => tl σ H fun x H1 => ∃ a, x = .ref a ∧ (∃ xs, SqL K H1 a xs) ∧ R (Itl K a) H1
theorem pi_list {l : Expr} {tl : TE} (hl : PE X l tl) : PI X tg l (iList X.K tl) := by
  intro pins s σ H R I h
  refine thn (hl pins s σ H _ I h) fun v s1 ⟨x, H1, I1, r1, q1⟩ => ?_
  obtain ⟨a, e, ⟨xs, hq⟩, q⟩ := q1
  subst e
  cases r1
  obtain ⟨its, rv, p, hz⟩ := I1.list hq
  refine wpAny_pyIter_list p.isList ?_
  refine ⟨s1.heap.objs.size, [s1.heap.objs.size], _, _, H1, rfl, I1.kept (t' := s1.toks) fun b o e => Heap.get?_push_of_some _ e, turn_list a _, ⟨_, Heap.get?_push_size _ rfl, rfl, rfl⟩, fun b hb => ?_, q⟩
  have e : b = s1.heap.objs.size := by simpa using hb
  subst e
  exact I1.fpOk (Nat.le_refl _) (I1.hok.fresh (Nat.le_refl _))
theorem range_it {pins : List (Addr × Obj)} {σ : St} {H : Hp} {s : Shared} {R : It → Hp → Prop} {E : Value → Shared → Prop} {lo hi : Int} {t u v : Tok} {tk : Nat} (I : Inv X pins σ H s) (h1 : -(2 ^ 62) ≤ lo) (h2 : lo < 2 ^ 62) (h3 : -(2 ^ 62) ≤ hi) (h4 : hi < 2 ^ 62)
    (q : R (Itr lo (hi - lo).toNat) H) : wpAny (model X.prog X.w) X.A (pyIter (.ref s.heap.objs.size)) (PIE X pins σ tg R) E { s with heap := s.heap.push { cls := .type "range", data := .fields #[.int lo t, .int hi u, .int 1 v] }, toks := tk } := by
  refine wpAny_pyIter_range (IsRange.new ..) (small_one h1 h2 h3 h4) ?_
  have I1 : Inv X pins σ H { s with heap := s.heap.push { cls := .type "range", data := .fields #[.int lo t, .int hi u, .int 1 v] }, toks := tk } := I.kept fun b o e => Heap.get?_push_of_some _ e
  refine ⟨(s.heap.push { cls := .type "range", data := .fields #[.int lo t, .int hi u, .int 1 v] }).objs.size, [(s.heap.push { cls := .type "range", data := .fields #[.int lo t, .int hi u, .int 1 v] }).objs.size], _, _, H, rfl,
    I1.kept (t' := tk) fun b o e => Heap.get?_push_of_some _ e, turn_range _ lo (hi - lo).toNat, ?_, fun b hb => ?_, q⟩
  · have e1 : lo + ((0 : Nat) : Int) * 1 = lo := by simp
    have e2 : (((hi - lo).toNat : Nat) : Int) - ((0 : Nat) : Int) = Builtin.Range.rangeSize lo hi 1 := by rw [rangeSize_one]; split <;> omega
    show IsRangeIter _ _ (lo + ((0 : Nat) : Int) * 1) ((((hi - lo).toNat : Nat) : Int) - ((0 : Nat) : Int)) 1
    rw [e1, e2]
    exact Heap.get?_push_size _ rfl
  · have e : b = (s.heap.push { cls := .type "range", data := .fields #[.int lo t, .int hi u, .int 1 v] }).objs.size := by simpa using hb
    subst e
    exact I1.fpOk (Nat.le_refl _) (I1.hok.fresh (Nat.le_refl _))
def iRng1 (ta : TA) : TI := fun σ H R => ta σ H fun vs H1 => ∃ j : Int, vs = [.int j] ∧ -(2 ^ 62) ≤ j ∧ j < 2 ^ 62 ∧ R (Itr 0 j.toNat) H1
def iRng2 (ta : TA) : TI := fun σ H R => ta σ H fun vs H1 => ∃ i j : Int, vs = [.int i, .int j] ∧ (-(2 ^ 62) ≤ i ∧ i < 2 ^ 62 ∧ -(2 ^ 62) ≤ j ∧ j < 2 ^ 62) ∧ R (Itr i (j - i).toNat) H1
theorem pi_range1 {a : Expr} {ta : TA} {p pos : Pos} (hg : Gl X "range") (hm : X.mg "range" = none) (ha : PA X [a] ta) (hs : starEach [a] X.env = [(false, eval a X.env)] := by rfl) : PI X tg (.Call (.Name "range" p) [a] [] pos) (iRng1 ta) := by
  intro pins s σ H R I h
  refine Call_ (ld_blt I hg hm boot_range (PyProof.Rows.callWith_type1 (thn (ha pos pins s σ H _ I h) fun us s1 ⟨vs, H1, I1, r1, q1⟩ => ?_) hs rfl))
  obtain ⟨j, e, q1, q2, q⟩ := q1
  subst e
  cases r1 with
  | cons r rr =>
    cases rr
    obtain ⟨t, rfl⟩ := r
    exact call_range_1 (range_it I1 (by omega) (by omega) q1 q2 (by simpa using q))
theorem pi_range2 {a b : Expr} {ta : TA} {p pos : Pos} (hg : Gl X "range") (hm : X.mg "range" = none) (ha : PA X [a, b] ta) (hs : starEach [a, b] X.env = [(false, eval a X.env), (false, eval b X.env)] := by rfl) (hs2 : starEach [b] X.env = [(false, eval b X.env)] := by rfl) :
    PI X tg (.Call (.Name "range" p) [a, b] [] pos) (iRng2 ta) := by
  intro pins s σ H R I h
  refine Call_ (ld_blt I hg hm boot_range (PyProof.Rows.callWith_type1 (thn (ha pos pins s σ H _ I h) fun us s1 ⟨vs, H1, I1, r1, q1⟩ => ?_) (by rw [hs, hs2]) (by rw [hs2]; rfl)))
  obtain ⟨i, j, e, ⟨q1, q2, q3, q4⟩, q⟩ := q1
  subst e
  cases r1 with
  | cons r rr =>
    cases rr with
    | cons r' rr =>
      cases rr
      obtain ⟨t, rfl⟩ := r
      obtain ⟨t', rfl⟩ := r'
      exact call_range_2 (range_it I1 q1 q2 q3 q4 q)

def tFor (wi : TI) (g : TG) (tb : TS) : TS := fun D σ H => wi σ H fun J H1 => ∃ W : Nat → Nat → St → Hp → Prop, (∃ m, W 0 m σ H1) ∧ ∀ i m σ H, W i m σ H →
  (J.stop i H ∧ D.nx σ H) ∨ (J.go i H ∧ ∃ N : St → Hp → Prop, (∀ σ' H', N σ' H' → ∃ m', m' < m ∧ W (i + 1) m' σ' H') ∧ ∀ x H', J.yld i H x H' → g x σ H' fun σ2 H2 => tb { D with nx := N, ct := N, bk := D.nx } σ2 H2)
def pinsAt (fp : List Addr) (h : Heap) : List (Addr × Obj) := fp.filterMap fun b => (h.get? b).map fun o => (b, o)
theorem mem_pinsAt {fp : List Addr} {h : Heap} {b : Addr} {o : Obj} (hb : b ∈ fp) (e : h.get? b = some o) : (b, o) ∈ pinsAt fp h := List.mem_filterMap.mpr ⟨b, hb, by rw [e]; rfl⟩
theorem of_pinsAt {fp : List Addr} {h : Heap} {p : Addr × Obj} (hp : p ∈ pinsAt fp h) : p.1 ∈ fp ∧ h.get? p.1 = some p.2 := by
  obtain ⟨b, hb, e⟩ := List.mem_filterMap.mp hp
  cases q : h.get? b with
  | none => rw [q] at e; cases e
  | some o =>
    rw [q] at e
    have e' : (b, o) = p := Option.some.inj e
    subst e'
    exact ⟨hb, q⟩
theorem Inv.pinned {pins : List (Addr × Obj)} {σ : St} {H : Hp} {s : Shared} {fp : List Addr} (I : Inv X pins σ H s) (hf : ∀ b ∈ fp, FpOk X pins H b) (ho : ∀ b ∈ fp, ∃ o, s.heap.get? b = some o ∧ ∀ v, o.data ≠ .cell v) : Inv X (pins ++ pinsAt fp s.heap) σ H s :=
  I.pins_of fun p hp => (List.mem_append.mp hp).elim (fun z => I.pin p (List.mem_append_right _ z)) fun z => by
    obtain ⟨hb, e⟩ := of_pinsAt z
    obtain ⟨f0, f1, f2, _⟩ := hf p.1 hb
    obtain ⟨o, e', d⟩ := ho p.1 hb
    rw [e] at e'; cases e'
    exact ⟨e, f0, f1, f2, d⟩
theorem Inv.unpinned {pins pl : List (Addr × Obj)} {σ : St} {H : Hp} {s : Shared} (I : Inv X (pins ++ pl) σ H s) : Inv X pins σ H s := I.pins_of fun p hp => I.pin p (List.mem_append_right _ (List.mem_append_left _ hp))
theorem ps_for {iter : Expr} {body : List Stmt} {wi : TI} {g : TG} {tb : TS} {pos : Pos} (hp : PassesOwn (model X.prog X.w) X.A X.env X.xe) (hc : X.calm = true) (hi : PI X tg iter wi) (hg : PG X tg g) (hb : PSs X body tb)
    (hs : ∀ x, foldedSetIterable iter X.env x = pure x := by intro _; rfl) : PS X (.For tg iter body [] pos) (tFor wi g tb) := by
  intro pins s σ H D I h
  refine wpAny_For (thn (hi pins s σ H _ I h) fun v s1 h1 => thn h1 fun itv s2 h2 => ?_) hs
  obtain ⟨it, fp, tn, J, H2, e, I2, T, st2, f2, W, ⟨m0, w0⟩, turn⟩ := h2
  subst e
  -- what stays true of the iterator's objects through the loop
  have stat : ∀ {H' : Hp}, (∀ b ∈ fp, H' b = none) → ∀ b ∈ fp, FpOk X pins H' b := fun hn b hb => ⟨hn b hb, (f2 b hb).2⟩
  refine codeAny_forLoop_any (fun n s' => ∃ i σ' H', Inv X pins σ' H' s' ∧ tn i s'.heap ∧ (∀ b ∈ fp, H' b = none) ∧ W i n σ' H') ?_ m0 ⟨0, σ, H2, I2, st2, fun b hb => (f2 b hb).1, w0⟩
  rintro n s3 ⟨i, σ3, H3, I3, st3, fr3, w3⟩
  rcases turn i n σ3 H3 w3 with ⟨stop, qn⟩ | ⟨go, N, hN, step⟩
  · refine wpAny_passesOwn hp (thn (T.done X rfl rfl rfl hc i pins s3 σ3 H3 X.xe I3 (stat fr3) st3 stop) fun r s4 ⟨hr, I4⟩ => ?_)
    subst hr
    exact wpAny_execs_nil ⟨σ3, H3, I4, qn⟩
  · refine wpAny_passesOwn hp (thn (T.item X rfl rfl rfl hc i pins s3 σ3 H3 X.xe I3 (stat fr3) st3 go) fun r s4 ⟨u, hr, h4⟩ => ?_)
    subst hr
    refine wpAny_passesOwn hp (thn h4 fun _ s5 ⟨x, H5, I5, r5, y5, st5, fr5⟩ => ?_)
    have I5' := I5.pinned (stat fr5) (T.obj _ _ st5)
    refine wpAny_passesOwn hp (thn (hg _ s5 σ3 H5 x u _ I5' r5 (step x H5 y5)) fun _ s6 ⟨σ6, H6, I6, q6⟩ => ?_)
    refine wpAny_passesOwn hp (thn (hb _ s6 σ6 H6 _ I6 q6) fun f s7 q7 => ?_)
    have again : ∀ {σ7 : St} {H7 : Hp}, Inv X (pins ++ pinsAt fp s5.heap) σ7 H7 s7 → N σ7 H7 → ∃ m, m < n ∧ ∃ i σ' H', Inv X pins σ' H' s7 ∧ tn i s7.heap ∧ (∀ b ∈ fp, H' b = none) ∧ W i m σ' H' := fun {σ7 H7} I7 n7 => by
      obtain ⟨m', hm, w7⟩ := hN σ7 H7 n7
      refine ⟨m', hm, i + 1, σ7, H7, I7.unpinned, T.keep _ _ _ st5 fun b hb o e => (I7.pin (b, o) (List.mem_append_right _ (List.mem_append_right _ (mem_pinsAt hb e)))).1, fun b hb => ?_, w7⟩
      obtain ⟨o, e, d⟩ := T.obj _ _ st5 b hb
      exact (I7.pin (b, o) (List.mem_append_right _ (List.mem_append_right _ (mem_pinsAt hb e)))).2.1
    cases f with
    | next => obtain ⟨σ7, H7, I7, n7⟩ := q7; exact again I7 n7
    | cont => obtain ⟨σ7, H7, I7, n7⟩ := q7; exact again I7 n7
    | brk => obtain ⟨σ7, H7, I7, q7⟩ := q7; exact ⟨σ7, H7, I7.unpinned, q7⟩
    | ret v => obtain ⟨x7, σ7, H7, I7, r7, q7⟩ := q7; exact ⟨x7, σ7, H7, I7.unpinned, r7, q7⟩
end

end L2

namespace L2
open PySem PySem.Spec PyProof.Rows

abbrev R2 := V → V → Hp → VK → Prop
def OpR (X : Cx) (f : Value → Value → Sem Value) (r : R2) : Prop :=
  ∀ (pins : List (Addr × Obj)) (s : Shared) (σ : St) (H : Hp) (x y : V) (v u : Value) (Q : VK), Inv X pins σ H s → RelV x v → RelV y u → r x y H Q →
    wpAny (model X.prog X.w) X.A (f v u) (EP X pins σ Q) X.xe s
def UnR (X : Cx) (f : Value → Sem Value) (r : V → Hp → VK → Prop) : Prop :=
  ∀ (pins : List (Addr × Obj)) (s : Shared) (σ : St) (H : Hp) (x : V) (v : Value) (Q : VK), Inv X pins σ H s → RelV x v → r x H Q →
    wpAny (model X.prog X.w) X.A (f v) (EP X pins σ Q) X.xe s
def CallR (X : Cx) (f : Value) (r : List V → Hp → VK → Prop) : Prop :=
  ∀ (pins : List (Addr × Obj)) (s : Shared) (σ : St) (H : Hp) (xs : List V) (us : List Value) (Q : VK), Inv X pins σ H s → Vals xs us → r xs H Q →
    wpAny (model X.prog X.w) X.A (call f us) (EP X pins σ Q) X.xe s

def tOp (r : R2) (ta tb : TE) : TE := fun σ H Q => ta σ H fun x H1 => tb σ H1 fun y H2 => r x y H2 Q
def tUn (r : V → Hp → VK → Prop) (ta : TE) : TE := fun σ H Q => ta σ H fun x H1 => r x H1 Q
def rI (C : Int → Int → Prop) (g : Int → Int → V) : R2 := fun x y H Q => ∃ i j, x = .int i ∧ y = .int j ∧ C i j ∧ Q (g i j) H
def rI0 (g : Int → Int → V) : R2 := fun x y H Q => ∃ i j, x = .int i ∧ y = .int j ∧ Q (g i j) H
def rU (g : Int → V) : V → Hp → VK → Prop := fun x H Q => ∃ i, x = .int i ∧ Q (g i) H

section
variable {X : Cx} {a b c : Expr} {ta tb tc : TE} {pos : Pos}

theorem binT (ha : PE X a ta) (hb : PE X b tb) {pins : List (Addr × Obj)} {s : Shared} {σ : St} {H : Hp} {R : V → V → Hp → Prop} (I : Inv X pins σ H s)
    (h : ta σ H fun x H1 => tb σ H1 fun y H2 => R x y H2) {Q : Value → Shared → Prop} {f : Value → Value → Sem Value}
    (hf : ∀ v u s2 x y H2, Inv X pins σ H2 s2 → RelV x v → RelV y u → R x y H2 → wpAny (model X.prog X.w) X.A (f v u) Q X.xe s2) :
    wpAny (model X.prog X.w) X.A (eval a X.env) (fun v s₁ => wpAny (model X.prog X.w) X.A (eval b X.env) (fun u s₂ => wpAny (model X.prog X.w) X.A (f v u) Q X.xe s₂) X.xe s₁) X.xe s := by
  refine thn (ha pins s σ H _ I h) fun v s1 ⟨x, H1, I1, r1, q1⟩ => ?_
  refine thn (hb pins s1 σ H1 _ I1 q1) fun u s2 ⟨y, H2, I2, r2, q2⟩ => ?_
  exact hf v u s2 x y H2 I2 r1 r2 q2

theorem pe_op {op : Operator} {r : R2} (ho : OpR X (binaryOp op) r) (ha : PE X a ta) (hb : PE X b tb) : PE X (.BinOp a op b pos) (tOp r ta tb) := by
  intro pins s σ H Q I h
  exact wpAny_BinOp (binT ha hb I h fun v u s2 x y H2 I2 rx ry q => ho pins s2 σ H2 x y v u Q I2 rx ry q)
theorem pe_un {op : UnaryOp} {r : V → Hp → VK → Prop} (ho : UnR X (unaryOp op) r) (ha : PE X a ta) : PE X (.UnaryOp op a pos) (tUn r ta) := by
  intro pins s σ H Q I h
  exact UnaryOp_ (thn (ha pins s σ H _ I h) fun v s1 ⟨x, H1, I1, r1, q1⟩ => ho pins s1 σ H1 x v Q I1 r1 q1)

theorem opI {f : Value → Value → Sem Value} {C : Int → Int → Prop} {g : Int → Int → Int}
    (rule : ∀ (i j : Int) (t u : Tok) (s : Shared) (Q : Value → Shared → Prop) (E : Value → Shared → Prop), C i j → Q (.int (g i j) s.toks) { s with toks := s.toks + 1 } → wpAny (model X.prog X.w) X.A (f (.int i t) (.int j u)) Q E s) :
    OpR X f (rI C fun i j => .int (g i j)) := by
  intro pins s σ H x y v u Q I rx ry h
  obtain ⟨i, j, rfl, rfl, hc, q⟩ := h
  obtain ⟨t, rfl⟩ := rx
  obtain ⟨t', rfl⟩ := ry
  exact rule i j t t' s _ _ hc ⟨.int (g i j), H, I.tok _, ⟨_, rfl⟩, q⟩
theorem opI0 {f : Value → Value → Sem Value} {g : Int → Int → Int}
    (rule : ∀ (i j : Int) (t u : Tok) (s : Shared) (Q : Value → Shared → Prop) (E : Value → Shared → Prop), Q (.int (g i j) s.toks) { s with toks := s.toks + 1 } → wpAny (model X.prog X.w) X.A (f (.int i t) (.int j u)) Q E s) :
    OpR X f (rI0 fun i j => .int (g i j)) := by
  intro pins s σ H x y v u Q I rx ry h
  obtain ⟨i, j, rfl, rfl, q⟩ := h
  obtain ⟨t, rfl⟩ := rx
  obtain ⟨t', rfl⟩ := ry
  exact rule i j t t' s _ _ ⟨.int (g i j), H, I.tok _, ⟨_, rfl⟩, q⟩
theorem opB0 {f : Value → Value → Sem Value} {g : Int → Int → Bool}
    (rule : ∀ (i j : Int) (t u : Tok) (s : Shared) (Q : Value → Shared → Prop) (E : Value → Shared → Prop), Q (.bool (g i j)) s → wpAny (model X.prog X.w) X.A (f (.int i t) (.int j u)) Q E s) :
    OpR X f (rI0 fun i j => .bl (g i j)) := by
  intro pins s σ H x y v u Q I rx ry h
  obtain ⟨i, j, rfl, rfl, q⟩ := h
  obtain ⟨t, rfl⟩ := rx
  obtain ⟨t', rfl⟩ := ry
  exact rule i j t t' s _ _ ⟨.bl (g i j), H, I, rfl, q⟩

def CDiv (i j : Int) : Prop := 0 < j ∧ j < 1073741824
def CPow (i j : Int) : Prop := 0 ≤ j ∧ j ≤ 1000000 ∧ i.natAbs < 2 ^ 64
def CMul (i j : Int) : Prop := (-(2 ^ 64) < i ∧ i < 2 ^ 64) ∨ (-(2 ^ 64) < j ∧ j < 2 ^ 64)
theorem CMul.ok {i j : Int} (h : CMul i j) : IntMulOk i j := by
  rcases h with ⟨h1, h2⟩ | ⟨h1, h2⟩
  · exact .of_left (intBits_le_64 h1 h2)
  · exact .of_right (intBits_le_64 h1 h2)
theorem two_pow_nn (k : Nat) : (0 : Int) ≤ 2 ^ k := by
  rw [two_pow_cast]
  exact Int.natCast_nonneg _

theorem op_add : OpR X (binaryOp .Add) (rI0 fun i j => .int (i + j)) := opI0 fun _ _ _ _ _ _ _ q => add_int q
theorem op_sub : OpR X (binaryOp .Sub) (rI0 fun i j => .int (i - j)) := opI0 fun _ _ _ _ _ _ _ q => sub_int q
theorem op_mul : OpR X (binaryOp .Mult) (rI CMul fun i j => .int (i * j)) := opI fun _ _ _ _ _ _ _ hc q => mul_int q hc.ok
theorem op_fdiv : OpR X (binaryOp .FloorDiv) (rI CDiv fun i j => .int (i / j)) := opI fun i j _ _ _ _ _ hc q => by
  have h1 : (0 : Int) < j := hc.1
  have h2 : j < 1073741824 := hc.2
  exact floordiv_int (by omega) (by rw [Int.fdiv_eq_ediv_of_nonneg i (by omega)]; exact q) (.inl (PyProof.noPylong_small (by omega)))
theorem op_mod : OpR X (binaryOp .Mod) (rI (fun _ j => 0 < j) fun i j => .int (i % j)) := opI fun i j _ _ _ _ _ hc q => by
  have h1 : (0 : Int) < j := hc
  exact mod_int' (by omega) (by rw [Int.fmod_eq_emod_of_nonneg i (by omega)]; exact q)
theorem op_pow : OpR X (binaryOp .Pow) (rI CPow fun i j => .int (i ^ j.toNat)) := opI fun _ _ _ _ _ _ _ hc q => pow_int_small hc.1 hc.2.1 hc.2.2 q
theorem op_shl : OpR X (binaryOp .LShift) (rI CPow fun i j => .int (i * 2 ^ j.toNat)) := opI fun _ _ _ _ _ _ _ hc q => lshift_int_small hc.1 hc.2.1 hc.2.2 q
theorem op_shr : OpR X (binaryOp .RShift) (rI (fun _ j => 0 ≤ j) fun i j => .int (i / 2 ^ j.toNat)) := opI fun i j _ _ _ _ _ hc q =>
  rshift_int hc (by rw [Int.fdiv_eq_ediv_of_nonneg i (two_pow_nn _)]; exact q)
theorem op_and : OpR X (binaryOp .BitAnd) (rI0 fun i j => .int (Builtin.bitAnd i j)) := opI0 fun _ _ _ _ _ _ _ q => and_int q
theorem op_or : OpR X (binaryOp .BitOr) (rI0 fun i j => .int (Builtin.bitOr i j)) := opI0 fun _ _ _ _ _ _ _ q => or_int q


theorem unI {f : Value → Sem Value} {g : Int → Int}
    (rule : ∀ (i : Int) (t : Tok) (s : Shared) (Q : Value → Shared → Prop) (E : Value → Shared → Prop), Q (.int (g i) s.toks) { s with toks := s.toks + 1 } → wpAny (model X.prog X.w) X.A (f (.int i t)) Q E s) :
    UnR X f (rU fun i => .int (g i)) := by
  intro pins s σ H x v Q I rx h
  obtain ⟨i, rfl, q⟩ := h
  obtain ⟨t, rfl⟩ := rx
  exact rule i t s _ _ ⟨.int (g i), H, I.tok _, ⟨_, rfl⟩, q⟩
theorem un_neg : UnR X (unaryOp .USub) (rU fun i => .int (-i)) := unI fun _ _ _ _ _ q => neg_int q

end

def scal : V → V → Bool
  | .non, .non => true | .non, .int _ => true | .int _, .non => true | .non, .bl _ => true | .bl _, .non => true | .non, .str _ => true | .str _, .non => true
  | .int _, .int _ => true | .bl _, .bl _ => true | .str _, .str _ => true | .byt _, .byt _ => true
  | .int _, .str _ => true | .str _, .int _ => true | .bl _, .str _ => true | .str _, .bl _ => true
  | _, _ => false
def rEq : R2 := fun x y H Q => scal x y = true ∧ Q (.bl (decide (x = y))) H
def rNe : R2 := fun x y H Q => scal x y = true ∧ Q (.bl (!decide (x = y))) H

theorem dec_int {i j : Int} : decide (V.int i = V.int j) = (i == j) := by
  rw [Bool.eq_iff_iff]
  simp
theorem dec_bl {i j : Bool} : decide (V.bl i = V.bl j) = (i == j) := by
  rw [Bool.eq_iff_iff]
  simp
theorem dec_str {i j : Str} : decide (V.str i = V.str j) = (i == j) := by
  rw [Bool.eq_iff_iff]
  simp
theorem dec_byt {i j : Array UInt8} : decide (V.byt i = V.byt j) = (i.toList == j.toList) := by
  rw [Bool.eq_iff_iff]
  cases i
  cases j
  simp

section
variable {X : Cx} {a b c : Expr} {ta tb tc : TE} {pos : Pos}
theorem fin_bl {pins : List (Addr × Obj)} {σ : St} {H : Hp} {s : Shared} {Q : VK} {k k' : Bool} (I : Inv X pins σ H s) (q : Q (.bl k) H) (e : k = k') : EP X pins σ Q (.bool k') s := by
  subst e
  exact ⟨.bl k, H, I, rfl, q⟩
theorem op_eq : OpR X (compareOp .Eq) rEq := by
  intro pins s σ H x y v u Q I rx ry h
  obtain ⟨hs, q⟩ := h
  cases x with
  | non =>
    cases rx
    cases y with
    | non => cases ry; exact PySem.EqNone.eq_none_none (fin_bl I q (by simp))
    | bl j => cases ry; exact PySem.EqNone.eq_none_bool (fin_bl I q (by simp))
    | int j => obtain ⟨t', rfl⟩ := ry; exact PySem.EqNone.eq_none_int (fin_bl I q (by simp))
    | str j => obtain ⟨t', rfl⟩ := ry; exact PySem.EqNone.eq_none_str (fin_bl I q (by simp))
    | _ => exact absurd (show false = true from hs) Bool.false_ne_true
  | bl i =>
    cases rx
    cases y with
    | non => cases ry; exact PySem.EqNone.eq_bool_none (fin_bl I q (by simp))
    | bl j => cases ry; exact eq_bool (fin_bl I q dec_bl)
    | str j => obtain ⟨t', rfl⟩ := ry; exact PySem.EqMixed.eq_bool_str (fin_bl I q (by simp))
    | _ => exact absurd (show false = true from hs) Bool.false_ne_true
  | int i =>
    obtain ⟨t, rfl⟩ := rx
    cases y with
    | non => cases ry; exact PySem.EqNone.eq_int_none (fin_bl I q (by simp))
    | int j => obtain ⟨t', rfl⟩ := ry; exact eq_int (fin_bl I q dec_int)
    | str j => obtain ⟨t', rfl⟩ := ry; exact PySem.EqMixed.eq_int_str (fin_bl I q (by simp))
    | _ => exact absurd (show false = true from hs) Bool.false_ne_true
  | str i =>
    obtain ⟨t, rfl⟩ := rx
    cases y with
    | non => cases ry; exact PySem.EqNone.eq_str_none (fin_bl I q (by simp))
    | bl j => cases ry; exact PySem.EqMixed.eq_str_bool (fin_bl I q (by simp))
    | int j => obtain ⟨t', rfl⟩ := ry; exact PySem.EqMixed.eq_str_int (fin_bl I q (by simp))
    | str j => obtain ⟨t', rfl⟩ := ry; exact eq_str (fin_bl I q dec_str)
    | _ => exact absurd (show false = true from hs) Bool.false_ne_true
  | byt i =>
    obtain ⟨t, rfl⟩ := rx
    cases y with
    | byt j => obtain ⟨t', rfl⟩ := ry; exact PySem.W.eq_bytes (fin_bl I q dec_byt)
    | _ => exact absurd (show false = true from hs) Bool.false_ne_true
  | _ => cases y <;> exact absurd (show false = true from hs) Bool.false_ne_true
theorem op_ne : OpR X (compareOp .NotEq) rNe := by
  intro pins s σ H x y v u Q I rx ry h
  obtain ⟨hs, q⟩ := h
  cases x with
  | non =>
    cases rx
    cases y with
    | non => cases ry; exact PySem.EqNone.ne_none_none (fin_bl I q (by simp))
    | bl j => cases ry; exact PySem.EqNone.ne_none_bool (fin_bl I q (by simp))
    | int j => obtain ⟨t', rfl⟩ := ry; exact PySem.EqNone.ne_none_int (fin_bl I q (by simp))
    | str j => obtain ⟨t', rfl⟩ := ry; exact PySem.EqNone.ne_none_str (fin_bl I q (by simp))
    | _ => exact absurd (show false = true from hs) Bool.false_ne_true
  | bl i =>
    cases rx
    cases y with
    | non => cases ry; exact PySem.EqNone.ne_bool_none (fin_bl I q (by simp))
    | bl j => cases ry; exact ne_bool (fin_bl I q (congrArg not dec_bl))
    | str j => obtain ⟨t', rfl⟩ := ry; exact PySem.EqMixed.ne_bool_str (fin_bl I q (by simp))
    | _ => exact absurd (show false = true from hs) Bool.false_ne_true
  | int i =>
    obtain ⟨t, rfl⟩ := rx
    cases y with
    | non => cases ry; exact PySem.EqNone.ne_int_none (fin_bl I q (by simp))
    | int j => obtain ⟨t', rfl⟩ := ry; exact ne_int (fin_bl I q (congrArg not dec_int))
    | str j => obtain ⟨t', rfl⟩ := ry; exact PySem.EqMixed.ne_int_str (fin_bl I q (by simp))
    | _ => exact absurd (show false = true from hs) Bool.false_ne_true
  | str i =>
    obtain ⟨t, rfl⟩ := rx
    cases y with
    | non => cases ry; exact PySem.EqNone.ne_str_none (fin_bl I q (by simp))
    | bl j => cases ry; exact PySem.EqMixed.ne_str_bool (fin_bl I q (by simp))
    | int j => obtain ⟨t', rfl⟩ := ry; exact PySem.EqMixed.ne_str_int (fin_bl I q (by simp))
    | str j => obtain ⟨t', rfl⟩ := ry; exact ne_str (fin_bl I q (congrArg not dec_str))
    | _ => exact absurd (show false = true from hs) Bool.false_ne_true
  | byt i =>
    obtain ⟨t, rfl⟩ := rx
    cases y with
    | byt j => obtain ⟨t', rfl⟩ := ry; exact PySem.W.ne_bytes (fin_bl I q (congrArg not dec_byt))
    | _ => exact absurd (show false = true from hs) Bool.false_ne_true
  | _ => cases y <;> exact absurd (show false = true from hs) Bool.false_ne_true

theorem op_lt : OpR X (compareOp .Lt) (rI0 fun i j => .bl (decide (i < j))) := opB0 fun _ _ _ _ _ _ _ q => lt_int q
theorem op_le : OpR X (compareOp .LtE) (rI0 fun i j => .bl (decide (i ≤ j))) := opB0 fun _ _ _ _ _ _ _ q => le_int q
theorem op_gt : OpR X (compareOp .Gt) (rI0 fun i j => .bl (decide (j < i))) := opB0 fun _ _ _ _ _ _ _ q => gt_int q
theorem op_ge : OpR X (compareOp .GtE) (rI0 fun i j => .bl (decide (j ≤ i))) := opB0 fun _ _ _ _ _ _ _ q => ge_int q




theorem nomark (b : Expr) {op : CmpOp} (h : op ≠ .In := by decide) (h2 : op ≠ .NotIn := by decide) : behindInMarks op b = false := by
  have e1 : (op == CmpOp.In) = false := by cases op <;> first | rfl | exact absurd rfl h
  have e2 : (op == CmpOp.NotIn) = false := by cases op <;> first | rfl | exact absurd rfl h2
  cases b <;> simp [behindInMarks, e1, e2]
theorem pe_cmpR {op : CmpOp} {r : R2} (ho : OpR X (compareOp op) r) (ha : PE X a ta) (hb : PE X b tb) (hm : behindInMarks op b = false) : PE X (.Compare a [op] [b] pos) (tOp r ta tb) := by
  intro pins s σ H Q I h
  exact wpAny_Compare1 (binT ha hb I h fun v u s2 x y H2 I2 rx ry q => ho pins s2 σ H2 x y v u Q I2 rx ry q) hm
def tTest (t : TE) : TT := fun σ H Q => t σ H fun x H' => ∃ k, x = .bl k ∧ Q k H'
theorem pt_cmpR {op : CmpOp} {r : R2} (ho : OpR X (compareOp op) r) (ha : PE X a ta) (hb : PE X b tb) (hm : behindInMarks op b = false) : PT X (.Compare a [op] [b] pos) (tTest (tOp r ta tb)) := by
  intro pins s σ H Q I h
  refine wpAny_isTrue_Compare1 (thn (ha pins s σ H _ I h) fun v s1 ⟨x, H1, I1, r1, q1⟩ => thn (hb pins s1 σ H1 _ I1 q1) fun u s2 ⟨y, H2, I2, r2, q2⟩ =>
    thn (ho pins s2 σ H2 x y v u _ I2 r1 r2 q2) fun c s3 ⟨z, H3, I3, r3, k, e, q3⟩ => ?_) hm
  subst e
  cases r3
  exact wpAny_truthy_bool ⟨H3, I3, q3⟩

theorem line63 : (sizeLine : Nat) < 2 ^ 63 := by rw [sizeLine_eq]; decide



theorem vals1 {x : V} {us : List Value} (r : Vals [x] us) : ∃ u, us = [u] ∧ RelV x u := by
  cases r with
  | cons r1 r2 => cases r2; exact ⟨_, rfl, r1⟩
theorem vals2 {x y : V} {us : List Value} (r : Vals [x, y] us) : ∃ u w', us = [u, w'] ∧ RelV x u ∧ RelV y w' := by
  cases r with
  | cons r1 r2 =>
    cases r2 with
    | cons r3 r4 => cases r4; exact ⟨_, _, rfl, r1, r3⟩
theorem call_max2 (hc : X.calm = true) : CallR X (.builtin "max") (fun xs H Q => ∃ i j, xs = [.int i, .int j] ∧ Q (.int (if j > i then j else i)) H) := by
  intro pins s σ H xs us Q I r h
  obtain ⟨i, j, rfl, q⟩ := h
  obtain ⟨u, w', rfl, ⟨t, rfl⟩, ⟨t', rfl⟩⟩ := vals2 r
  refine max_two_ints (I.ok.hd hc) fun h' tk k => ⟨_, H, I.kept k, ?_, q⟩
  by_cases hj : j > i
  · rw [if_pos hj, if_pos hj]; exact ⟨_, rfl⟩
  · rw [if_neg hj, if_neg hj]; exact ⟨_, rfl⟩
theorem call_int1 : CallR X (.type "int") (fun xs H Q => (∃ i, xs = [.int i] ∧ Q (.int i) H) ∨ ∃ k, xs = [.bl k] ∧ Q (.int (if k then 1 else 0)) H) := by
  intro pins s σ H xs us Q I r h
  rcases h with ⟨i, rfl, q⟩ | ⟨k, rfl, q⟩
  · obtain ⟨u, rfl, t, rfl⟩ := vals1 r
    exact call_int_int ⟨.int i, H, I, ⟨_, rfl⟩, q⟩
  · obtain ⟨u, rfl, r1⟩ := vals1 r
    cases r1
    exact call_int_bool ⟨.int (if k then 1 else 0), H, I.tok _, ⟨_, rfl⟩, q⟩
end
end L2

namespace L2
open PySem PySem.Spec PyProof.Rows

structure ObjM (h : Heap) (x dx C : Addr) (mA : Str → Option Value) : Prop where
  obj : h.get? x = some (PySem.W.instObj C dx)
  ns : h.Ns1 dx mA
  ne : dx ≠ x



section
variable {prog : Program} {w : World} {A : Around} {E : Value → Shared → Prop} {s : Shared} {K : PySem.W.Frag} {x dx C f : Addr} {mA : Str → Option Value} {name : Str} {v : Value}





end

def putF (f : Str) (v : V) : List (Str × V) → List (Str × V)
  | [] => [(f, v)]
  | (g, x) :: r => if g = f then (g, v) :: r else (g, x) :: putF f v r


section
variable {P : Program} {w : World} {H H' : Hp} {h h' : Heap} {a C dx : Addr} {fs fs' : List (Str × V)}
theorem ins_get (hok : HOk P w H h) (e : H a = some (.ins C dx fs)) : ∃ mA, ObjM h a dx C mA ∧ (∀ f, RelO (fs.lookup f) (mA f)) ∧ PySem.Within mA (fs.map (·.1)) ∧ fs.length ≤ 1000 ∧ H dx = some (.own a) := by
  obtain ⟨d, z, ne, ob, mA, n, r, q⟩ := (show ObjOk P w H h a (.ins C dx fs) from hok a _ e)
  exact ⟨mA, ⟨ob, n, ne⟩, r, q, z, d⟩
end


section
variable {X : Cx} {pins : List (Addr × Obj)} {σ : St} {H : Hp} {s : Shared} {a C dx : Addr} {fs : List (Str × V)} {f : Str} {v : V} {A : Around} {E : Value → Shared → Prop}





theorem Inv.made (I : Inv X pins σ H s) : Inv X pins σ (upd (upd H s.heap.objs.size (.own (s.heap.objs.size + 1))) (s.heap.objs.size + 1) (.ins C s.heap.objs.size []))
    { s with heap := (s.heap.push PySem.W.emptyDict).push (PySem.W.instObj C s.heap.objs.size) } := by
  have e1 : (s.heap.push PySem.W.emptyDict).get? s.heap.objs.size = some PySem.W.emptyDict := Heap.get?_push_size s.heap rfl
  have e2 : ((s.heap.push PySem.W.emptyDict).push (PySem.W.instObj C s.heap.objs.size)).get? (s.heap.objs.size + 1) = some (PySem.W.instObj C s.heap.objs.size) := by
    have := Heap.get?_push_size (s.heap.push PySem.W.emptyDict) (o := PySem.W.instObj C s.heap.objs.size) rfl
    rwa [Heap.size_push] at this
  have e3 : (s.heap.push PySem.W.emptyDict).Ns s.heap.objs.size (fun _ => none) := ⟨PySem.W.emptyDict, #[], _, e1, rfl, (fun e he => absurd he (by simp)), fun _ => rfl⟩
  have I1 := I.laid (a := s.heap.objs.size) (o := .own (s.heap.objs.size + 1)) (h' := s.heap.push PySem.W.emptyDict) (t' := s.toks) (fun b u q => Heap.get?_push_of_some _ q) (Nat.le_refl _) ⟨_, e1⟩
  refine I1.laid (a := s.heap.objs.size + 1) (o := .ins C s.heap.objs.size []) (t' := s.toks) (fun b u q => Heap.get?_push_of_some _ q) (Nat.le_of_eq (Heap.size_push _ _)) ?_
  have ne : s.heap.objs.size ≠ s.heap.objs.size + 1 := Nat.ne_of_lt (Nat.lt_succ_self _)
  refine ⟨by rw [upd_ne ne, upd_same], Nat.zero_le _, ne, e2, fun _ => none, (Heap.Ns1.of_empty e3).at fun o q => Heap.get?_push_of_some _ q, fun _ => True.intro, fun y hy => absurd rfl hy⟩

end


section
variable {X : Cx} {o e value : Expr} {f : Str} {pos pos' tpos : Pos} {ta tv : TE}

end

section
variable {X : Cx} {pins : List (Addr × Obj)} {σ : St} {H : Hp} {s : Shared} {A : Around} {E : Value → Shared → Prop} {Q : Value → Shared → Prop} {c : Value} {b : Bool}
end
end L2

namespace L2
open PySem PySem.Spec PyProof.Rows

structure Room (k : Nat) (A : Around) : Prop where
  hd : A.handled = none
  dp : A.depth + 3 * k + 5 < recursionLimit
  un : A.units + 16 * k + 200 < cLine
theorem Room.mono {j k : Nat} {A : Around} (r : Room k A) (h : j ≤ k) : Room j A := ⟨r.hd, by have := r.dp; omega, by have := r.un; omega⟩
theorem Room.deeper {k : Nat} {A : Around} (r : Room (k + 1) A) (env : Env) : Room k (A.deeper env) :=
  ⟨r.hd, by have := r.dp; show A.depth + 1 + 3 * k + 5 < _; omega, by have := r.un; show A.units + 3 + 16 * k + 200 < _; omega⟩
theorem Room.depth {k : Nat} {A : Around} (r : Room k A) : A.depth < recursionLimit := by have := r.dp; omega
theorem Room.units {k : Nat} {A : Around} (r : Room k A) : A.units + 64 < cLine := by have := r.un; omega

def tNil : TA := fun _ H Q => Q [] H
def tCons (ta : TE) (tr : TA) : TA := fun σ H Q => ta σ H fun x H1 => tr σ H1 fun xs H2 => Q (x :: xs) H2
section
variable {X : Cx} {e : Expr} {es : List Expr} {te : TE} {t : TA} {pos : Pos}
theorem pa_nil : PA X [] tNil := fun _ _ _ _ H Q I h => Calls.spliced_nil ⟨[], H, I, .nil, h⟩
theorem pa_cons (ha : PE X e te) (hr : PA X es t) (hs : starEach (e :: es) X.env = (false, eval e X.env) :: starEach es X.env := by rfl) : PA X (e :: es) (tCons te t) := by
  intro pos pins s σ H Q I h
  rw [hs]
  show wpAny _ _ (spliced ((false, eval e X.env) :: backTo pos (starEach es X.env))) _ _ s
  refine Calls.spliced_cons (thn (ha pins s σ H _ I h) fun u s1 ⟨x, H1, I1, r1, q1⟩ => ?_)
  exact thn (hr pos pins s1 σ H1 _ I1 q1) fun us s2 ⟨xs, H2, I2, r2, q2⟩ => ⟨x :: xs, H2, I2, .cons r1 r2, q2⟩

def tTup (t : TA) : TE := fun σ H Q => t σ H fun xs H1 => xs.length ≤ sizeLine ∧ ∀ p, H1 p = none → Q (.ref p) (upd H1 p (.tup xs))
def tLst (t : TA) : TE := fun σ H Q => t σ H fun xs H1 => xs.length ≤ sizeLine ∧ ∀ p, H1 p = none → Q (.ref p) (upd H1 p (.lst xs))
theorem pe_tup {x1} (h : PA X es t) : PE X (.Tuple es x1 pos) (tTup t) := by
  intro pins s σ H Q I hq
  refine wpAny_Tuple_spliced (thn (h pos pins s σ H _ I hq) fun us s1 ⟨xs, H1, I1, r, z, q⟩ => ⟨by rw [← r.length]; exact z, ?_⟩)
  have hf : H1 s1.heap.objs.size = none := I1.hok.fresh (Nat.le_refl _)
  refine ⟨.ref s1.heap.objs.size, upd H1 s1.heap.objs.size (.tup xs), I1.laid (t' := s1.toks) (fun b u e => Heap.get?_push_of_some _ e) (Nat.le_refl _) ?_, rfl, q _ hf⟩
  exact ⟨z, us, r, ⟨_, Heap.get?_push_size _ rfl, rfl, _, rfl⟩⟩
theorem pe_lst (h : PA X es t) : PE X (.List es pos) (tLst t) := by
  intro pins s σ H Q I hq
  refine wpAny_List_spliced (thn (h pos pins s σ H _ I hq) fun us s1 ⟨xs, H1, I1, r, z, q⟩ => ⟨by rw [← r.length]; exact z, ?_⟩)
  have hf : H1 s1.heap.objs.size = none := I1.hok.fresh (Nat.le_refl _)
  refine ⟨.ref s1.heap.objs.size, upd H1 s1.heap.objs.size (.lst xs), I1.laid (t' := s1.toks) (fun b u e => Heap.get?_push_of_some _ e) (Nat.le_refl _) ?_, rfl, q _ hf⟩
  exact ⟨z, us, 0, r, Heap.get?_push_size _ rfl⟩
end

abbrev Sp := List V → Hp → VK → XK → Prop
abbrev CXT := List Env → Hp → Shared → XK → Value → Shared → Prop

structure Env0 (P : Program) (w : World) (K : PySem.W.Frag) (mg : Str → Option Value) (base : Heap) (A : Around) (outer : List Env) (s : Shared) (H : Hp) : Prop where
  frames : A.frames = some outer
  mod : Mod K mg base
  bs : ∀ b o, base.get? b = some o → s.heap.get? b = some o ∧ H b = none
  bsz : base.objs.size ≤ s.heap.objs.size
  funs : s.heap.FunFrames base outer
  frf : ∀ b ∈ frs outer, H b = none
  hok : HOk P w H s.heap
  bare : AllBare s.gens
def CE (outer : List Env) (P : Program) (w : World) (H : Hp) (s : Shared) (Q : VK) (u : Value) (s' : Shared) : Prop :=
  ∃ v H', s'.os = s.os ∧ AllBare s'.gens ∧ Un (frs outer) [] H H' s.heap s'.heap ∧ HOk P w H' s'.heap ∧ RelV v u ∧ Q v H'
def CR (CX : CXT) (outer : List Env) (P : Program) (w : World) (H : Hp) (s : Shared) (Q : VK) (E : XK) (r : Result) (s' : Shared) : Prop :=
  match r with
  | .ok (.ret u) => CE outer P w H s Q u s'
  | .ok _ => False
  | .error e => CX outer H s E e s'
structure FnOk (P : Program) (w : World) (K : PySem.W.Frag) (mg : Str → Option Value) (base : Heap) (CX : CXT) (k : Nat) (f : Addr) (fd : FuncData) (ps : List Str) (sp : Sp) : Prop where
  len : ∀ vs H Q E, sp vs H Q E → vs.length = ps.length
  run : ∀ (A : Around) (outer : List Env) (s : Shared) (H : Hp) (args : Args) (us : List Value) (vs : List V) (Q : VK) (E : XK), Room k A → Env0 P w K mg base A outer s H → BindsTo s fd args (ps.zip us) → Vals vs us → sp vs H Q E →
    codeAny (model P w) A (.call (.ref f) args) (CR CX outer P w H s Q E) s
theorem FnOk.mono {P : Program} {w : World} {K : PySem.W.Frag} {mg : Str → Option Value} {base : Heap} {CX : CXT} {j k : Nat} {f : Addr} {fd : FuncData} {ps : List Str} {sp : Sp} (F : FnOk P w K mg base CX j f fd ps sp) (h : j ≤ k) :
    FnOk P w K mg base CX k f fd ps sp := ⟨F.len, fun A outer s H args us vs Q E hr => F.run A outer s H args us vs Q E (hr.mono h)⟩


section
variable {X : Cx} {pins : List (Addr × Obj)} {σ : St} {H : Hp} {s s' : Shared}
theorem Inv.env0 (I : Inv X pins σ H s) : Env0 X.prog X.w X.K X.mg X.base X.A X.stack s H :=
  ⟨I.ok.frames, I.ok.mod, I.bs, Nat.le_trans I.ok.bsz I.sz, I.stack, I.stkFree, I.hok, I.bare⟩
theorem Inv.after {Q : VK} {u : Value} (I : Inv X pins σ H s) (h : CE X.stack X.prog X.w H s Q u s') : EP X pins σ Q u s' := by
  obtain ⟨v, H', os, bare, un, hok, r, q⟩ := h
  obtain ⟨hh, g, d, t, os'⟩ := s'
  obtain rfl : os' = s.os := os
  exact ⟨v, H', I.call (h' := hh) (g' := g) (d' := d) (t' := t) (ch := []) un hok bare (fun b z => absurd z (by simp)), r, q⟩
end

def tCall (sp : Sp) (dvs : List V) (E : XK) (t : TA) : TE := fun σ H Q => t σ H fun vs H1 => sp (vs ++ dvs) H1 Q E

def Binds (K : PySem.W.Frag) (fd : FuncData) (ps : List Str) (ds : List Value) : Prop :=
  ∀ (s : Shared) (us : List Value), K.In s.heap → (us ++ ds).length = ps.length → BindsTo s fd ⟨us, []⟩ (ps.zip (us ++ ds))
theorem Binds.all {K : PySem.W.Frag} {fd : FuncData} {ps : List Str} (h : ∀ us : List Value, us.length = ps.length → bindArgs fd ⟨us, []⟩ = pure (ps.zip us)) : Binds K fd ps [] := fun s us _ hl => by
  rw [List.append_nil] at hl ⊢
  exact .of_eq (h us hl)

def Passes (CX : CXT) (X : Cx) (E : XK) : Prop := ∀ (pins : List (Addr × Obj)) (σ : St) (H : Hp) (s : Shared) (e : Value) (s' : Shared), Inv X pins σ H s → CX X.stack H s E e s' → X.xe e s'

section
variable {X : Cx} {CX : CXT} {k : Nat} {f C : Addr} {fd : FuncData} {ps : List Str} {sp : Sp} {dvs : List V} {ds : List Value} {E : XK} {x m : Str} {p pos apos : Pos} {e o : Expr} {es : List Expr} {ta : TE} {t : TA}

theorem run_fn {pins : List (Addr × Obj)} {σ : St} {H : Hp} {s : Shared} {Q : VK} {us : List Value} {vs : List V} (F : FnOk X.prog X.w X.K X.mg X.base CX k f fd ps sp) (hr : Room k X.A) (hb : Binds X.K fd ps ds) (hd : Vals dvs ds) (hx : Passes CX X E)
    (I : Inv X pins σ H s) (r : Vals vs us) (h : sp (vs ++ dvs) H Q E) : wpAny (model X.prog X.w) X.A (call (.ref f) us) (EP X pins σ Q) X.xe s := by
  have r2 : Vals (vs ++ dvs) (us ++ ds) := r.append hd
  have hl : (us ++ ds).length = ps.length := by rw [← r2.length]; exact F.len _ _ _ _ h
  refine wpAny_call (codeAny_mono (F.run X.A X.stack s H ⟨us, []⟩ (us ++ ds) (vs ++ dvs) Q E hr I.env0 (hb s us I.kIn hl) r2 h) fun r s' hq => ?_)
  cases r with
  | error e => exact hx pins σ H s e s' I hq
  | ok fl =>
    cases fl with
    | ret u => exact I.after hq
    | next => exact False.elim hq
    | brk => exact False.elim hq
    | cont => exact False.elim hq

theorem pe_call (F : FnOk X.prog X.w X.K X.mg X.base CX k f fd ps sp) (hr : Room k X.A) (hg : Gl X x) (hm : X.mg x = some (.ref f)) (hk : PySem.W.keepIn X.K (.ref f) = true) (hb : Binds X.K fd ps ds) (hd : Vals dvs ds) (hx : Passes CX X E)
    (ha : PA X (e :: es) t) (hdb : (x == ("__debug__" : Str)) = false := by decide) (he : starEach (e :: es) X.env = (false, eval e X.env) :: starEach es X.env := by rfl) (hpl : (backTo pos (starEach es X.env)).any (·.1) = false := by rfl) :
    PE X (.Call (.Name x p) (e :: es) [] pos) (tCall sp dvs E t) := by
  intro pins s σ H Q I h
  refine wpAny_Call_Name_kw (ld_glob I hg hm ?_ hdb)
  refine PySem.W.callWith_K (h₀ := X.base) I.ok.mod.kin hk (thn (ha pos pins s σ H _ I h) fun us s1 ⟨vs, H1, I1, r, q⟩ => ⟨I1.kIn, ?_⟩) he hpl
  exact run_fn F hr hb hd hx I1 r q
theorem pe_call0 (F : FnOk X.prog X.w X.K X.mg X.base CX k f fd ps sp) (hr : Room k X.A) (hg : Gl X x) (hm : X.mg x = some (.ref f)) (hk : PySem.W.keepIn X.K (.ref f) = true) (hb : Binds X.K fd ps ds) (hd : Vals dvs ds) (hx : Passes CX X E)
    (hdb : (x == ("__debug__" : Str)) = false := by decide) : PE X (.Call (.Name x p) [] [] pos) (tCall sp dvs E tNil) := by
  intro pins s σ H Q I h
  refine wpAny_Call_Name_kw (ld_glob I hg hm ?_ hdb)
  exact PySem.W.callWith_K0 I.kIn hk (run_fn (us := []) F hr hb hd hx I .nil h)



end

section
variable {X : Cx} {CX : CXT} {k : Nat} {f C : Addr} {fd : FuncData} {ps ks : List Str} {sp : Sp} {E : XK} {x m : Str} {p pos apos kpos : Pos} {e o : Expr} {es : List Expr} {kws : List Keyword} {te ta : TE} {t tk : TA} {nm : Option Str}

variable {g : List Value → List Value → List Value} {gV : List V → List V → List V}
end

structure FnScope (N P : List Str) (sc : Scope) : Prop where
  kind : sc.kind = .function
  co : sc.isCoroutine = false
  gen : sc.isGenerator = false
  nd : N.Nodup
  pre : N.take P.length = P
  par : ∀ x ∈ P, sc.names.lookup x = some .local ∨ sc.names.lookup x = some .cell
  nofree : ∀ y ∈ sc.names, y.2 ≠ .free

theorem bindL_out {kindOf : Str → Option NameKind} {x : Str} : ∀ {binds : List (Str × Value)} {m : Str → Option Value}, (∀ v, (x, v) ∉ binds) → bindL kindOf binds m x = m x
  | [], _, _ => rfl
  | (n, v) :: r, m, h => by
    unfold bindL
    rw [bindL_out fun w hw => h w (List.mem_cons_of_mem _ hw)]
    split
    · have : x ≠ n := by rintro rfl; exact h v List.mem_cons_self
      simp [this]
    · rfl
theorem bindC_out {kindOf : Str → Option NameKind} {x : Str} : ∀ {binds : List (Str × Value)} {m : Str → Option Value}, (∀ v, (x, v) ∉ binds) → bindC kindOf binds m x = m x
  | [], _, _ => rfl
  | (n, v) :: r, m, h => by
    unfold bindC
    rw [bindC_out fun w hw => h w (List.mem_cons_of_mem _ hw)]
    split
    · rfl
    · have : x ≠ n := by rintro rfl; exact h v List.mem_cons_self
      simp [this]
theorem bindL_get {kindOf : Str → Option NameKind} {x : Str} {v : Value} : ∀ {P : List Str} {vs : List Value} {i : Nat} {m : Str → Option Value}, P.Nodup → P[i]? = some x → vs[i]? = some v → kindOf x = some .local →
    bindL kindOf (P.zip vs) m x = some v
  | [], _, _, _, _, h, _, _ => by simp at h
  | _ :: _, [], _, _, _, _, h, _ => by simp at h
  | p :: P, w :: vs, 0, m, nd, h1, h2, hk => by
    simp at h1 h2; subst h1; subst h2
    show bindL kindOf ((p, w) :: P.zip vs) m p = _
    unfold bindL
    rw [bindL_out fun v hv => (List.nodup_cons.mp nd).1 (List.of_mem_zip hv).1, if_pos hk]
    simp
  | p :: P, w :: vs, i + 1, m, nd, h1, h2, hk => by
    show bindL kindOf ((p, w) :: P.zip vs) m x = _
    unfold bindL
    exact bindL_get (i := i) (List.nodup_cons.mp nd).2 (by simpa using h1) (by simpa using h2) hk
theorem bindC_get {kindOf : Str → Option NameKind} {x : Str} {v : Value} : ∀ {P : List Str} {vs : List Value} {i : Nat} {m : Str → Option Value}, P.Nodup → P[i]? = some x → vs[i]? = some v → kindOf x ≠ some .local →
    bindC kindOf (P.zip vs) m x = some v
  | [], _, _, _, _, h, _, _ => by simp at h
  | _ :: _, [], _, _, _, _, h, _ => by simp at h
  | p :: P, w :: vs, 0, m, nd, h1, h2, hk => by
    simp at h1 h2; subst h1; subst h2
    show bindC kindOf ((p, w) :: P.zip vs) m p = _
    unfold bindC
    rw [bindC_out fun v hv => (List.nodup_cons.mp nd).1 (List.of_mem_zip hv).1, if_neg hk]
    simp
  | p :: P, w :: vs, i + 1, m, nd, h1, h2, hk => by
    show bindC kindOf ((p, w) :: P.zip vs) m x = _
    unfold bindC
    exact bindC_get (i := i) (List.nodup_cons.mp nd).2 (by simpa using h1) (by simpa using h2) hk

def start (N : List Str) (vs : List V) : St := vs.map some ++ List.replicate (N.length - vs.length) none

def cxOf (CX : CXT) (P : Program) (w : World) (K : PySem.W.Frag) (mg : Str → Option Value) (base : Heap) (N : List Str) (qual : Str) (scope : Scope) (f : Addr) (cd : Value) (A : Around) (outer : List Env) (s : Shared) (H : Hp) (E : XK) : Cx where
  prog := P
  w := w
  K := K
  mg := mg
  base := base
  A := A.deeper (envOfC qual scope s.heap.objs.size f cd)
  N := N
  s₀ := s
  H₀ := H
  env := envOfC qual scope s.heap.objs.size f cd
  outer := outer
  stack := envOfC qual scope s.heap.objs.size f cd :: outer
  ex := []
  calm := true
  fn := fun _ => true
  pn := []
  xe := fun e s' => wpAny (model P w) (A.deeper (envOfC qual scope s.heap.objs.size f cd)) (leaving (envOfC qual scope s.heap.objs.size f cd) e) (fun _ s'' => CX outer H s E e s'') (fun e' s'' => CX outer H s E e' s'') s'

theorem cell_has {sc : Scope} {n : Nat} {x : Str} (h : sc.names.lookup x = some .cell) : ∃ c, (cellsFrom n sc.names []).lookup x = some c := by
  have q := PySem.W.cellsFrom_some sc.names n [] (.inl h)
  exact Option.isSome_iff_exists.mp q

theorem inv_start {CX : CXT} {P : Program} {w : World} {K : PySem.W.Frag} {mg : Str → Option Value} {base : Heap} {N ps : List Str} {qual : Str} {scope : Scope} {f : Addr} {cd : Value} {A : Around} {outer : List Env} {s s1 : Shared} {H : Hp} {E : XK} {us : List Value} {vs : List V}
    (S : FnScope N ps scope) (hd : A.handled = none) (e0 : Env0 P w K mg base A outer s H) (hl : vs.length = ps.length) (r : Vals vs us)
    (x : InCallC s s.heap.objs.size (bindL (envOfC qual scope s.heap.objs.size f cd).kindOf (ps.zip us) fun _ => none) (cellsFrom (s.heap.objs.size + 1) scope.names []) (bindC (envOfC qual scope s.heap.objs.size f cd).kindOf (ps.zip us) fun _ => none) s1) :
    Inv (cxOf CX P w K mg base N qual scope f cd A outer s H E) [] (start N vs) H s1 := by
  have hpl : ps.length ≤ N.length := by have := congrArg List.length S.pre; rw [List.length_take] at this; omega
  obtain ⟨h1, tk, rfl, hk⟩ := x.done
  have noA : ∀ b : Addr, b ∉ (cxOf CX P w K mg base N qual scope f cd A outer s H E).ex := fun b z => absurd (show b ∈ ([] : List Addr) from z) (by simp)
  refine ⟨⟨e0.mod, S.kind, rfl, rfl, Nat.le_refl _, fun y z c h1 h2 => ?_, fun y hy => ?_, fun y c _ h => ?_, fun _ => hd, Around.frames_deeper e0.frames, .inr ⟨rfl, rfl⟩, fun b z => absurd z (noA b), e0.bs, e0.bsz, fun b _ _ => noA b, fun b z => absurd z (noA b), e0.funs, e0.frf⟩,
    rfl, e0.bare, Un.kept hk, ⟨_, x.toInCall.ns, fun i y v h1 h2 h3 => ?_⟩, fun y c h => ⟨_, x.cell y c h⟩, e0.hok.fresh (Nat.le_refl _), fun y c h => ?_, fun p hp => absurd (show p ∈ ([] : List (Addr × Obj)) from hp) (by simp), e0.hok.kept hk, ?_⟩
  · exact name_of_addr x.apart (PySem.mem_of_lookup h1) (PySem.mem_of_lookup h2)
  · have hy : scope.names.lookup y = some .cell ∨ scope.names.lookup y = some .free := hy
    rcases hy with hy | hy
    · exact cell_has hy
    · exact absurd rfl (S.nofree _ (PySem.mem_of_lookup hy))
  · exact Nat.le_of_lt (x.above y c (PySem.mem_of_lookup h))
  · have hi : i < vs.length := by
      unfold start at h2
      by_cases hi : i < vs.length
      · exact hi
      · rw [List.getElem?_append_right (by simpa using hi)] at h2
        rw [List.getElem?_replicate] at h2
        split at h2 <;> cases h2
    have ha : vs[i]? = some v := by
      unfold start at h2
      rw [List.getElem?_append_left (by simpa using hi), List.getElem?_map] at h2
      cases e : vs[i]? with
      | none => rw [e] at h2; cases h2
      | some a => rw [e] at h2; cases h2; rfl
    obtain ⟨u, hu, rv⟩ := r.get ha
    have hp : ps[i]? = some y := by
      rw [← S.pre, List.getElem?_take_of_lt (by omega)]; exact h1
    have ndP : ps.Nodup := by rw [← S.pre]; exact S.nd.sublist (List.take_sublist _ _)
    refine ⟨u, rv, ?_⟩
    rcases S.par y (List.mem_of_getElem? hp) with k | k
    · exact .inl ⟨k, bindL_get ndP hp hu k⟩
    · obtain ⟨c, e⟩ := cell_has (n := s.heap.objs.size + 1) k
      refine .inr ⟨.inl k, c, e, ?_⟩
      have q := x.cell y c e
      rw [bindC_get ndP hp hu (by show scope.names.lookup y ≠ _; rw [k]; decide)] at q
      exact q
  · exact e0.hok.fresh (Nat.le_of_lt (x.above y c (PySem.mem_of_lookup h)))
  · unfold start
    show _ = N.length
    rw [List.length_append, List.length_map, List.length_replicate]
    omega

theorem fn_of {CX : CXT} {P : Program} {w : World} {K : PySem.W.Frag} {mg : Str → Option Value} {base : Heap} {k : Nat} {f : Addr} {name qual : Str} {params : Arguments} {body : List Stmt} {scope : Scope} {dV kV doc pm cdv ct oc : Value} {an od : Option Addr}
    {osl : Array (Option Value)} {N ps : List Str} {sp : Sp} (lk : K.lookup f = some ⟨oc, od, .func (PySem.W.fnOf name qual params body scope dV kV doc pm an cdv ct), osl⟩) (hcd : PySem.W.codeIn K cdv qual = true) (S : FnScope N ps scope)
    (len : ∀ vs H Q E, sp vs H Q E → vs.length = ps.length)
    (hbody : ∀ (A : Around) (outer : List Env) (s : Shared) (H : Hp) (vs : List V) (Q : VK) (E : XK), Room k (A.deeper (envOfC qual scope s.heap.objs.size f cdv)) → sp vs H Q E →
      ∃ t, PSs (cxOf CX P w K mg base N qual scope f cdv A outer s H E) body t ∧ t { nx := fun _ H' => Q .non H', rt := Q } (start N vs) H) :
    FnOk P w K mg base CX (k + 1) f (PySem.W.fnOf name qual params body scope dV kV doc pm an cdv ct) ps sp := by
  refine ⟨len, fun A outer s H args us vs Q E hr e0 hb r hsp => ?_⟩
  have hl := len _ _ _ _ hsp
  have KX : K.In s.heap := e0.mod.kin.keeps fun b o e => (e0.bs b o e).1
  have lim : s.heap.NoLimit := e0.mod.nolimit.keeps fun b o e => (e0.bs b o e).1
  have hkind : ∀ y ∈ ps.zip us, scope.names.lookup y.1 = some .local ∨ (scope.names.lookup y.1 = some .cell ∧ ((cellsFrom (s.heap.objs.size + 1) scope.names []).lookup y.1).isSome = true) := fun ⟨n, v⟩ hy => by
    rcases S.par n (List.of_mem_zip hy).1 with q | q
    · exact .inl q
    · exact .inr ⟨q, PySem.W.cellsFrom_some _ _ _ (.inl q)⟩
  refine codeAny_call_function hr.depth (KX _ _ lk) rfl S.co S.gen rfl (PySem.W.codeRec_of KX hcd) (hb _ _ _ _ ?_)
  refine wpAny_newFunctionEnv_cells S.kind hkind fun env he s1 x => ?_
  subst he
  refine ⟨lim.keeps x.toInCall.keep, codeAny_func ?_⟩
  obtain ⟨t, ht, hq⟩ := hbody A outer s H vs Q E (hr.deeper _) hsp
  have I : Inv (cxOf CX P w K mg base N qual scope f cdv A outer s H E) [] (start N vs) H s1 := inv_start S hr.hd e0 hl r x
  refine wpAny_mono (ht [] s1 (start N vs) H _ I hq) (fun fl s' hs => ?_) fun e s' hs => hs
  have fin : ∀ {σ' : St} {H' : Hp} {v : V} {u : Value}, Inv (cxOf CX P w K mg base N qual scope f cdv A outer s H E) [] σ' H' s' → RelV v u → Q v H' → CE outer P w H s Q u s' :=
    fun {σ' H' v u} J rv q => ⟨v, H', J.os, J.bare, J.base, J.hok, rv, q⟩
  cases fl with
  | ret u =>
    obtain ⟨v, σ', H', J, rv, q⟩ := hs
    exact fin J rv q
  | next =>
    obtain ⟨σ', H', J, q⟩ := hs
    exact fin (v := V.non) (u := Value.none) J rfl q
  | brk =>
    obtain ⟨_, _, _, q⟩ := hs
    exact False.elim q
  | cont =>
    obtain ⟨_, _, _, q⟩ := hs
    exact False.elim q
end L2

namespace L2
open PySem PySem.Spec PyProof.Rows
section
variable {X : Cx} {x : Str} {p pos : Pos} {e : Expr} {es : List Expr} {t : TA} {id T : String} {r : List V → Hp → VK → Prop}

def tCB (r : List V → Hp → VK → Prop) (t : TA) : TE := fun σ H Q => t σ H fun vs H1 => r vs H1 Q
theorem pe_callB (hc : CallR X (.builtin id) r) (hg : Gl X x) (hm : X.mg x = none) (hv : bootBuiltins x = some (.builtin id)) (ha : PA X (e :: es) t) (hn : x ≠ "__name__" := by decide) (hdb : (x == ("__debug__" : Str)) = false := by decide)
    (he : starEach (e :: es) X.env = (false, eval e X.env) :: starEach es X.env := by rfl) (hpl : (backTo pos (starEach es X.env)).any (·.1) = false := by rfl) : PE X (.Call (.Name x p) (e :: es) [] pos) (tCB r t) := by
  intro pins s σ H Q I h
  refine wpAny_Call_Name_kw (ld_blt I hg hm hv ?_ hn hdb)
  exact PyProof.Rows.callWith_builtin1 (thn (ha pos pins s σ H _ I h) fun us s1 ⟨vs, H1, I1, r1, q1⟩ => hc pins s1 σ H1 vs us Q I1 r1 q1) he hpl
theorem pe_callTy (hc : CallR X (.type T) r) (hg : Gl X x) (hm : X.mg x = none) (hv : bootBuiltins x = some (.type T)) (ha : PA X (e :: es) t) (hn : x ≠ "__name__" := by decide) (hdb : (x == ("__debug__" : Str)) = false := by decide)
    (he : starEach (e :: es) X.env = (false, eval e X.env) :: starEach es X.env := by rfl) (hpl : (backTo pos (starEach es X.env)).any (·.1) = false := by rfl) : PE X (.Call (.Name x p) (e :: es) [] pos) (tCB r t) := by
  intro pins s σ H Q I h
  refine wpAny_Call_Name_kw (ld_blt I hg hm hv ?_ hn hdb)
  exact PyProof.Rows.callWith_type1 (thn (ha pos pins s σ H _ I h) fun us s1 ⟨vs, H1, I1, r1, q1⟩ => hc pins s1 σ H1 vs us Q I1 r1 q1) he hpl
end
end L2

namespace HT
open PySem PyProof.Rows



section
open PySem.SeqAt
open PySem.AutoSeq1 (wpAny_loadPart')
open PySem.MeetsSeq PySem.MeetsSeq2 PySem.MeetsSeq3

end

section
variable {prog : Program} {w : World} {A : Around} {E : Value → Shared → Prop} {s : Shared}



def sIx (n d : Nat) : Option Int → Nat
  | none => d
  | some v => if v < 0 then (v + (n : Int)).toNat else min v.toNat n
theorem sIx_nat (n d k : Nat) : sIx n d (some (k : Int)) = min k n := by
  show (if (k : Int) < 0 then ((k : Int) + (n : Int)).toNat else min (k : Int).toNat n) = min k n
  rw [if_neg (by omega), Int.toNat_natCast]

end
end HT

namespace L2
open PySem PySem.Spec PyProof.Rows

abbrev TO := St → Hp → (Option Int → Hp → Prop) → Prop
def PO (X : Cx) (e : Option Expr) (t : TO) : Prop :=
  ∀ (pins : List (Addr × Obj)) (s : Shared) (σ : St) (H : Hp) (Q : Option Int → Hp → Prop), Inv X pins σ H s → t σ H Q →
    wpAny (model X.prog X.w) X.A (evalPart e X.env) (fun u s' => ∃ o H', Inv X pins σ H' s' ∧ IsPart u o ∧ Q o H') X.xe s
def tNoPart : TO := fun _ H Q => Q none H
def tPart (t : TE) : TO := fun σ H Q => t σ H fun x H1 => ∃ i, x = .int i ∧ Q (some i) H1

theorem intsAre_of {ns : List Int} : ∀ {us : List Value}, Vals (ns.map V.int) us → IntsAre us ns := by
  induction ns with
  | nil => intro us r; rw [List.map_nil] at r; cases r; exact .nil
  | cons n ns ih =>
    intro us r
    rw [List.map_cons] at r
    cases r with
    | cons r1 r2 =>
      obtain ⟨t, e⟩ := r1
      subst e
      exact .cons n t (ih r2)

section
variable {X : Cx} {e : Expr} {te : TE} {lo hi : Option Expr} {tl th : TO} {pos p2 : Pos}

theorem po_none : PO X none tNoPart := by
  intro pins s σ H Q I h
  rw [evalPart_none]
  exact wpAny_pure ⟨none, H, I, .none, h⟩
theorem po_some (h : PE X e te) : PO X (some e) (tPart te) := by
  intro pins s σ H Q I hw
  rw [evalPart_some]
  refine thn (h pins s σ H _ I hw) fun u s1 ⟨x, H1, I1, r1, q1⟩ => ?_
  obtain ⟨i, rfl, q⟩ := q1
  obtain ⟨t, rfl⟩ := r1
  exact ⟨some i, H1, I1, .int i t, q⟩

def SlR (X : Cx) (r : V → Option Int → Option Int → Hp → VK → Prop) : Prop :=
  ∀ (pins : List (Addr × Obj)) (s : Shared) (σ : St) (H : Hp) (x : V) (v vl vu : Value) (lo hi : Option Int) (sl : Addr) (Q : VK), Inv X pins σ H s → RelV x v → s.heap.IsSliceOf sl vl vu .none → IsPart vl lo → IsPart vu hi → r x lo hi H Q →
    ∃ T id, typeLookup (.type T) "__getitem__" = pure (some (.builtin id)) ∧ s.TypeIs v T ∧ wpAny (model X.prog X.w) X.A (getItem v (.ref sl)) (EP X pins σ Q) X.xe s
def tSl (r : V → Option Int → Option Int → Hp → VK → Prop) (te : TE) (tl th : TO) : TE := fun σ H Q => te σ H fun x H1 => tl σ H1 fun l H2 => th σ H2 fun u H3 => r x l u H3 Q
theorem pe_slice {r : V → Option Int → Option Int → Hp → VK → Prop} (hr : SlR X r) (he : PE X e te) (hl : PO X lo tl) (hu : PO X hi th) : PE X (.Subscript e (.Slice lo hi none p2) pos) (tSl r te tl th) := by
  intro pins s σ H Q I h
  refine Subscript_ (thn (he pins s σ H _ I h) fun v s1 ⟨x, H1, I1, r1, q1⟩ => ?_)
  refine wpAny_Slice (thn (hl pins s1 σ H1 _ I1 q1) fun vl s2 ⟨l, H2, I2, pl, q2⟩ => thn (hu pins s2 σ H2 _ I2 q2) fun vu s3 ⟨u, H3, I3, pu, q3⟩ => ?_)
  rw [evalPart_none]
  refine wpAny_pure ?_
  have I4 : Inv X pins σ H3 { s3 with heap := s3.heap.push { cls := .type "slice", data := .fields #[vl, vu, .none] } } := I3.kept (t' := s3.toks) fun b ob q => Heap.get?_push_of_some _ q
  obtain ⟨T, id, hT, ht, hg⟩ := hr pins { s3 with heap := s3.heap.push { cls := .type "slice", data := .fields #[vl, vu, .none] } } σ H3 x v vl vu l u s3.heap.objs.size Q I4 r1 (Heap.IsSliceOf.new ..) pl pu q3
  show wpAny (model X.prog X.w) X.A (subscriptTail e (.Slice lo hi none p2) v (.ref s3.heap.objs.size)) (EP X pins σ Q) X.xe { s3 with heap := s3.heap.push { cls := .type "slice", data := .fields #[vl, vu, .none] } }
  exact tail_any (ops := [.ref s3.heap.objs.size, v]) ht hT hg (by with_unfolding_all rfl)

def cutV (xs : List V) (lo hi : Option Int) : List V := (xs.drop (HT.sIx xs.length 0 lo)).take (HT.sIx xs.length xs.length hi - HT.sIx xs.length 0 lo)
theorem cutV_length (xs : List V) (lo hi : Option Int) : (cutV xs lo hi).length ≤ xs.length := by
  unfold cutV
  rw [List.length_take, List.length_drop]
  omega

end
end L2

namespace L2
open PySem PySem.Spec PyProof.Rows

def ixN (n : Nat) (i : Int) : Option Nat := if 0 ≤ i then (if i < n then some i.toNat else none) else if -(n : Int) ≤ i then some (i + n).toNat else none
def atI {α : Type} (xs : List α) (i : Int) : Option α := (ixN xs.length i).bind fun j => xs[j]?
theorem ixN_seq {n : Nat} {i : Int} {j : Nat} (h : ixN n i = some j) : seqIndex? i n = some j ∧ j < n ∧ -(n : Int) ≤ i ∧ i < n := by
  unfold ixN at h
  by_cases h0 : 0 ≤ i
  · rw [if_pos h0] at h
    by_cases h1 : i < n
    · rw [if_pos h1] at h
      have e : i.toNat = j := Option.some.inj h
      exact ⟨by rw [seqIndex_of h0 h1, e], by omega, by omega, h1⟩
    · rw [if_neg h1] at h; cases h
  · rw [if_neg h0] at h
    by_cases h1 : -(n : Int) ≤ i
    · rw [if_pos h1] at h
      have e : (i + n).toNat = j := Option.some.inj h
      exact ⟨by rw [seqIndex_neg (by omega) h1, e], by omega, h1, by omega⟩
    · rw [if_neg h1] at h; cases h
theorem atI_get {α : Type} {xs : List α} {i : Int} {v : α} (h : atI xs i = some v) : ∃ j, seqIndex? i xs.length = some j ∧ xs[j]? = some v ∧ j < xs.length ∧ -(xs.length : Int) ≤ i ∧ i < xs.length := by
  unfold atI at h
  cases e : ixN xs.length i with
  | none => rw [e] at h; cases h
  | some j =>
    rw [e] at h
    obtain ⟨h1, h2, h3, h4⟩ := ixN_seq e
    exact ⟨j, h1, h, h2, h3, h4⟩
theorem atI_nat {α : Type} {xs : List α} {j : Nat} {v : α} (h : xs[j]? = some v) : atI xs (j : Int) = some v := by
  have hj : j < xs.length := (List.getElem?_eq_some_iff.mp h).1
  have e : ixN xs.length (j : Int) = some j := by
    unfold ixN
    rw [if_pos (by omega), if_pos (by omega)]; simp
  unfold atI; rw [e]; exact h

def PlainIx (b : Expr) : Prop := ∀ o i, subscripted b false o i = operate [o, i] (getItem o i)
def IxR (X : Cx) (r : R2) : Prop :=
  ∀ (value slice : Expr) (pins : List (Addr × Obj)) (s : Shared) (σ : St) (H : Hp) (x y : V) (v u : Value) (Q : VK), Inv X pins σ H s → RelV x v → RelV y u → r x y H Q →
    subscripted slice false v u = operate [v, u] (getItem v u) → wpAny (model X.prog X.w) X.A (subscriptTail value slice v u) (EP X pins σ Q) X.xe s
def MtR (X : Cx) (id : String) (r : V → List V → Hp → VK → Prop) : Prop :=
  ∀ (pins : List (Addr × Obj)) (s : Shared) (σ : St) (H : Hp) (x : V) (xs : List V) (v : Value) (us : List Value) (Q : VK), Inv X pins σ H s → RelV x v → Vals xs us → r x xs H Q →
    wpAny (model X.prog X.w) X.A (call (.builtin id) (v :: us)) (EP X pins σ Q) X.xe s
section
variable {X : Cx} {a b : Expr} {ta tb : TE} {pos : Pos}
theorem IxR.or {r r' : R2} (h : IxR X r) (h' : IxR X r') : IxR X (fun x y H Q => r x y H Q ∨ r' x y H Q) := by
  intro value slice pins s σ H x y v u Q I rx ry q hs
  rcases q with q | q
  · exact h value slice pins s σ H x y v u Q I rx ry q hs
  · exact h' value slice pins s σ H x y v u Q I rx ry q hs
theorem pe_ix {r : R2} (hr : IxR X r) (ha : PE X a ta) (hb : PE X b tb) (hs : PlainIx b) : PE X (.Subscript a b pos) (tOp r ta tb) := by
  intro pins s σ H Q I h
  exact Subscript_ (binT ha hb I h fun v u s2 x y H2 I2 rx ry q => hr a b pins s2 σ H2 x y v u Q I2 rx ry q (hs _ _))

def rIxL (K : PySem.W.Frag) : R2 := fun x y H Q => ∃ p xs i v, x = .ref p ∧ y = .int i ∧ SqL K H p xs ∧ atI xs i = some v ∧ Q v H
def rIxT (K : PySem.W.Frag) : R2 := fun x y H Q => ∃ p xs i v, x = .ref p ∧ y = .int i ∧ SqT K H p xs ∧ atI xs i = some v ∧ Q v H
def rIxS : R2 := fun x y H Q => ∃ z i c, x = .str z ∧ y = .int i ∧ z.length ≤ sizeLine ∧ atI z.cps.toList i = some c ∧ Q (.str ⟨#[c]⟩) H
theorem ix_list : IxR X (rIxL X.K) := by
  intro value slice pins s σ H x y v u Q I rx ry h hs
  obtain ⟨p, xs, i, z, rfl, rfl, hq, he, q⟩ := h
  cases rx
  obtain ⟨t, rfl⟩ := ry
  obtain ⟨its, r, pl, hz⟩ := I.list hq
  obtain ⟨j, h1, h2, h3, h4, h5⟩ := atI_get he
  obtain ⟨w, ew, rw'⟩ := r.get h2
  have hl := r.length
  have hn := line63
  have fin : EP X pins σ Q w s := ⟨z, H, I, rw', q⟩
  by_cases h0 : 0 ≤ i
  · have hj : i.toNat = j := by
      rw [seqIndex_of h0 h5] at h1
      exact Option.some.inj h1
    exact item_listR pl.isList h0 (by omega) (by rw [hj]; simpa using ew) fin hs
  · have hj : (i + (its.toArray.size : Int)).toNat = j := by
      rw [seqIndex_neg (by omega) h4] at h1
      rw [List.size_toArray, ← hl]
      exact Option.some.inj h1
    exact subscriptTail_builtinR (x := w) pl.isList.typeIs slot_list_getitem.lookup
      (wpAny_getItem_list_neg (Q := fun r s' => r = w ∧ EP X pins σ Q r s') pl.isList (by omega) (by rw [List.size_toArray] <;> omega) (by omega) (by rw [hj]; simpa using ew) ⟨rfl, fin⟩) hs
theorem ix_tup : IxR X (rIxT X.K) := by
  intro value slice pins s σ H x y v u Q I rx ry h hs
  obtain ⟨p, xs, i, z, rfl, rfl, hq, he, q⟩ := h
  cases rx
  obtain ⟨t, rfl⟩ := ry
  obtain ⟨its, r, pl, hz⟩ := I.tuple hq
  obtain ⟨j, h1, h2, h3, h4, h5⟩ := atI_get he
  obtain ⟨w, ew, rw'⟩ := r.get h2
  have hl := r.length
  have hn := line63
  have fin : EP X pins σ Q w s := ⟨z, H, I, rw', q⟩
  exact subscriptTail_builtinR (x := w) pl.typeIs slot_tuple_getitem.lookup
    (getItem_tuple (j := j) (Q := fun r s' => r = w ∧ EP X pins σ Q r s') pl (by omega) (by omega) (by rw [List.size_toArray, ← hl]; exact h1) (by simpa using ew) ⟨rfl, fin⟩) hs
theorem ix_str : IxR X rIxS := by
  intro value slice pins s σ H x y v u Q I rx ry h hs
  obtain ⟨z, i, c, rfl, rfl, hz, he, q⟩ := h
  obtain ⟨t, rfl⟩ := rx
  obtain ⟨t', rfl⟩ := ry
  obtain ⟨j, h1, h2, h3, h4, h5⟩ := atI_get he
  have hl : z.cps.toList.length = z.length := by simp [Str.length]
  rw [hl] at h1 h4 h5
  have hn := line63
  exact tail_any (typeIs_str s z t) slot_str_getitem.lookup (getItem_str (c := c) (by
    have e1 : decide (i < -(2 ^ 63 : Int)) = false := decide_eq_false (by omega)
    have e2 : decide (i ≥ 2 ^ 63) = false := decide_eq_false (by omega)
    rw [e1, e2, Bool.or_false]) (by rw [h1]; simpa using h2) ⟨.str ⟨#[c]⟩, H, I.tok _, ⟨_, rfl⟩, q⟩) hs
def rIx (K : PySem.W.Frag) : R2 := fun x y H Q => rIxL K x y H Q ∨ rIxT K x y H Q ∨ rIxS x y H Q
theorem ix_seq : IxR X (rIx X.K) := ix_list.or (ix_tup.or ix_str)

theorem mapSeq_set (its : List Value) (n j : Nat) (u : Value) : Obj.mapSeq (·.setIfInBounds j u) { cls := .type "list", data := .seq its.toArray n } = { cls := .type "list", data := .seq (its.set j u).toArray n } := by
  simp [Obj.mapSeq]
theorem Inv.lst {pins : List (Addr × Obj)} {σ : St} {H : Hp} {s : Shared} {p : Addr} {xs : List V} (I : Inv X pins σ H s) (h : H p = some (.lst xs)) :
    ∃ (its : List Value) (n : Nat), Vals xs its ∧ s.heap.get? p = some { cls := .type "list", data := .seq its.toArray n } ∧ xs.length ≤ sizeLine := by
  obtain ⟨z, its, n, r, e⟩ := I.hok p _ h
  exact ⟨its, n, r, e, z⟩
theorem Inv.lstUpd {pins : List (Addr × Obj)} {σ : St} {H : Hp} {s : Shared} {p : Addr} {xs ys : List V} {its its' : List Value} {n n' : Nat} {f : Obj → Obj} (I : Inv X pins σ H s) (h : H p = some (.lst xs))
    (ho : s.heap.get? p = some { cls := .type "list", data := .seq its.toArray n }) (hf : f { cls := .type "list", data := .seq its.toArray n } = { cls := .type "list", data := .seq its'.toArray n' }) (r : Vals ys its') (hz : ys.length ≤ sizeLine) (t : Nat) :
    Inv X pins σ (upd H p (.lst ys)) { s with heap := s.heap.update p f, toks := t } := by
  have e : (s.heap.update p f).get? p = some { cls := .type "list", data := .seq its'.toArray n' } := by
    rw [Heap.get?_update_self f ho (by rw [hf] <;> rfl), hf]
  refine I.write (x := p) (e := p) (by rw [h]; trivial) (.inl rfl) (fun b u hb q => (Heap.get?_update_other _ _ (Ne.symm hb)).trans q) ⟨_, e⟩ ?_
  exact ⟨hz, its', n', r, e⟩
def rSetL : V → V → V → Hp → (Hp → Prop) → Prop := fun o i v H Q => ∃ p xs k j, o = .ref p ∧ i = .int k ∧ H p = some (.lst xs) ∧ ixN xs.length k = some j ∧ Q (upd H p (.lst (xs.set j v)))
theorem set_list : PSet X rSetL := by
  intro pins s σ H o i v ov iv u Q I ro ri rv h
  obtain ⟨p, xs, k, j, rfl, rfl, hp, hj, q⟩ := h
  cases ro
  obtain ⟨t, rfl⟩ := ri
  obtain ⟨its, n, r, ho, hz⟩ := I.lst hp
  obtain ⟨h1, h2, h3, h4⟩ := ixN_seq hj
  have hl := r.length
  have hn := line63
  have I' : Inv X pins σ (upd H p (.lst (xs.set j v))) { s with heap := s.heap.update p (Obj.mapSeq (·.setIfInBounds j u)) } :=
    I.lstUpd hp ho (mapSeq_set its n j u) (r.set rv j) (by rw [List.length_set]; exact hz) s.toks
  by_cases h0 : 0 ≤ k
  · have hk : k.toNat = j := by
      rw [seqIndex_of h0 h4] at h1
      exact Option.some.inj h1
    exact PySem.W.ki_setAt ho h0 (by omega) (by rw [List.size_toArray, ← hl]; exact h4) (by rw [hk]; exact ⟨_, I', q⟩)
  · have hk : (k + (its.toArray.size : Int)).toNat = j := by
      rw [seqIndex_neg (by omega) h3] at h1
      rw [List.size_toArray, ← hl]
      exact Option.some.inj h1
    exact PySem.W.ki_setBack ho (by omega) (by rw [List.size_toArray, ← hl]; exact h3) (by omega) (by rw [hk]; exact ⟨_, I', q⟩)

theorem slice_bounds (lo hi : Option Int) (n : Nat) : (sliceBounds lo hi none n).1 = ((HT.sIx n 0 lo : Nat) : Int) ∧ (sliceBounds lo hi none n).2.1 = ((HT.sIx n n hi : Nat) : Int) ∧ (sliceBounds lo hi none n).2.2 = 1 := by
  refine ⟨?_, ?_, rfl⟩
  · cases lo with
    | none => simp [sliceBounds, HT.sIx]
    | some i =>
      simp only [sliceBounds, HT.sIx, Option.getD_none, show (1 : Int) > 0 by decide, if_true]
      by_cases h : i < 0
      · simp only [h, if_true] <;> omega
      · simp only [h, if_false] <;> omega
  · cases hi with
    | none => simp [sliceBounds, HT.sIx]
    | some i =>
      simp only [sliceBounds, HT.sIx, Option.getD_none, show (1 : Int) > 0 by decide, if_true]
      by_cases h : i < 0
      · simp only [h, if_true] <;> omega
      · simp only [h, if_false] <;> omega
theorem slicePick_cut (its : List Value) (lo hi : Option Int) : slicePick its.toArray lo hi none = ((its.drop (HT.sIx its.length 0 lo)).take (HT.sIx its.length its.length hi - HT.sIx its.length 0 lo)).toArray := by
  obtain ⟨h1, h2, h3⟩ := slice_bounds lo hi its.toArray.size
  unfold slicePick
  rw [h1, h2, h3]
  simp only [sliceRange_one, pick_run, List.size_toArray] <;> rfl
def rSlL (K : PySem.W.Frag) : V → Option Int → Option Int → Hp → VK → Prop := fun x lo hi H Q => ∃ a xs, x = .ref a ∧ SqL K H a xs ∧ ∀ p, H p = none → Q (.ref p) (upd H p (.lst (cutV xs lo hi)))
theorem sl_list : SlR X (rSlL X.K) := by
  intro pins s σ H x v vl vu lo hi sl Q I rx hs pl pu h
  obtain ⟨a, xs, rfl, hx, q⟩ := h
  cases rx
  obtain ⟨its, r, ht, hz⟩ := I.list hx
  have hlen := r.length
  refine ⟨"list", _, slot_list_getitem.lookup, ht.isList.typeIs, ?_⟩
  refine wpAny_getItem_list_slice ht.isList hs pl pu .none (by simp) ?_ (by rw [List.size_toArray] <;> omega)
  rw [slicePick_cut, ← hlen]
  refine ⟨.ref s.heap.objs.size, _, I.laid (t' := s.toks) (o := .lst (cutV xs lo hi)) (fun b ob q => Heap.get?_push_of_some _ q) (Nat.le_refl _) ?_, rfl, q _ (I.hok.fresh (Nat.le_refl _))⟩
  exact ⟨Nat.le_trans (cutV_length xs lo hi) hz, _, 0, (r.drop (HT.sIx xs.length 0 lo)).take (HT.sIx xs.length xs.length hi - HT.sIx xs.length 0 lo), Heap.get?_push_size _ rfl⟩


theorem call_len_seq : CallR X (.builtin "len") (fun xs H Q => ∃ p ys, xs = [.ref p] ∧ (SqL X.K H p ys ∨ SqT X.K H p ys) ∧ Q (.int ys.length) H) := by
  intro pins s σ H xs us Q I r h
  obtain ⟨p, ys, rfl, hq, q⟩ := h
  obtain ⟨u, rfl, rx⟩ := vals1 r
  cases rx
  have hn := line63
  rcases hq with hq | hq
  · obtain ⟨its, r', pl, hz⟩ := I.list hq
    have hlen := r'.length
    exact Calls.call_len_list pl.isList (by simp only [List.size_toArray] <;> omega) ⟨.int ys.length, H, I.tok _, ⟨s.toks + 1, by rw [List.size_toArray, hlen]⟩, q⟩
  · obtain ⟨its, r', pl, hz⟩ := I.tuple hq
    have hlen := r'.length
    exact len_tuple pl (by simp only [List.size_toArray] <;> omega) ⟨.int ys.length, H, I.tok _, ⟨s.toks + 1, by rw [List.size_toArray, hlen]⟩, q⟩
theorem call_len_str : CallR X (.builtin "len") (fun xs H Q => ∃ z, xs = [.str z] ∧ z.length ≤ sizeLine ∧ Q (.int z.length) H) := by
  intro pins s σ H xs us Q I r h
  obtain ⟨z, rfl, hz, q⟩ := h
  obtain ⟨u, rfl, t, rfl⟩ := vals1 r
  have hn := line63
  exact len_str (by omega) ⟨.int z.length, H, I.tok _, ⟨_, rfl⟩, q⟩
theorem CallR.or {f : Value} {r r' : List V → Hp → VK → Prop} (h : CallR X f r) (h' : CallR X f r') : CallR X f (fun xs H Q => r xs H Q ∨ r' xs H Q) := by
  intro pins s σ H xs us Q I rs q
  rcases q with q | q
  · exact h pins s σ H xs us Q I rs q
  · exact h' pins s σ H xs us Q I rs q
theorem call_list_of : CallR X (.type "list") (fun xs H Q => ∃ p ys, xs = [.ref p] ∧ (SqL X.K H p ys ∨ SqT X.K H p ys) ∧ ∀ l, H l = none → Q (.ref l) (upd H l (.lst ys))) := by
  intro pins s σ H xs us Q I r h
  obtain ⟨p, ys, rfl, hq, q⟩ := h
  obtain ⟨u, rfl, rx⟩ := vals1 r
  cases rx
  have fin : ∀ (its : List Value), Vals ys its → ys.length ≤ sizeLine → ∀ (h' : Heap) (c' : Nat), (∀ b o', s.heap.get? b = some o' → h'.get? b = some o') →
      h'.get? s.heap.objs.size = some { cls := .type "list", dict := none, data := .seq its.toArray c', slots := #[] } → EP X pins σ Q (.ref s.heap.objs.size) { s with heap := h' } := fun its r' hz h' c' kp e =>
    ⟨.ref s.heap.objs.size, _, I.laid (t' := s.toks) kp (Nat.le_refl _) (show ObjOk X.prog X.w _ h' _ (.lst ys) from ⟨hz, its, c', r', e⟩), rfl, q _ (I.hok.fresh (Nat.le_refl _))⟩
  rcases hq with hq | hq
  · obtain ⟨its, r', pl, hz⟩ := I.list hq
    have hlen := r'.length
    obtain ⟨o, ho, hc, n, hd⟩ := pl.isList
    exact call_list_seq p (.inl rfl) ho hc hd (fun h' c' kp e => fin its r' hz h' c' kp e) (by simp only [List.size_toArray] <;> omega)
  · obtain ⟨its, r', pl, hz⟩ := I.tuple hq
    have hlen := r'.length
    obtain ⟨o, ho, hc, n, hd⟩ := pl
    exact call_list_seq p (.inr rfl) ho hc hd (fun h' c' kp e => fin its r' hz h' c' kp e) (by simp only [List.size_toArray] <;> omega)

def tyV (K : PySem.W.Frag) (T : String) (x : V) (H : Hp) : Prop := match x with
  | .str _ => T = "str"
  | .int _ => T = "int"
  | .ref p => (T = "list" ∧ ∃ xs, SqL K H p xs) ∨ (T = "tuple" ∧ ∃ o, K.lookup p = some o ∧ o.cls = .type "tuple" ∧ o.dict = none) ∨
      (T = "dict" ∧ ((∃ kvs, H p = some (.dK kvs)) ∨ ∃ kvs, H p = some (.dT kvs))) ∨ (T = "set" ∧ ∃ S n, H p = some (.set S n))
  | _ => False
theorem tyV_is {pins : List (Addr × Obj)} {σ : St} {H : Hp} {s : Shared} {T : String} {x : V} {v : Value} (I : Inv X pins σ H s) (r : RelV x v) (ty : tyV X.K T x H) :
    s.TypeIs v T ∧ ∀ a, v = .ref a → ∃ ob, s.heap.get? a = some ob ∧ ob.dict = none := by
  cases x with
  | str z =>
    obtain ⟨t, rfl⟩ := r
    cases (show T = "str" from ty)
    exact ⟨typeIs_str s z t, fun _ e => nomatch e⟩
  | int i =>
    obtain ⟨t, rfl⟩ := r
    cases (show T = "int" from ty)
    exact ⟨typeIs_int s i t, fun _ e => nomatch e⟩
  | ref p =>
    cases r
    rcases ty with ⟨rfl, xs, hq⟩ | ⟨rfl, o, hk, hc, hd⟩ | ⟨rfl, hk⟩ | ⟨rfl, S, n, hk⟩
    · obtain ⟨its, _, pl, _⟩ := I.list hq
      refine ⟨pl.isList.typeIs, fun a e => ?_⟩
      cases e
      obtain ⟨o, n, e, c, hd, _⟩ := pl
      exact ⟨o, e, hd⟩
    · refine ⟨⟨o, I.kIn p o hk, hc⟩, fun a e => ?_⟩
      cases e
      exact ⟨o, I.kIn _ o hk, hd⟩
    · have z : ∃ o, s.heap.get? p = some o ∧ o.ExactDict := by
        rcases hk with ⟨kvs, hk⟩ | ⟨kvs, hk⟩
        · obtain ⟨_, _, _, _, o, _, _, e, ex, _⟩ := I.hok p _ hk
          exact ⟨o, e, ex⟩
        · obtain ⟨_, _, _, _, o, _, _, e, ex, _⟩ := I.hok p _ hk
          exact ⟨o, e, ex⟩
      obtain ⟨o, e, ex⟩ := z
      refine ⟨⟨o, e, ex.1⟩, fun a e2 => ?_⟩
      cases e2
      exact ⟨o, e, ex.2.1⟩
    · obtain ⟨o, _, _, _, e, ex, _⟩ := I.hok p _ hk
      refine ⟨⟨o, e, ex.1⟩, fun a e2 => ?_⟩
      cases e2
      exact ⟨o, e, ex.2.1⟩
  | _ => exact False.elim ty
def tBM (K : PySem.W.Frag) (T : String) (r : V → List V → Hp → VK → Prop) (to : TE) (t : TA) : TE := fun σ H Q => to σ H fun x H1 => tyV K T x H1 ∧ t σ H1 fun xs H2 => r x xs H2 Q
variable {o e : Expr} {es : List Expr} {to : TE} {t : TA} {name : Str} {apos cpos : Pos} {T id : String} {r : V → List V → Hp → VK → Prop}
theorem pe_bm (pa : PlainAttrs T) (slot : Slot T name id) (hty : typeOf (.builtin id) = pure (.type "method_descriptor")) (hm : MtR X id r) (ho : PE X o to) (ha : PA X (e :: es) t)
    (hbase : attributeBase o name X.env (eval o X.env) = eval o X.env := by rfl)
    (hfew : ((backTo cpos (starEach (e :: es) X.env)).all (fun x => !x.1) && (backToKw cpos (keywordEach [] X.env)).all (fun x => x.1.isSome)
      && decide ((e :: es).length + ([] : List Keyword).length + (if ([] : List Keyword).isEmpty then 0 else 1) < 30)) = true := by rfl)
    (hline : (apos.endLine == cpos.line) = true := by rfl) (hs : starEach (e :: es) X.env = (false, eval e X.env) :: starEach es X.env := by rfl) (hplain : (backTo cpos (starEach es X.env)).any (·.1) = false := by rfl) :
    PE X (.Call (.Attribute o name apos) (e :: es) [] cpos) (tBM X.K T r to t) := by
  intro pins s σ H Q I h
  refine wpAny_Call_method_late hbase hfew hline rfl (thn (ho pins s σ H _ I h) fun v s1 ⟨x, H1, I1, r1, ty, q1⟩ => ?_)
  obtain ⟨h1, h2⟩ := tyV_is I1 r1 ty
  refine ⟨T, id, pa, slot, hty, h1, h2, ?_⟩
  have hA := ha cpos pins s1 σ H1 _ I1 q1
  rw [hs] at hA ⊢
  refine Calls.callWith_builtin (by show (false || (backTo cpos (starEach es X.env)).any (·.1)) = false; rw [hplain] <;> rfl) (Calls.evalArgs_plain ?_)
  exact thn hA fun us s2 ⟨vs, H2, I2, r2, q2⟩ => hm pins s2 σ H2 x vs v us Q I2 r1 r2 q2
/- xs.append(e), list.index on a module's tuple .. are MtR facts of 06m -/
end
end L2

namespace L2
open PySem PySem.Spec PyProof.Rows

def MtM (X : Cx) (id : String) (r : V → List V → Hp → VK → Prop) : Prop :=
  ∀ (pins : List (Addr × Obj)) (s : Shared) (σ : St) (H : Hp) (x : V) (xs : List V) (v : Value) (us : List Value) (Q : VK), Inv X pins σ H s → RelV x v → Vals xs us → r x xs H Q →
    wpAny (model X.prog X.w) X.A (call (.builtin id) (v :: us)) (EP X pins σ Q) X.xe s

theorem Vals.one : ∀ {x : V} {us : List Value}, Vals [x] us → ∃ u, us = [u] ∧ RelV x u
  | _, _, .cons r .nil => ⟨_, rfl, r⟩
theorem Vals.zero : ∀ {us : List Value}, Vals [] us → us = []
  | _, .nil => rfl
theorem Vals.eraseIdx : ∀ {xs : List V} {us : List Value} (i : Nat), Vals xs us → Vals (xs.eraseIdx i) (us.eraseIdx i)
  | _, _, _, .nil => .nil
  | _, _, 0, .cons _ t => t
  | _, _, i + 1, .cons r t => .cons r (Vals.eraseIdx i t)

section
variable {X : Cx} {pins : List (Addr × Obj)} {σ : St} {H : Hp} {s : Shared} {l b : Addr} {xs ys zs : List V}

theorem Inv.lset {its its' : List Value} {n : Nat} {f : Array Value → Array Value} {t' : Nat} (I : Inv X pins σ H s) (hH : H l = some (.lst xs))
    (e : s.heap.get? l = some { cls := .type "list", data := .seq its.toArray n }) (hf : f its.toArray = its'.toArray) (hv : Vals ys its') (hz : ys.length ≤ sizeLine) :
    Inv X pins σ (upd H l (.lst ys)) { s with heap := s.heap.update l (Obj.mapSeq f), toks := t' } := by
  have q := PySem.IsL.update e f
  rw [hf] at q
  refine I.write (x := l) (e := l) (by rw [hH]; exact trivial) (.inl rfl) (fun b' u hb hu => (Heap.get?_update_other s.heap (Obj.mapSeq f) (Ne.symm hb)).trans hu) ⟨_, q⟩ ?_
  exact ⟨hz, its', _, hv, q⟩
theorem Inv.lnew {its : List Value} {t' : Nat} (I : Inv X pins σ H s) (hv : Vals ys its) (hz : ys.length ≤ sizeLine) :
    Inv X pins σ (upd H s.heap.objs.size (.lst ys)) { s with heap := s.heap.push { cls := .type "list", data := .seq its.toArray }, toks := t' } :=
  I.laid (fun _ _ q => Heap.get?_push_of_some _ q) (Nat.le_refl _) ⟨hz, its, 0, hv, Heap.get?_push_size _ rfl⟩
theorem Inv.fresh (I : Inv X pins σ H s) : H s.heap.objs.size = none := I.hok.fresh (Nat.le_refl _)
theorem Inv.lstM (I : Inv X pins σ H s) (hH : H l = some (.lst xs)) : xs.length ≤ sizeLine ∧ ∃ (its : List Value) (n : Nat), Vals xs its ∧ xs.length = its.length ∧ s.heap.get? l = some { cls := .type "list", data := .seq its.toArray n } := by
  obtain ⟨z, its, n, r, e⟩ := I.hok l _ hH
  exact ⟨z, its, n, r, r.length, e⟩

theorem notLongL {n : Nat} (h : n ≤ sizeLine) : Builtin.List.listTooLong n = false := by
  unfold Builtin.List.listTooLong
  exact decide_eq_false (by omega)
end

section
variable {X : Cx}

def rAppend : V → List V → Hp → VK → Prop := fun x vs H Q => ∃ l xs y, x = .ref l ∧ vs = [y] ∧ H l = some (.lst xs) ∧ xs.length < sizeLine ∧ Q .non (upd H l (.lst (xs ++ [y])))
theorem mt_append : MtM X "list.append" rAppend := by
  intro pins s σ H x vs v us Q I rx rv h
  obtain ⟨l, xs, y, rfl, rfl, hH, hz, q⟩ := h
  cases rx
  obtain ⟨u, rfl, ru⟩ := rv.one
  obtain ⟨z, its, n, r, hl, e⟩ := I.lstM hH
  refine call_meets F.slot_list_append ⟨_, e, rfl⟩ F.entry_list_append (F.args_list_append_2 _ _) (PySem.list_append l its.toArray n u (by rw [List.size_toArray]; omega)) ⟨e, ?_⟩
  refine ⟨.non, _, I.lset (its' := its ++ [u]) hH e (by simp) (r.append (.cons ru .nil)) ?_, rfl, q⟩
  rw [List.length_append, List.length_singleton]
  omega

def rExtend : V → List V → Hp → VK → Prop := fun x vs H Q => ∃ l b xs zs, x = .ref l ∧ vs = [.ref b] ∧ H l = some (.lst xs) ∧ H b = some (.lst zs) ∧ xs.length + zs.length ≤ sizeLine ∧ Q .non (upd H l (.lst (xs ++ zs)))
theorem mt_extend : MtM X "list.extend" rExtend := by
  intro pins s σ H x vs v us Q I rx rv h
  obtain ⟨l, b, xs, zs, rfl, rfl, hH, hB, hz, q⟩ := h
  cases rx
  obtain ⟨u, rfl, ru⟩ := rv.one
  cases ru
  obtain ⟨z, its, n, r, hl, e⟩ := I.lstM hH
  obtain ⟨z2, its2, n2, r2, hl2, e2⟩ := I.lstM hB
  have hsz : its.toArray.size + its2.toArray.size ≤ sizeLine := by rw [List.size_toArray, List.size_toArray]; omega
  have hlong : ¬ (!its.toArray.isEmpty && Builtin.List.listTooLong (its.toArray.size + its2.toArray.size)) = true := by
    rw [notLongL hsz, Bool.and_false]
    exact Bool.false_ne_true
  refine call_meets F.slot_list_extend ⟨_, e, rfl⟩ F.entry_list_extend (F.args_list_extend_2 _ _)
    (AutoSeq1.list_extend_list_list_0 l its.toArray n b its2.toArray n2 hlong (by rw [List.size_toArray]; omega) (by omega)) ⟨e, e2, ?_⟩
  refine ⟨.non, _, I.lset (its' := its ++ its2) hH e (by simp) (r.append r2) ?_, rfl, q⟩
  rw [List.length_append]
  omega






end

section
variable {prog : Program} {w : World} {A : Around} {E : Value → Shared → Prop} {s : Shared}
end

section
variable {X : Cx}
end
end L2

namespace Att
open PySem PySem.W PySem.Calls PyProof.Rows

theorem ints_of_wellAll {P : Params} {h : Heap} : ∀ (ns : List Int) (vs : List Value), WellAll P h vs (ns.map WData.int) → IntsAre vs ns := by
  intro ns
  induction ns with
  | nil =>
    intro vs w
    rw [List.map_nil] at w
    cases w
    exact .nil
  | cons n ns ih =>
    intro vs w
    rw [List.map_cons] at w
    cases w with
    | cons a b =>
      cases a
      exact .cons _ _ (ih _ b)

theorem script_of {l : OpenLaw} {n : Nat} (hn : l.most = some n) {P : Params} {h : Heap} {args : List WData} {vals : List Value}
    (hpre : l.row.toRowW.claim.pre args = true) (hwl : WellAll P h vals args) :
    ∃ a vs ns, vals = [Value.ref a] ∧ args = [WData.list (ns.map WData.int)] ∧ h.get? a = some { cls := .type "list", data := .seq vs.toArray } ∧ IntsAre vs ns ∧ ns.length ≤ n := by
  have hsh : WShape.hasAll [] args [.list .int] = true := (pre_splitW hpre).1
  have hc : l.pre.holds [] { args := args } = true := (pre_splitW hpre).2
  obtain ⟨d, r, rfl, h1, h2⟩ := hasAllW_cons hsh
  obtain rfl := hasAllW_nil h2
  obtain ⟨xs, rfl, h3⟩ := hasW_list h1
  obtain ⟨ns, rfl⟩ := items_int h3
  have hlen : ns.length ≤ n := by
    unfold OpenLaw.pre at hc
    have h4 : (WTm.not (.lt (.lit (.int (n : Int))) (.len (.arg 0)))).holds [] { args := [.list (ns.map .int)] } = true := by
      have h4 := (holds_andW hc).1
      rw [hn] at h4
      exact h4
    have h5 := condW_of h4 (w_not (w_lt w_lit (w_len_list (w_arg rfl))))
    rw [List.length_map] at h5
    refine Nat.le_of_not_lt fun q => ?_
    have q' : (n : Int) < ((ns.length : Nat) : Int) := by omega
    first
      | (rw [decide_eq_true q'] at h5; exact absurd h5 (by decide))
      | (simp at h5; omega)
  cases hwl with
  | cons w1 w2 =>
    cases w2
    cases w1 with
    | list ho hall => exact ⟨_, _, ns, rfl, rfl, ho, ints_of_wellAll ns _ hall, hlen⟩

theorem post_true (l : OpenLaw) (args : List WData) : l.row.toRowW.claim.post args (.bool true) args = true :=
  postW_of (r := l.row.toRowW) (X := (true == true))
    (show WShape.has [] (.bool true) .bool = true by first | rfl | decide | simp [WShape.has, WShape.arms, WShape.armsAll])
    (show (WTm.eq .res (.lit (.bool true))).value [] { args := args, res := some (.bool true), after := args } = some (.bool (true == true)) from w_eq_bool (w_res rfl) w_lit) rfl


theorem attach_call {l : OpenLaw} {n : Nat} {q : Program} {loose : List Str} {XP : (Str → Option Value) → Heap → Prop} {YP : World → Heap → Prop} {d : DefRec}
    (hn : l.most = some n) (hdf : d.params.defaults = [])
    (call : ∀ (w : World) (s₀ s₁ : Shared) (mg mb : Str → Option Value) (fa : Addr) (o : Obj) (pm cd doc : Value) (a : Addr) (vs : List Value) (ns : List Int),
      Ground q loose [] XP w s₀ mg mb s₁.heap → YP w s₁.heap →
      s₁.heap.get? fa = some o → o.data = .func (docDef d.name d.params d.body d.scope pm cd doc) → s₁.heap.CodeRec cd d.name → mg d.name = some (.ref fa) →
      s₁.heap.get? a = some { cls := .type "list", data := .seq vs.toArray } → IntsAre vs ns → ns.length ≤ n → s₁.gens = #[] →
      codeAny (model l.prog w) callerA (.call (.ref fa) ⟨[.ref a], []⟩) (fun r s' => r = .ok (.ret (.bool true)) ∧ OldK s₁.heap s'.heap ∧ s'.os = s₁.os ∧ AllBare s'.gens) s₁) :
    WalkO q loose XP YP l.row.toRowW d [] (fun f vs => PySem.call f vs) := by
  intro w s₀ s₁ mg mb G Y fa o pm cd doc dV kV ho hd hcd hD hmg hg args vals as hpre hlay hrd hwl hlo
  obtain rfl : dV = .none := Dflts.none hD hdf
  obtain rfl : kV = .none := Dflts.noKw hD
  obtain ⟨a, vs, ns, rfl, rfl, hobj, hints, hlen⟩ := script_of hn hpre hwl
  refine enter_call (codeAny_mono (call w s₀ s₁ mg mb fa o pm cd doc a vs ns G Y ho (fd_plain hd) hcd hmg hobj hints hlen hg) fun r s' hq => ?_)
  obtain ⟨rfl, h2, h3, h4⟩ := hq
  exact ⟨.inl ⟨.bool true, .bool true, [], rfl, fun _ => rfl, .bool true, post_true l _, fun _ => ⟨List.Pairwise.nil, fun _ hm => (nomatch hm)⟩⟩, h2, h3, h4⟩


section
variable {prog : Program} {w : World} {A : Around} {E : Value → Shared → Prop} {s : Shared} {K : Frag}






end
end Att

namespace L2
open PySem PySem.Spec PyProof.Rows

theorem vals_ints : ∀ {vs : List Value} {ns : List Int}, IntsAre vs ns → Vals (ns.map V.int) vs
  | _, _, .nil => .nil
  | _, _, .cons n t h => .cons ⟨t, rfl⟩ (vals_ints h)

def Only (H : Hp) : Prop := ∀ b, H b = none ∨ ∃ o xs, H b = some (.frz o (.lst xs))

theorem law_call {P : Program} {w : World} {K : PySem.W.Frag} {mg mb : Str → Option Value} {CX : CXT} {k : Nat} {fa a : Addr} {fd : FuncData} {x : Str} {sp : Sp} {s₁ : Shared} {vs : List Value} {ns : List Int}
    (KX : K.In s₁.heap) (hns : s₁.heap.Ns mainGlobals mg) (hb : s₁.heap.Ns builtinsNs mb) (hbb : ∀ x : Str, x ≠ "__name__" → mb x = bootBuiltins x) (hlim : s₁.heap.NoLimit) (hg : s₁.gens = #[])
    (ha : s₁.heap.get? a = some { cls := .type "list", data := .seq vs.toArray }) (hi : IntsAre vs ns) (hl : ns.length ≤ sizeLine) (hr : Room k callerA)
    (F : ∀ base : Heap, K.In base → base.Ns mainGlobals mg → FnOk P w K mg base CX k fa fd [x] sp) (hbind : ∀ (s : Shared) (u : Value), BindsTo s fd ⟨[u], []⟩ [(x, u)])
    (hsp : ∀ H : Hp, Only H → SqL K H a (ns.map V.int) → sp [.ref a] H (fun v _ => v = .bl true) fun _ _ _ => False)
    (hCX : ∀ H e s', CX [] H s₁ (fun _ _ _ => False) e s' → False) :
    codeAny (model P w) callerA (.call (.ref fa) ⟨[.ref a], []⟩) (fun r s' => r = .ok (.ret (.bool true)) ∧ OldK s₁.heap s'.heap ∧ s'.os = s₁.os ∧ AllBare s'.gens) s₁ := by
  have rv := vals_ints hi
  have lenV := hi.length
  -- from an abstract heap in which nothing but the script may be tracked
  have core : ∀ H : Hp, Only H → SqL K H a (ns.map V.int) → HOk P w H s₁.heap → (∀ b, H b ≠ none → b = a) → (H a ≠ none → K.lookup a = none) →
      codeAny (model P w) callerA (.call (.ref fa) ⟨[.ref a], []⟩) (fun r s' => r = .ok (.ret (.bool true)) ∧ OldK s₁.heap s'.heap ∧ s'.os = s₁.os ∧ AllBare s'.gens) s₁ := by
    intro H hO hS hok hA hK
    have base_of : ∀ {b : Addr} {o : Obj}, s₁.heap.get? b = some o → H b = none → (hidT s₁.heap H).get? b = some o := fun e n => hidT_get e n
    have noA : ∀ {b : Addr} {o : Obj} {es : Array DictEntry} {ep : Nat}, s₁.heap.get? b = some o → o.data = .dict es ep → H b = none := fun {b o es ep} e d => by
      cases q : H b with
      | none => rfl
      | some u =>
        have e' : b = a := hA b (by rw [q]; simp)
        subst e'
        rw [ha] at e; cases e
        have d' : Data.seq vs.toArray _ = Data.dict es ep := d
        cases d'
    have nsK : ∀ {b : Addr} {m : Str → Option Value}, s₁.heap.Ns b m → (hidT s₁.heap H).Ns b m := fun {b m} ⟨o, es, ep, e, d, r⟩ => ⟨o, es, ep, base_of e (noA e d), d, r⟩
    have hKb : K.In (hidT s₁.heap H) := fun b o e => base_of (KX b o e) (by
      cases q : H b with
      | none => rfl
      | some u =>
        have e' : b = a := hA b (by rw [q]; simp)
        subst e'
        rw [hK (by rw [q]; simp)] at e; cases e)
    have hM : Mod K mg (hidT s₁.heap H) := ⟨hKb, nsK hns, ⟨mb, nsK hb, hbb⟩, let ⟨mc, h1, h2⟩ := hlim; ⟨mc, nsK h1, h2⟩⟩
    have e0 : Env0 P w K mg (hidT s₁.heap H) callerA [] s₁ H := ⟨rfl, hM, fun b o e => of_hidT e, Nat.le_of_eq (hidT_size _ _), trivial, fun b hb => absurd (show b ∈ ([] : List Addr) from hb) (by simp), hok, .of_eq hg⟩
    refine codeAny_mono ((F _ hKb (nsK hns)).run callerA [] s₁ H ⟨[.ref a], []⟩ [.ref a] [.ref a] _ _ hr e0 (hbind s₁ (.ref a)) (.cons rfl .nil) (hsp H hO hS)) fun r s' h => ?_
    cases r with
    | error e => exact (hCX H e s' h).elim
    | ok fl =>
      cases fl with
      | next => exact False.elim h
      | brk => exact False.elim h
      | cont => exact False.elim h
      | ret u =>
        obtain ⟨v, H', os, bare, un, hok', r', q⟩ := h
        have q' : v = .bl true := q
        subst q'
        obtain rfl : u = Value.bool true := r'
        refine ⟨rfl, OldK.of_keep fun b o e => ?_, os, bare⟩
        cases q : H b with
        | none => exact un.keep b o e q (by intro z; exact absurd (show b ∈ ([] : List Addr) from z) (by simp)) (by simp)
        | some u =>
          rcases hO b with z | ⟨ob, xs, z⟩
          · rw [q] at z; cases z
          · have z2 := un.frzs b ob _ z
            obtain ⟨e1, _⟩ := hok b _ z
            obtain ⟨e2, _⟩ := hok' b _ z2
            rw [e] at e1; cases e1
            exact e2
  cases hk : K.lookup a with
  | some o =>
    -- the script is one of the module's own objects
    have e := KX a o hk
    rw [ha] at e
    cases e
    refine core (fun _ => none) (fun _ => .inl rfl) (.inr ⟨_, vs.toArray, _, hk, rfl, rfl, rfl, by rw [List.size_toArray, lenV]; exact hl, by simpa using rv⟩) (fun b u z => by have z' : (none : Option HO) = some u := z; cases z') (fun b z => absurd rfl z) fun z => absurd rfl z
  | none =>
    refine core (fun b => if b = a then some (.frz { cls := .type "list", data := .seq vs.toArray } (.lst (ns.map V.int))) else none) (fun b => ?_) (.inl (.inr ⟨{ cls := .type "list", data := .seq vs.toArray }, if_pos rfl⟩)) (fun b u z => ?_) (fun b z => ?_) fun _ => hk
    · by_cases hb : b = a
      · exact .inr ⟨_, _, if_pos hb⟩
      · exact .inl (if_neg hb)
    · by_cases hb : b = a
      · have z' := (if_pos hb).symm.trans z
        cases z'
        subst hb
        exact ⟨ha, by rw [List.length_map]; exact hl, vs, _, rv, ha⟩
      · have z' := (if_neg hb).symm.trans z
        cases z'
    · by_cases hb : b = a
      · exact hb
      · exact absurd (if_neg hb) z
end L2

namespace L2
open PySem PySem.Spec PyProof.Rows


theorem walk_of {l : PySem.W.OpenLaw} {n k : Nat} {q : Program} {loose : List Str} {XP : (Str → Option Value) → Heap → Prop} {YP : World → Heap → Prop} {d : DefRec} {K : Params → PySem.W.Frag} {CX : World → CXT} {sp : World → Sp} {x : Str}
    (hn : l.most = some n) (hn2 : n ≤ sizeLine) (hdf : d.params.defaults = []) (hr : Room k callerA)
    (hY : ∀ (w : World) (h : Heap), YP w h → (K w.params).In h)
    (F : ∀ (w : World) (mg : Str → Option Value) (fa : Addr) (h : Heap), (K w.params).In h → h.Ns mainGlobals mg → mg d.name = some (.ref fa) →
      ∃ fd : FuncData, (∀ (s : Shared) (u : Value), BindsTo s fd ⟨[u], []⟩ [(x, u)]) ∧
        ∀ base : Heap, (K w.params).In base → base.Ns mainGlobals mg → FnOk l.prog w (K w.params) mg base (CX w) k fa fd [x] (sp w))
    (hsp : ∀ (w : World) (H : Hp) (a : Addr) (ns : List Int), ns.length ≤ n → Only H → SqL (K w.params) H a (ns.map V.int) → sp w [.ref a] H (fun v _ => v = .bl true) fun _ _ _ => False)
    (hCX : ∀ (w : World) (H : Hp) (s : Shared) (e : Value) (s' : Shared), CX w [] H s (fun _ _ _ => False) e s' → False) :
    PySem.W.WalkO q loose XP YP l.row.toRowW d [] (fun f vs => PySem.call f vs) := by
  refine Att.attach_call hn hdf fun w s₀ s₁ mg mb fa o pm cd doc a vs ns G Y ho hd hcd hmg hobj hints hlen hg => ?_
  have KX := hY w _ Y
  obtain ⟨fd, hb, hF⟩ := F w mg fa _ KX G.T.g hmg
  exact law_call KX G.T.g G.T.b G.T.builtins G.T.nolimit hg hobj hints (Nat.le_trans hlen hn2) hr hF hb (fun H hO hS => hsp w H a ns hlen hO hS) fun H e s' => hCX w H s₁ e s'
end L2

/- THE LAST THEOREM (shape; LID, My.* are yours):
   My.Adr: a structure of the addresses that your layer names (classes, functions); My.Txt K t: a structure (Prop) of the equations over K;
   My.txt_mk : {K} {implicit addresses ..} (e1 : nsIn K mainGlobals "law" = some (some (.ref f))) (e2 : K.lookup f = some ⟨oc, od, .func (fnOf "law" "law" params body scope dV kV doc pm an cdv ct), sl⟩) (e3 : codeIn K cdv "law" = true) .. : ∃ t, My.Txt K t

(the tactic k_is has no namespace: write k_is) -/

namespace L2
open PySem PySem.Spec PyProof.Rows

def defArgs (s : Stmt) : Arguments := match s with
  | .FunctionDef _ a _ _ _ _ _ _ _ _ => a
  | _ => { posonlyargs := [], args := [], vararg := none, kwonlyargs := [], kw_defaults := [], kwarg := none, defaults := [] }
def defBody (s : Stmt) : List Stmt := match s with
  | .FunctionDef _ _ b _ _ _ _ _ _ _ => b
  | _ => []
def defScope (s : Stmt) : Scope := match s with
  | .FunctionDef _ _ _ _ _ _ sc _ _ _ => sc
  | _ => { kind := .function, names := [], isGenerator := false, isCoroutine := false }

abbrev CX0 : CXT := fun _ _ _ _ _ _ => False
abbrev E0 : XK := fun _ _ _ => False
theorem pass0 {X : Cx} : Passes CX0 X E0 := fun _ _ _ _ _ _ _ h => h.elim

structure Fun (K : PySem.W.Frag) (x qual : Str) (st : Stmt) (f : Addr) (fd : FuncData) : Prop where
  ex : ∃ (oc : Value) (od : Option Addr) (kV doc pm : Value) (an : Option Addr) (cdv ct : Value) (osl : Array (Option Value)),
    fd = PySem.W.fnOf x qual (defArgs st) (defBody st) (defScope st) .none kV doc pm an cdv ct ∧ K.lookup f = some ⟨oc, od, .func fd, osl⟩ ∧ PySem.W.codeIn K cdv qual = true
  kp : PySem.W.keepIn K (.ref f) = true
section
variable {P : Program} {w : World} {K : PySem.W.Frag} {mg : Str → Option Value} {base : Heap}
theorem Fun.ok {x qual : Str} {st : Stmt} {f : Addr} {fd : FuncData} {N ps : List Str} {k : Nat} {sp : Sp} (F : Fun K x qual st f fd) (S : FnScope N ps (defScope st)) (len : ∀ vs H Q E, sp vs H Q E → vs.length = ps.length)
    (hbody : ∀ (cdv : Value) (A : Around) (outer : List Env) (s : Shared) (H : Hp) (vs : List V) (Q : VK) (E : XK), Room k (A.deeper (envOfC qual (defScope st) s.heap.objs.size f cdv)) → sp vs H Q E →
      ∃ t, PSs (cxOf CX0 P w K mg base N qual (defScope st) f cdv A outer s H E).nox (defBody st) t ∧ t { nx := fun _ H' => Q .non H', rt := Q } (start N vs) H) : FnOk P w K mg base CX0 (k + 1) f fd ps sp := by
  obtain ⟨oc, od, kV, doc, pm, an, cdv, ct, osl, rfl, lk, hcd⟩ := F.ex
  refine fn_of lk hcd S len fun A outer s H vs Q E hr hsp => ?_
  obtain ⟨t, h, q⟩ := hbody cdv A outer s H vs Q E hr hsp
  exact ⟨t, h.nox, q⟩
theorem Fun.binds {x qual : Str} {st : Stmt} {f : Addr} {fd : FuncData} {ps : List Str} (F : Fun K x qual st f fd)
    (h : ∀ (kV doc pm : Value) (an : Option Addr) (cdv ct : Value) (us : List Value), us.length = ps.length → bindArgs (PySem.W.fnOf x qual (defArgs st) (defBody st) (defScope st) .none kV doc pm an cdv ct) ⟨us, []⟩ = pure (ps.zip us)) : Binds K fd ps [] := by
  obtain ⟨oc, od, kV, doc, pm, an, cdv, ct, osl, rfl, lk, hcd⟩ := F.ex
  exact .all (h kV doc pm an cdv ct)
theorem fun_mk {x qual : Str} {st : Stmt} {f : Addr} {oc : Value} {od an : Option Addr} {osl : Array (Option Value)} {kV doc pm cdv ct : Value} (l : K.lookup f = some ⟨oc, od, .func (PySem.W.fnOf x qual (defArgs st) (defBody st) (defScope st) .none kV doc pm an cdv ct), osl⟩)
    (c : PySem.W.codeIn K cdv qual = true) (k : PySem.W.keepIn K (.ref f) = true) : Fun K x qual st f (PySem.W.fnOf x qual (defArgs st) (defBody st) (defScope st) .none kV doc pm an cdv ct) := ⟨⟨oc, od, kV, doc, pm, an, cdv, ct, osl, rfl, l, c⟩, k⟩
end

section
variable {X : Cx}
end

theorem iteF {A B : Prop} (h : B) : if false = true then A else B := by
  rw [if_neg Bool.false_ne_true]
  exact h
theorem iteT {A B : Prop} (h : A) : if true = true then A else B := by
  rw [if_pos rfl]
  exact h

def Same (H H' : Hp) : Prop := ∀ b o, H b = some o → H' b = some o
theorem Same.refl (H : Hp) : Same H H := fun _ _ h => h
theorem Same.trans {H H1 H2 : Hp} (a : Same H H1) (b : Same H1 H2) : Same H H2 := fun c o h => b c o (a c o h)
theorem Same.free {H H' : Hp} (e : Same H H') {l : Addr} (h : H' l = Option.none) : H l = Option.none := by
  cases q : H l with
  | none => rfl
  | some o =>
    rw [e l o q] at h
    cases h

end L2

namespace L2
open PySem PySem.Spec PyProof.Rows
open PySem.AutoSeq1 (wpAny_loadPart')
open PySem.SeqAt PySem.MeetsSeq PySem.MeetsSeq2 PySem.MeetsSeq3
theorem list_addQ (l b : Addr) (items items2 : Array Value) (n n2 : Nat) (dd dd2 : Option Addr) (sl sl2 : Array (Option Value)) (hc0 : items.size + items2.size ≤ sizeLine) :
    Meets (Builtin.«list.__add__» ⟨[.ref l, .ref b], []⟩) (fun _ R s => s.heap.get? l = some { cls := .type "list", dict := dd, data := .seq items n, slots := sl } ∧ s.heap.get? b = some { cls := .type "list", dict := dd2, data := .seq items2 n2, slots := sl2 } ∧ R (.ok (.ret (Value.ref s.heap.objs.size))) { s with heap := s.heap.push { cls := Value.type "list", data := Data.seq (items ++ items2) }, toks := s.toks }) :=
  .of_wp fun prog w A R s h => by obtain ⟨hp, g, d, tk, os⟩ := s; obtain ⟨hl, hb, h⟩ := h; have f1 := AutoSeq1.idx_int; have f2 := AutoSeq1.sub_tuple_tuple; have f3 := AutoSeq1.sub_list_list; have f4 := AutoSeq1.sub_tuple_list; have f5 := AutoSeq1.sub_list_tuple; wp_walk using wpAny_loadPart' hl, wpAny_loadPart' hb; exact ⟨_, rfl, h⟩
section
variable {X : Cx}
theorem op_catQ : OpR X (binaryOp .Add) (fun x y H Q => ∃ l b xs zs, x = .ref l ∧ y = .ref b ∧ SqL X.K H l xs ∧ SqL X.K H b zs ∧ xs.length + zs.length ≤ sizeLine ∧ ∀ p, H p = none → Q (.ref p) (upd H p (.lst (xs ++ zs)))) := by
  intro pins s σ H x y v u Q I rx ry h
  obtain ⟨l, b, xs, zs, rfl, rfl, hH, hB, hz, q⟩ := h
  cases rx
  cases ry
  obtain ⟨its, r, ⟨⟨c1, d1, t1, sl1⟩, n, e, k1, k2, k3⟩, z⟩ := I.list hH
  obtain ⟨its2, r2, ⟨⟨c2, d2, t2, sl2⟩, n2, e2, m1, m2, m3⟩, z2⟩ := I.list hB
  simp only at k1 k2 k3 m1 m2 m3
  subst k1 k2 k3 m1 m2 m3
  have hl := r.length
  have hl2 := r2.length
  refine concat_meets ⟨_, e, rfl⟩ ⟨_, e2, rfl⟩ noFill_list_add seq_list_add F.slot_list_add F.entry_list_add (F.args_list_add_2 _ _) (list_addQ l b its.toArray its2.toArray n n2 none none sl1 sl2 (by rw [List.size_toArray, List.size_toArray]; omega)) ⟨e, e2, ?_⟩
  have ea : its.toArray ++ its2.toArray = (its ++ its2).toArray := by simp
  rw [ea]
  exact ⟨.ref _, _, I.lnew (t' := s.toks) (r.append r2) (by rw [List.length_append]; omega), rfl, q _ I.fresh⟩
theorem ints_items {us : List Value} {ns : List Int} (h : IntsAre us ns) : ∃ xs : Array (Int × Tok), us.toArray = intItems xs ∧ xs.toList.map (·.1) = ns := by
  obtain ⟨xs, e⟩ := h.allInts.items
  refine ⟨xs, e, ?_⟩
  have e2 := h.numsOf
  rw [← nums_intItems, ← e]
  exact e2
theorem call_maxL (hc : X.calm = true) : CallR X (.builtin "max") (fun xs H Q => ∃ (p : Addr) (ns : List Int), xs = [.ref p] ∧ SqL X.K H p (ns.map V.int) ∧ ns ≠ [] ∧ ∀ M, M ∈ ns → (∀ a ∈ ns, a ≤ M) → Q (.int M) H) := by
  intro pins s σ H xs us Q I r h
  obtain ⟨p, ns, rfl, hq, hne, q⟩ := h
  obtain ⟨u, rfl, rx⟩ := vals1 r
  cases rx
  obtain ⟨its, r', pl, hz⟩ := I.list hq
  obtain ⟨ys, e, e2⟩ := ints_items (intsAre_of r')
  have hl := pl.isList
  rw [e] at hl
  have hsz : 0 < ys.size := by
    rcases Nat.eq_zero_or_pos ys.size with z | z
    · exfalso
      apply hne
      rw [← e2]
      have : ys.toList = [] := by
        apply List.eq_nil_of_length_eq_zero
        simpa using z
      rw [this]
      rfl
    · exact z
  refine max_intList (I.ok.hd hc) hl hsz fun v h' tk hv k => ?_
  obtain ⟨t, rfl⟩ := intItems_at hv
  obtain ⟨h1, h2⟩ := argBest_gt (numAt ys) (ys.size - 1)
  refine ⟨.int _, H, I.kept k, ⟨t, rfl⟩, q _ ?_ fun a ha => ?_⟩
  · rw [numAt_eq, ← e2]; exact getD_mem (by rw [List.length_map, Array.length_toList]; omega)
  · rw [← e2] at ha
    obtain ⟨j, hj, rfl⟩ := mem_getD ha
    rw [List.length_map, Array.length_toList] at hj
    rw [← numAt_eq]; exact h2 j (by omega)
theorem call_minL (hc : X.calm = true) : CallR X (.builtin "min") (fun xs H Q => ∃ (p : Addr) (ns : List Int), xs = [.ref p] ∧ SqL X.K H p (ns.map V.int) ∧ ns ≠ [] ∧ ∀ M, M ∈ ns → (∀ a ∈ ns, M ≤ a) → Q (.int M) H) := by
  intro pins s σ H xs us Q I r h
  obtain ⟨p, ns, rfl, hq, hne, q⟩ := h
  obtain ⟨u, rfl, rx⟩ := vals1 r
  cases rx
  obtain ⟨its, r', pl, hz⟩ := I.list hq
  obtain ⟨ys, e, e2⟩ := ints_items (intsAre_of r')
  have hl := pl.isList
  rw [e] at hl
  have hsz : 0 < ys.size := by
    rcases Nat.eq_zero_or_pos ys.size with z | z
    · exfalso
      apply hne
      rw [← e2]
      have : ys.toList = [] := by
        apply List.eq_nil_of_length_eq_zero
        simpa using z
      rw [this]
      rfl
    · exact z
  refine min_intList (I.ok.hd hc) hl hsz fun v h' tk hv k => ?_
  obtain ⟨t, rfl⟩ := intItems_at hv
  obtain ⟨h1, h2⟩ := argBest_lt (numAt ys) (ys.size - 1)
  refine ⟨.int _, H, I.kept k, ⟨t, rfl⟩, q _ ?_ fun a ha => ?_⟩
  · rw [numAt_eq, ← e2]; exact getD_mem (by rw [List.length_map, Array.length_toList]; omega)
  · rw [← e2] at ha
    obtain ⟨j, hj, rfl⟩ := mem_getD ha
    rw [List.length_map, Array.length_toList] at hj
    rw [← numAt_eq]; exact h2 j (by omega)
def TyD (K : PySem.W.Frag) (H : Hp) (x : V) (t : String) : Prop := match x with
  | .non => t = "NoneType"
  | .bl _ => t = "bool"
  | .int _ => t = "int"
  | .str _ => t = "str"
  | .ref a => (t = "list" ∧ ∃ xs, SqL K H a xs) ∨ (t = "tuple" ∧ ∃ xs, SqT K H a xs)
  | _ => False
theorem call_isi {T : String} : CallR X (.builtin "isinstance") (fun xs H Q => ∃ x t b, xs = [x, .ty T] ∧ TyD X.K H x t ∧ PySem.W.kitOne X.K (.type t) (.type T) = some b ∧ Q (.bl b) H) := by
  intro pins s σ H xs us Q I r h
  obtain ⟨x, t, b, rfl, ty, e, q⟩ := h
  obtain ⟨u, u2, rfl, rx, ry⟩ := vals2 r
  cases ry
  have fin : ∀ tk, EP X pins σ Q (.bool b) { s with toks := tk } := fun tk => ⟨.bl b, H, I.tok tk, rfl, q⟩
  cases x with
  | non => cases (show t = "NoneType" from ty); cases rx; exact PySem.W.kia_one PySem.W.kitx_none I.kIn True.intro e (fun z => nomatch z) fin
  | bl y => cases (show t = "bool" from ty); cases rx; exact PySem.W.kia_one PySem.W.kitx_bool I.kIn True.intro e (fun z => nomatch z) fin
  | int i => cases (show t = "int" from ty); obtain ⟨_, rfl⟩ := rx; exact PySem.W.kia_one PySem.W.kitx_int I.kIn True.intro e (fun z => nomatch z) fin
  | str y => cases (show t = "str" from ty); obtain ⟨_, rfl⟩ := rx; exact PySem.W.kia_one PySem.W.kitx_str I.kIn True.intro e (fun z => nomatch z) fin
  | ref a =>
    cases rx
    rcases ty with ⟨rfl, ys, sq⟩ | ⟨rfl, ys, sq⟩
    · obtain ⟨its, _, ⟨o, n, h1, h2, _, _⟩, _⟩ := I.list sq
      exact PySem.W.kia_one PySem.W.kitx_list I.kIn ⟨o, h1, h2⟩ e (fun z => nomatch z) fin
    · obtain ⟨its, _, ⟨o, h1, h2, _⟩, _⟩ := I.tuple sq
      exact PySem.W.kia_one PySem.W.kitx_tuple I.kIn ⟨o, h1, h2⟩ e (fun z => nomatch z) fin
  | byt _ => exact False.elim ty
  | flt _ => exact False.elim ty
  | ty _ => exact False.elim ty
end
end L2
namespace L2
open PySem PySem.Spec PyProof.Rows
open PySem.AutoSeq1 (wpAny_loadPart')
open PySem.SeqAt PySem.MeetsSeq PySem.MeetsSeq2 PySem.MeetsSeq3
theorem tuple_neAt (l b : Addr) (items items2 : Array Value) (n n2 : Nat) (dd dd2 : Option Addr) (sl sl2 : Array (Option Value)) (e : Nat → Bool) :
    Meets (Builtin.«tuple.__ne__» ⟨[.ref l, .ref b], []⟩)
      (fun A R s => s.heap.get? l = some { cls := .type "tuple", dict := dd, data := .seq items n, slots := sl } ∧ s.heap.get? b = some { cls := .type "tuple", dict := dd2, data := .seq items2 n2, slots := sl2 } ∧
        (∀ j (h1 : j < items.size) (h2 : j < items2.size), EqAt A.in1 s items[j] items2[j] (e j)) ∧
        R (.ok (.ret (.bool (!((List.range (min items.size items2.size)).all e && items.size == items2.size))))) s) :=
  .of_wp fun prog w A R s h => by
    obtain ⟨hp, g, d, tk, os⟩ := s; obtain ⟨hl, hb, he, h⟩ := h
    have f2 := AutoSeq1.sub_tuple_tuple
    have hZ : (items.toList.zip items2.toList).length = min items.size items2.size := by simp
    wp_walk using wpAny_loadPart' hl, wpAny_loadPart' hb, wpAny_forIn_list _ (fun rest b s' => b.1 = none ∧ s' = ⟨hp, g, d, tk, os⟩ ∧ ∃ i, rest = (items.toList.zip items2.toList).drop i ∧
      R (.ok (.ret (.bool (!(((List.range (min items.size items2.size)).drop i).all e && items.size == items2.size))))) ⟨hp, g, d, tk, os⟩) _
    case turn =>
      rintro ⟨y, x⟩ rest b s' ⟨hb', rfl, i, hz, hR⟩
      have hlt : i < (items.toList.zip items2.toList).length := by
        rcases Nat.lt_or_ge i (items.toList.zip items2.toList).length with h' | h'
        · exact h'
        · rw [List.drop_of_length_le h'] at hz; cases hz
      have hm : i < min items.size items2.size := hZ ▸ hlt
      have h1 : i < items.size := Nat.lt_of_lt_of_le hm (Nat.min_le_left _ _)
      have h2 : i < items2.size := Nat.lt_of_lt_of_le hm (Nat.min_le_right _ _)
      rw [List.drop_eq_getElem_cons hlt] at hz
      injection hz with hyx hrest
      have hy : y = items[i] := by have := congrArg Prod.fst hyx; simpa using this
      have hx : x = items2[i] := by have := congrArg Prod.snd hyx; simpa using this
      subst hy hx
      have hd : (List.range (min items.size items2.size)).drop i = i :: (List.range (min items.size items2.size)).drop (i + 1) := by simp [List.drop_eq_getElem_cons, hm]
      rw [hd, List.all_cons] at hR
      refine wpAny_bind (he i h1 h2 prog w _ _ ?_)
      cases hy : e i with
      | true =>
        rw [hy] at hR
        wp_walk
        exact ⟨rfl, rfl, i + 1, hrest, by simpa only [Bool.true_and] using hR⟩
      | false =>
        rw [hy] at hR
        wp_walk
        exact ⟨_, rfl, by simpa only [Bool.false_and, Bool.not_false] using hR⟩
    case fin =>
      rintro ⟨b1, b2⟩ s' ⟨hb', rfl, i, hz, hR⟩
      simp only at hb'
      subst hb'
      have hge : min items.size items2.size ≤ i := by
        rcases Nat.lt_or_ge i (items.toList.zip items2.toList).length with h' | h'
        · rw [List.drop_eq_getElem_cons h'] at hz; cases hz
        · exact hZ ▸ h'
      rw [List.drop_of_length_le (by simpa using hge)] at hR
      wp_walk
      exact ⟨_, rfl, by simpa [Builtin.Tuple.tupleCompareSizes, bne] using hR⟩
    case h =>
      exact ⟨rfl, rfl, 0, rfl, by simpa only [List.drop_zero] using h⟩
theorem ne_loopAt (l b : Addr) (items items2 : Array Value) (n n2 : Nat) (dd dd2 : Option Addr) (sl sl2 : Array (Option Value)) (hsz : items.size = items2.size) (e : Nat → Bool) (k : Nat) :
    ∀ i : Nat, items.size - i = k → Meets (Builtin.«list.__eq__.loop» ⟨[.ref l, .ref b, rawInt i, rawInt 3], []⟩)
      (fun A R s => s.heap.get? l = some { cls := .type "list", dict := dd, data := .seq items n, slots := sl } ∧ s.heap.get? b = some { cls := .type "list", dict := dd2, data := .seq items2 n2, slots := sl2 } ∧
        (∀ j (h1 : j < items.size) (h2 : j < items2.size), EqAt A.in1 s items[j] items2[j] (e j)) ∧
        R (.ok (.ret (.bool (!(((List.range items.size).drop i).all e))))) s) := by
  induction k with
  | zero =>
    intro i hk prog w A R s h
    obtain ⟨hp, g, d, tk, os⟩ := s; obtain ⟨hl, hb, he, h⟩ := h
    wp_walk using wpAny_loadPart' hl, wpAny_loadPart' hb
    have hi1 : items[((i : Nat) : Int).toNat]? = none := by simp; omega
    have hi2 : items2[((i : Nat) : Int).toNat]? = none := by simp; omega
    have hd : (List.range items.size).drop i = [] := by simp; omega
    rw [hd] at h
    rw [hi1, hi2]
    wp_walk using wpAny_loadPart' hl, wpAny_loadPart' hb
    show R (.ok (.ret (.bool (items.size != items2.size)))) _
    rw [hsz]
    simpa using h
  | succ k ih =>
    intro i hk prog w A R s h
    obtain ⟨hp, g, d, tk, os⟩ := s; obtain ⟨hl, hb, he, h⟩ := h
    wp_walk using wpAny_loadPart' hl, wpAny_loadPart' hb
    have hlt : i < items.size := by omega
    have hlt2 : i < items2.size := by omega
    have hi1 : items[((i : Nat) : Int).toNat]? = some items[i] := by simp [hlt]
    have hi2 : items2[((i : Nat) : Int).toNat]? = some items2[i] := by simp [hlt2]
    have hd : (List.range items.size).drop i = i :: (List.range items.size).drop (i + 1) := by simp [List.drop_eq_getElem_cons, hlt]
    have hc : ((i : Int) + 1) = ((i + 1 : Nat) : Int) := by push_cast; rfl
    rw [hd, List.all_cons] at h
    rw [hi1, hi2]
    refine wpAny_bind (he i hlt hlt2 prog w _ _ ?_)
    cases hb' : e i with
    | true =>
      rw [hb'] at h
      wp_walk
      rw [hc]
      exact ⟨plainId_quiet plain_eq_loop _, codeAny_builtin entry_eq_loop (by
        rw [Around.under_plainId plain_eq_loop _]
        exact ih (i + 1) (by omega) prog w A R _ ⟨hl, hb, he, by simpa only [Bool.true_and] using h⟩)⟩
    | false =>
      rw [hb'] at h
      wp_walk using wpAny_loadPart' hl, wpAny_loadPart' hb
      rw [hi1, hi2]
      wp_walk
      simpa using h
theorem list_neAt (l b : Addr) (items items2 : Array Value) (n n2 : Nat) (dd dd2 : Option Addr) (sl sl2 : Array (Option Value)) (hsz : items.size = items2.size) (e : Nat → Bool) :
    Meets (Builtin.«list.__ne__» ⟨[.ref l, .ref b], []⟩)
      (fun A R s => s.heap.get? l = some { cls := .type "list", dict := dd, data := .seq items n, slots := sl } ∧ s.heap.get? b = some { cls := .type "list", dict := dd2, data := .seq items2 n2, slots := sl2 } ∧
        (∀ j (h1 : j < items.size) (h2 : j < items2.size), EqAt A.in1 s items[j] items2[j] (e j)) ∧
        R (.ok (.ret (.bool (!((List.range items.size).all e))))) s) := by
  intro prog w A R s h
  obtain ⟨hp, g, d, tk, os⟩ := s; obtain ⟨hl, hb, he, h⟩ := h
  have f3 := AutoSeq1.sub_list_list
  have hne : ¬ (items.size != items2.size) = true := by simp [hsz]
  wp_walk using wpAny_loadPart' hl, wpAny_loadPart' hb
  exact ⟨plainId_quiet plain_eq_loop _, codeAny_builtin entry_eq_loop (by
    rw [Around.under_plainId plain_eq_loop _]
    exact ne_loopAt l b items items2 n n2 dd dd2 sl sl2 hsz e _ 0 rfl prog w A R _ ⟨hl, hb, he, by simpa only [List.drop_zero] using h⟩)⟩
theorem list_ne_lengthsAt (l b : Addr) (items items2 : Array Value) (n n2 : Nat) (dd dd2 : Option Addr) (sl sl2 : Array (Option Value)) (hc0 : (items.size != items2.size) = true) :
    Meets (Builtin.«list.__ne__» ⟨[.ref l, .ref b], []⟩)
      (fun _ R s => s.heap.get? l = some { cls := .type "list", dict := dd, data := .seq items n, slots := sl } ∧ s.heap.get? b = some { cls := .type "list", dict := dd2, data := .seq items2 n2, slots := sl2 } ∧
        R (.ok (.ret (.bool true))) s) :=
  .of_wp fun prog w A R s h => by
    obtain ⟨hp, g, d, tk, os⟩ := s; obtain ⟨hl, hb, h⟩ := h
    have f3 := AutoSeq1.sub_list_list
    wp_walk using wpAny_loadPart' hl, wpAny_loadPart' hb
    exact ⟨_, rfl, h⟩
section
variable {prog : Program} {w : World} {A : Around} {E : Value → Shared → Prop} {s : Shared} {Q : Value → Shared → Prop}
theorem ne_tuples {l b : Addr} {items items2 : Array Value} {e : Nat → Bool} (hl : s.heap.IsTuple l items) (hb : s.heap.IsTuple b items2) (hu : A.units < cLine)
    (he : ∀ j (h1 : j < items.size) (h2 : j < items2.size), EqAt A.in1 s items[j] items2[j] (e j)) (h : Q (.bool (!((List.range (min items.size items2.size)).all e && items.size == items2.size))) s) : wpAny (model prog w) A (compareOp .NotEq (.ref l) (.ref b)) Q E s := by
  obtain ⟨⟨cls, dd, data, sl⟩, ho, hc, n, hd⟩ := id hl
  obtain ⟨⟨cls2, dd2, data2, sl2⟩, ho2, hc2, n2, hd2⟩ := id hb
  simp only at hc hd hc2 hd2
  subst hc hd hc2 hd2
  exact richCompare_meets_room (op := .NotEq) ⟨_, ho, rfl⟩ ⟨_, ho2, rfl⟩ F.slot_tuple_ne F.entry_tuple_ne (F.args_tuple_ne_2 _ _) (tuple_neAt l b items items2 n n2 dd dd2 sl sl2 e) ⟨ho, ho2, he, ⟨(fun x => nomatch x), h⟩⟩ hu
theorem ne_lists {l b : Addr} {items items2 : Array Value} {e : Nat → Bool} (hl : s.heap.IsList l items) (hb : s.heap.IsList b items2) (hsz : items.size = items2.size) (hu : A.units < cLine)
    (he : ∀ j (h1 : j < items.size) (h2 : j < items2.size), EqAt A.in1 s items[j] items2[j] (e j)) (h : Q (.bool (!((List.range items.size).all e))) s) : wpAny (model prog w) A (compareOp .NotEq (.ref l) (.ref b)) Q E s := by
  obtain ⟨⟨cls, dd, data, sl⟩, ho, hc, n, hd⟩ := id hl
  obtain ⟨⟨cls2, dd2, data2, sl2⟩, ho2, hc2, n2, hd2⟩ := id hb
  simp only at hc hd hc2 hd2
  subst hc hd hc2 hd2
  exact richCompare_meets_room (op := .NotEq) ⟨_, ho, rfl⟩ ⟨_, ho2, rfl⟩ F.slot_list_ne F.entry_list_ne (F.args_list_ne_2 _ _) (list_neAt l b items items2 n n2 dd dd2 sl sl2 hsz e) ⟨ho, ho2, he, ⟨(fun x => nomatch x), h⟩⟩ hu
theorem ne_lists_len {l b : Addr} {items items2 : Array Value} (hl : s.heap.IsList l items) (hb : s.heap.IsList b items2) (hsz : (items.size != items2.size) = true) (hu : A.units < cLine)
    (h : Q (.bool true) s) : wpAny (model prog w) A (compareOp .NotEq (.ref l) (.ref b)) Q E s := by
  obtain ⟨⟨cls, dd, data, sl⟩, ho, hc, n, hd⟩ := id hl
  obtain ⟨⟨cls2, dd2, data2, sl2⟩, ho2, hc2, n2, hd2⟩ := id hb
  simp only at hc hd hc2 hd2
  subst hc hd hc2 hd2
  exact richCompare_meets_room (op := .NotEq) ⟨_, ho, rfl⟩ ⟨_, ho2, rfl⟩ F.slot_list_ne F.entry_list_ne (F.args_list_ne_2 _ _) (list_ne_lengthsAt l b items items2 n n2 dd dd2 sl sl2 hsz) ⟨ho, ho2, ⟨(fun x => nomatch x), h⟩⟩ hu
end
end L2
namespace SM
open PySem PySem.Spec PyProof.Rows L2

inductive Dt where
  | non | bl (b : Bool) | int (i : Int) | str (x : Str) | tup (xs : List Dt) | lst (xs : List Dt) | ref (n : Nat) | ntp (xs : List Int)

inductive Ob where
  | lst (xs : List Dt)
  | ins (x : Str) (fs : List (Str × Dt))
  | dk (kvs : List (Key × Dt))
  | dt (kvs : List (List Int × Dt))
  | df (kvs : List (List Int × Dt))

abbrev HI := List Ob
abbrev LI := List (Option Dt)

structure Rg where
  v : List Addr
  z : List Addr
def Rg.no (ρ : Rg) (a : Addr) : Prop := a ∉ ρ.v ∧ a ∉ ρ.z
def Rg.add (ρ : Rg) (p : Addr) : Rg := ⟨ρ.v ++ [p], ρ.z⟩
def Rg.hide (ρ : Rg) (p : Addr) : Rg := ⟨ρ.v, p :: ρ.z⟩
def Rg.nil : Rg := ⟨[], []⟩

def TupAt (K : PySem.W.Frag) (H : Hp) (ρ : Rg) (a : Addr) (vs : List V) : Prop :=
  (ρ.no a ∧ Rd H a (.tup vs)) ∨
    ∃ (o : Obj) (its : Array Value) (n : Nat), K.lookup a = some o ∧ o.cls = .type "tuple" ∧ o.data = .seq its n ∧ its.size ≤ sizeLine ∧ Vals vs its.toList
def LstAt (K : PySem.W.Frag) (H : Hp) (ρ : Rg) (a : Addr) (vs : List V) : Prop :=
  (ρ.no a ∧ Rd H a (.lst vs)) ∨
    ∃ (o : Obj) (its : Array Value) (n : Nat), K.lookup a = some o ∧ o.cls = .type "list" ∧ o.dict = none ∧ o.data = .seq its n ∧ its.size ≤ sizeLine ∧ Vals vs its.toList
theorem TupAt.sq {K : PySem.W.Frag} {H : Hp} {ρ : Rg} {a : Addr} {vs : List V} (h : TupAt K H ρ a vs) : SqT K H a vs := by
  rcases h with ⟨_, h⟩ | h
  · exact .inl h
  · exact .inr h
theorem LstAt.sq {K : PySem.W.Frag} {H : Hp} {ρ : Rg} {a : Addr} {vs : List V} (h : LstAt K H ρ a vs) : SqL K H a vs := by
  rcases h with ⟨_, h⟩ | h
  · exact .inl h
  · exact .inr h

mutual
def RelD (K : PySem.W.Frag) (H : Hp) (ρ : Rg) : Dt → V → Prop
  | .non, v => v = .non
  | .bl b, v => v = .bl b
  | .int i, v => v = .int i
  | .str x, v => v = .str x
  | .tup xs, v => ∃ a vs, v = .ref a ∧ TupAt K H ρ a vs ∧ RelDs K H ρ xs vs
  | .lst xs, v => ∃ a vs, v = .ref a ∧ LstAt K H ρ a vs ∧ RelDs K H ρ xs vs
  | .ref n, v => ∃ a, v = .ref a ∧ ρ.v[n]? = some a
  | .ntp xs, v => ∃ a, v = .ref a ∧ ρ.no a ∧ H a = some (.tup (xs.map V.int))
def RelDs (K : PySem.W.Frag) (H : Hp) (ρ : Rg) : List Dt → List V → Prop
  | [], vs => vs = []
  | x :: xs, vs => ∃ v r, vs = v :: r ∧ RelD K H ρ x v ∧ RelDs K H ρ xs r
end

structure Ext (ρ ρ' : Rg) (H H' : Hp) : Prop where
  pre : ∃ e, ρ'.v = ρ.v ++ e ∧ ∀ a ∈ e, H a = none
  hid : ρ'.z = ρ.z
  keep : ∀ a o, H a = some o → a ∉ ρ.v → H' a = some o
  live : ∀ a, H' a = none → H a = none
  fz : ∀ a o u, H a = some (.frz o u) → H' a = some (.frz o u)
theorem Ext.refl (ρ : Rg) (H : Hp) : Ext ρ ρ H H := ⟨⟨[], by simp, by simp⟩, rfl, fun _ _ h _ => h, fun _ h => h, fun _ _ _ h => h⟩
theorem Ext.notv {ρ ρ' : Rg} {H H' : Hp} (x : Ext ρ ρ' H H') {a : Addr} {o : HO} (h : H a = some o) (n : a ∉ ρ.v) : a ∉ ρ'.v := by
  obtain ⟨e, e', hn⟩ := x.pre
  rw [e']
  intro hm
  rcases List.mem_append.mp hm with hm | hm
  · exact n hm
  · have := hn a hm
    rw [h] at this
    cases this
theorem Ext.notin {ρ ρ' : Rg} {H H' : Hp} (x : Ext ρ ρ' H H') {a : Addr} {o : HO} (h : H a = some o) (n : ρ.no a) : ρ'.no a := ⟨x.notv h n.1, by rw [x.hid]; exact n.2⟩
theorem Ext.trans {ρ ρ1 ρ2 : Rg} {H H1 H2 : Hp} (x : Ext ρ ρ1 H H1) (y : Ext ρ1 ρ2 H1 H2) : Ext ρ ρ2 H H2 := by
  refine ⟨?_, y.hid.trans x.hid, fun a o h n => y.keep a o (x.keep a o h n) (x.notv h n), fun a h => x.live a (y.live a h), fun a o u h => y.fz a o u (x.fz a o u h)⟩
  obtain ⟨e, q1, h1⟩ := x.pre
  obtain ⟨e', q2, h2⟩ := y.pre
  refine ⟨e ++ e', by rw [q2, q1, List.append_assoc], fun a ha => ?_⟩
  rcases List.mem_append.mp ha with ha | ha
  · exact h1 a ha
  · exact x.live a (h2 a ha)
theorem Ext.get {ρ ρ' : Rg} {H H' : Hp} (x : Ext ρ ρ' H H') {n : Nat} {a : Addr} (h : ρ.v[n]? = some a) : ρ'.v[n]? = some a := by
  obtain ⟨e, e', _⟩ := x.pre
  have := (List.getElem?_eq_some_iff.mp h).1
  rw [e', List.getElem?_append_left this]
  exact h
theorem Ext.fresh {ρ : Rg} {H : Hp} {p : Addr} {o : HO} (h : H p = none) : Ext ρ ρ H (upd H p o) := by
  refine ⟨⟨[], by simp, by simp⟩, rfl, fun a u e _ => ?_, fun a e => ?_, fun a o u e => by rw [upd_ne (ne_of_none e h)]; exact e⟩
  · rw [upd_ne (ne_of_none e h)]
    exact e
  · by_cases ha : a = p
    · subst ha
      exact h
    · rw [upd_ne ha] at e
      exact e
theorem Ext.own {ρ : Rg} {H : Hp} {p : Addr} {o : HO} (h : H p = none) : Ext ρ (ρ.add p) H (upd H p o) := by
  refine ⟨⟨[p], rfl, fun a ha => ?_⟩, rfl, (Ext.fresh (ρ := ρ) h).keep, (Ext.fresh (ρ := ρ) h).live, (Ext.fresh (ρ := ρ) h).fz⟩
  rw [List.mem_singleton.mp ha]
  exact h
def Nfz (H : Hp) (a : Addr) : Prop := ∀ o u, H a ≠ some (.frz o u)
theorem nfz {H : Hp} {a : Addr} {vs : List V} (h : H a = some (.lst vs)) : Nfz H a := fun _ _ e => by rw [h] at e; cases e
theorem Ext.write {ρ : Rg} {H : Hp} {a : Addr} {o : HO} (ha : a ∈ ρ.v) (nf : Nfz H a) : Ext ρ ρ H (upd H a o) := by
  refine ⟨⟨[], by simp, by simp⟩, rfl, fun b u e n => ?_, fun b e => ?_, fun b q u e => by rw [upd_ne (fun z : b = a => nf q u (by rw [← z]; exact e))]; exact e⟩
  · rw [upd_ne (fun z => n (by rw [z]; exact ha))]
    exact e
  · by_cases hb : b = a
    · subst hb
      rw [upd_same] at e
      cases e
    · rw [upd_ne hb] at e
      exact e

structure Same2 (ρ ρ' : Rg) (H H' : Hp) : Prop where
  no : ∀ a u, H a = some u → ρ.no a → ρ'.no a
  eq : ∀ a u, H a = some u → ρ.no a → H' a = some u
  ix : ∀ (n : Nat) a, ρ.v[n]? = some a → ρ'.v[n]? = some a
  fz : ∀ a o u, H a = some (.frz o u) → H' a = some (.frz o u)
theorem Ext.same {ρ ρ' : Rg} {H H' : Hp} (x : Ext ρ ρ' H H') : Same2 ρ ρ' H H' := ⟨fun _ _ e n => x.notin e n, fun _ _ e n => x.keep _ _ e n.1, fun _ _ e => x.get e, x.fz⟩
theorem Same2.trans {ρ ρ1 ρ2 : Rg} {H H1 H2 : Hp} (x : Same2 ρ ρ1 H H1) (y : Same2 ρ1 ρ2 H1 H2) : Same2 ρ ρ2 H H2 :=
  ⟨fun a u e n => y.no a u (x.eq a u e n) (x.no a u e n), fun a u e n => y.eq a u (x.eq a u e n) (x.no a u e n), fun n a e => y.ix n a (x.ix n a e), fun a o u e => y.fz a o u (x.fz a o u e)⟩
theorem TupAt.same {K : PySem.W.Frag} {ρ ρ' : Rg} {H H' : Hp} (x : Same2 ρ ρ' H H') {a : Addr} {vs : List V} (h : TupAt K H ρ a vs) : TupAt K H' ρ' a vs := by
  rcases h with ⟨n, t | ⟨y, t⟩⟩ | t
  · exact .inl ⟨x.no _ _ t n, .inl (x.eq _ _ t n)⟩
  · exact .inl ⟨x.no _ _ t n, .inr ⟨y, x.eq _ _ t n⟩⟩
  · exact .inr t
theorem LstAt.same {K : PySem.W.Frag} {ρ ρ' : Rg} {H H' : Hp} (x : Same2 ρ ρ' H H') {a : Addr} {vs : List V} (h : LstAt K H ρ a vs) : LstAt K H' ρ' a vs := by
  rcases h with ⟨n, t | ⟨y, t⟩⟩ | t
  · exact .inl ⟨x.no _ _ t n, .inl (x.eq _ _ t n)⟩
  · exact .inl ⟨x.no _ _ t n, .inr ⟨y, x.eq _ _ t n⟩⟩
  · exact .inr t

mutual
theorem RelD.same {K : PySem.W.Frag} {ρ ρ' : Rg} {H H' : Hp} (x : Same2 ρ ρ' H H') : ∀ (d : Dt) {v : V}, RelD K H ρ d v → RelD K H' ρ' d v
  | .non, _, h => by simp only [RelD] at h ⊢; exact h
  | .bl _, _, h => by simp only [RelD] at h ⊢; exact h
  | .int _, _, h => by simp only [RelD] at h ⊢; exact h
  | .str _, _, h => by simp only [RelD] at h ⊢; exact h
  | .tup xs, _, h => by
    simp only [RelD] at h ⊢
    obtain ⟨a, vs, e, t, r⟩ := h
    exact ⟨a, vs, e, t.same x, RelDs.same x xs r⟩
  | .lst xs, _, h => by
    simp only [RelD] at h ⊢
    obtain ⟨a, vs, e, t, r⟩ := h
    exact ⟨a, vs, e, t.same x, RelDs.same x xs r⟩
  | .ref _, _, h => by
    simp only [RelD] at h ⊢
    obtain ⟨a, e, t⟩ := h
    exact ⟨a, e, x.ix _ _ t⟩
  | .ntp _, _, h => by
    simp only [RelD] at h ⊢
    obtain ⟨a, e, n, t⟩ := h
    exact ⟨a, e, x.no _ _ t n, x.eq _ _ t n⟩
theorem RelDs.same {K : PySem.W.Frag} {ρ ρ' : Rg} {H H' : Hp} (x : Same2 ρ ρ' H H') : ∀ (ds : List Dt) {vs : List V}, RelDs K H ρ ds vs → RelDs K H' ρ' ds vs
  | [], _, h => by simp only [RelDs] at h ⊢; exact h
  | d :: ds, _, h => by
    simp only [RelDs] at h ⊢
    obtain ⟨v, r, e, h1, h2⟩ := h
    exact ⟨v, r, e, RelD.same x d h1, RelDs.same x ds h2⟩
end
theorem RelD.ext {K : PySem.W.Frag} {ρ ρ' : Rg} {H H' : Hp} (x : Ext ρ ρ' H H') (d : Dt) {v : V} (h : RelD K H ρ d v) : RelD K H' ρ' d v := RelD.same x.same d h
theorem RelDs.ext {K : PySem.W.Frag} {ρ ρ' : Rg} {H H' : Hp} {ds : List Dt} {vs : List V} (h : RelDs K H ρ ds vs) (x : Ext ρ ρ' H H') : RelDs K H' ρ' ds vs := RelDs.same x.same ds h

section
variable {K : PySem.W.Frag} {H : Hp} {ρ : Rg}
theorem RelDs.nil : RelDs K H ρ [] [] := by simp only [RelDs]
theorem RelDs.cons {d : Dt} {v : V} {ds : List Dt} {vs : List V} (h : RelD K H ρ d v) (r : RelDs K H ρ ds vs) : RelDs K H ρ (d :: ds) (v :: vs) := by
  simp only [RelDs]
  exact ⟨v, vs, rfl, h, r⟩
theorem RelDs.uncons {d : Dt} {ds : List Dt} {vs : List V} (h : RelDs K H ρ (d :: ds) vs) : ∃ v r, vs = v :: r ∧ RelD K H ρ d v ∧ RelDs K H ρ ds r := by
  simpa only [RelDs] using h
theorem RelDs.unnil {vs : List V} (h : RelDs K H ρ [] vs) : vs = [] := by simpa only [RelDs] using h
theorem RelDs.length : ∀ {ds : List Dt} {vs : List V}, RelDs K H ρ ds vs → vs.length = ds.length
  | [], _, h => by rw [h.unnil]; rfl
  | d :: ds, _, h => by
    obtain ⟨v, r, rfl, _, h2⟩ := h.uncons
    rw [List.length_cons, List.length_cons, RelDs.length h2]
theorem RelDs.get : ∀ {ds : List Dt} {vs : List V} {i : Nat} {d : Dt}, RelDs K H ρ ds vs → ds[i]? = some d → ∃ v, vs[i]? = some v ∧ RelD K H ρ d v
  | [], _, _, _, _, e => by simp at e
  | d :: ds, _, 0, _, h, e => by
    obtain ⟨v, r, rfl, h1, _⟩ := h.uncons
    simp at e
    subst e
    exact ⟨v, rfl, h1⟩
  | d :: ds, _, i + 1, d', h, e => by
    obtain ⟨v, r, rfl, _, h2⟩ := h.uncons
    obtain ⟨u, q1, q2⟩ := RelDs.get (i := i) h2 (by simpa using e)
    exact ⟨u, by simpa using q1, q2⟩
theorem RelDs.append : ∀ {ds es : List Dt} {vs us : List V}, RelDs K H ρ ds vs → RelDs K H ρ es us → RelDs K H ρ (ds ++ es) (vs ++ us)
  | [], _, _, _, h, h' => by rw [h.unnil]; exact h'
  | d :: ds, _, _, _, h, h' => by
    obtain ⟨v, r, rfl, h1, h2⟩ := h.uncons
    exact .cons h1 (RelDs.append h2 h')
theorem RelDs.set : ∀ {ds : List Dt} {vs : List V} {d : Dt} {v : V} (i : Nat), RelDs K H ρ ds vs → RelD K H ρ d v → RelDs K H ρ (ds.set i d) (vs.set i v)
  | [], _, _, _, _, h, _ => by rw [h.unnil]; exact .nil
  | d :: ds, _, _, _, 0, h, q => by
    obtain ⟨v, r, rfl, h1, h2⟩ := h.uncons
    exact .cons q h2
  | d :: ds, _, _, _, i + 1, h, q => by
    obtain ⟨v, r, rfl, h1, h2⟩ := h.uncons
    exact .cons h1 (RelDs.set i h2 q)
theorem RelDs.take : ∀ {ds : List Dt} {vs : List V} (n : Nat), RelDs K H ρ ds vs → RelDs K H ρ (ds.take n) (vs.take n)
  | [], _, n, h => by rw [h.unnil]; simp; exact .nil
  | d :: ds, _, 0, h => .nil
  | d :: ds, _, n + 1, h => by
    obtain ⟨v, r, rfl, h1, h2⟩ := h.uncons
    exact .cons h1 (RelDs.take n h2)
theorem RelDs.drop : ∀ {ds : List Dt} {vs : List V} (n : Nat), RelDs K H ρ ds vs → RelDs K H ρ (ds.drop n) (vs.drop n)
  | [], _, n, h => by rw [h.unnil]; simp; exact .nil
  | d :: ds, _, 0, h => h
  | d :: ds, _, n + 1, h => by
    obtain ⟨v, r, rfl, h1, h2⟩ := h.uncons
    exact RelDs.drop n h2
theorem RelDs.ints (ns : List Int) : RelDs K H ρ (ns.map Dt.int) (ns.map V.int) := by
  induction ns with
  | nil => exact .nil
  | cons n ns ih => exact .cons (by simp only [RelD]) ih
theorem RelDs.unints : ∀ {ns : List Int} {vs : List V}, RelDs K H ρ (ns.map Dt.int) vs → vs = ns.map V.int
  | [], _, h => h.unnil
  | n :: ns, _, h => by
    obtain ⟨v, r, rfl, h1, h2⟩ := RelDs.uncons h
    simp only [RelD] at h1
    rw [h1, RelDs.unints h2]
    rfl
theorem rel_int {i : Int} {v : V} : RelD K H ρ (.int i) v ↔ v = .int i := by simp only [RelD]
theorem rel_bl {i : Bool} {v : V} : RelD K H ρ (.bl i) v ↔ v = .bl i := by simp only [RelD]
theorem rel_str {i : Str} {v : V} : RelD K H ρ (.str i) v ↔ v = .str i := by simp only [RelD]
theorem rel_non {v : V} : RelD K H ρ .non v ↔ v = .non := by simp only [RelD]
theorem rel_tup {xs : List Dt} {v : V} : RelD K H ρ (.tup xs) v ↔ ∃ a vs, v = .ref a ∧ TupAt K H ρ a vs ∧ RelDs K H ρ xs vs := by simp only [RelD]
theorem rel_lst {xs : List Dt} {v : V} : RelD K H ρ (.lst xs) v ↔ ∃ a vs, v = .ref a ∧ LstAt K H ρ a vs ∧ RelDs K H ρ xs vs := by simp only [RelD]
theorem rel_ntp {xs : List Int} {v : V} : RelD K H ρ (.ntp xs) v ↔ ∃ a, v = .ref a ∧ ρ.no a ∧ H a = some (.tup (xs.map V.int)) := by simp only [RelD]
theorem rel_ref {n : Nat} {v : V} : RelD K H ρ (.ref n) v ↔ ∃ a, v = .ref a ∧ ρ.v[n]? = some a := by simp only [RelD]
end

def ObAt (K : PySem.W.Frag) (H : Hp) (ρ : Rg) (a : Addr) : Ob → Prop
  | .lst xs => ∃ vs, H a = some (.lst vs) ∧ RelDs K H ρ xs vs
  | .ins x fs => ∃ C dx vs, PySem.W.nsIn K mainGlobals x = some (some (.ref C)) ∧ H a = some (.ins C dx vs) ∧ fs.map (·.1) = vs.map (·.1) ∧ RelDs K H ρ (fs.map (·.2)) (vs.map (·.2))
  | .dk kvs => ∃ vs, H a = some (.dK vs) ∧ kvs.map (·.1) = vs.map (·.1) ∧ RelDs K H ρ (kvs.map (·.2)) (vs.map (·.2))
  | .dt kvs => ∃ vs : List (List Key × V), H a = some (.dT vs) ∧ vs.map (·.1) = kvs.map (fun p => p.1.map Sum.inl) ∧ RelDs K H ρ (kvs.map (·.2)) (vs.map (·.2))
  | .df kvs => ∃ (o : Obj) (vs : List (List Key × V)), H a = some (.frz o (.dT vs)) ∧ vs.map (·.1) = kvs.map (fun p => p.1.map Sum.inl) ∧ RelDs K H ρ (kvs.map (·.2)) (vs.map (·.2))
structure SimH (K : PySem.W.Frag) (ρ : Rg) (h : HI) (H : Hp) : Prop where
  nd : ρ.v.Nodup
  len : ρ.v.length = h.length
  ob : ∀ (n : Nat) a o, ρ.v[n]? = some a → h[n]? = some o → ObAt K H ρ a o
  zt : ∀ a ∈ ρ.z, a ∉ ρ.v ∧ ∃ vs, H a = some (.lst vs)
theorem ObAt.ext {K : PySem.W.Frag} {H H' : Hp} {ρ ρ' : Rg} {a : Addr} {o : Ob} (x : Ext ρ ρ' H H') (e : H' a = H a) (h : ObAt K H ρ a o) : ObAt K H' ρ' a o := by
  cases o with
  | lst xs =>
    obtain ⟨vs, h1, h2⟩ := h
    exact ⟨vs, e.trans h1, h2.ext x⟩
  | ins y fs =>
    obtain ⟨C, dx, vs, h0, h1, h2, h3⟩ := h
    exact ⟨C, dx, vs, h0, e.trans h1, h2, h3.ext x⟩
  | dk kvs =>
    obtain ⟨vs, h1, h2, h3⟩ := h
    exact ⟨vs, e.trans h1, h2, h3.ext x⟩
  | dt kvs =>
    obtain ⟨vs, h1, h2, h3⟩ := h
    exact ⟨vs, e.trans h1, h2, h3.ext x⟩
  | df kvs =>
    obtain ⟨o, vs, h1, h2, h3⟩ := h
    exact ⟨o, vs, e.trans h1, h2, h3.ext x⟩
theorem ObAt.some {K : PySem.W.Frag} {H : Hp} {ρ : Rg} {a : Addr} {o : Ob} (h : ObAt K H ρ a o) : ∃ u, H a = some u := by
  cases o with
  | lst xs => obtain ⟨vs, h1, _⟩ := h; exact ⟨_, h1⟩
  | ins y fs => obtain ⟨C, dx, vs, _, h1, _⟩ := h; exact ⟨_, h1⟩
  | dk kvs => obtain ⟨vs, h1, _⟩ := h; exact ⟨_, h1⟩
  | dt kvs => obtain ⟨vs, h1, _⟩ := h; exact ⟨_, h1⟩
  | df kvs => obtain ⟨o, vs, h1, _⟩ := h; exact ⟨_, h1⟩
section
variable {K : PySem.W.Frag} {H H' : Hp} {ρ : Rg} {h : HI}
theorem SimH.nil : SimH K .nil [] H := ⟨List.nodup_nil, rfl, fun _ _ _ e => by simp [Rg.nil] at e, fun _ h => nomatch h⟩
theorem SimH.tracked (S : SimH K ρ h H) {a : Addr} (ha : a ∈ ρ.v) : ∃ u, H a = some u := by
  obtain ⟨n, hn⟩ := List.mem_iff_getElem?.mp ha
  have hl : n < h.length := by rw [← S.len]; exact (List.getElem?_eq_some_iff.mp hn).1
  exact (S.ob n a _ hn (List.getElem?_eq_getElem hl)).some
theorem SimH.out (S : SimH K ρ h H) {p : Addr} (hp : H p = none) : ρ.no p := by
  refine ⟨fun ha => ?_, fun ha => ?_⟩
  · obtain ⟨u, e⟩ := S.tracked ha
    rw [hp] at e
    cases e
  · obtain ⟨_, u, e⟩ := S.zt p ha
    rw [hp] at e
    cases e
theorem SimH.fresh (S : SimH K ρ h H) {p : Addr} {o : HO} (hp : H p = none) : SimH K ρ h (upd H p o) :=
  ⟨S.nd, S.len, fun n a u e1 e2 => (S.ob n a u e1 e2).ext (Ext.fresh hp) (upd_ne (fun z => (S.out hp).1 (z ▸ List.mem_of_getElem? e1))), fun a ha => by
    obtain ⟨n, u, e⟩ := S.zt a ha
    exact ⟨n, u, by rw [upd_ne (ne_of_none e hp)]; exact e⟩⟩
theorem SimH.own (S : SimH K ρ h H) {p : Addr} {o : HO} {u : Ob} (hp : H p = none) (hu : ObAt K (upd H p o) (ρ.add p) p u) : SimH K (ρ.add p) (h ++ [u]) (upd H p o) := by
  refine ⟨?_, by simp only [Rg.add]; rw [List.length_append, List.length_append, S.len]; rfl, fun n a ob e1 e2 => ?_, fun a ha => ?_⟩
  · simp only [Rg.add]
    rw [List.nodup_append]
    refine ⟨S.nd, List.nodup_cons.mpr ⟨by simp, List.nodup_nil⟩, fun a ha b hb => ?_⟩
    rw [List.mem_singleton.mp hb]
    intro z
    exact (S.out hp).1 (z ▸ ha)
  · simp only [Rg.add] at e1
    by_cases hn : n < h.length
    · rw [List.getElem?_append_left hn] at e2
      rw [List.getElem?_append_left (by rw [S.len]; exact hn)] at e1
      exact (S.ob n a ob e1 e2).ext (Ext.own hp) (upd_ne (fun z => (S.out hp).1 (z ▸ List.mem_of_getElem? e1)))
    · have hn' : h.length ≤ n := Nat.not_lt.mp hn
      rw [List.getElem?_append_right hn'] at e2
      rw [List.getElem?_append_right (by rw [S.len]; exact hn'), S.len] at e1
      cases hk : n - h.length with
      | zero =>
        rw [hk] at e1 e2
        simp at e1 e2
        subst e1 e2
        exact hu
      | succ k =>
        rw [hk] at e2
        simp at e2
  · obtain ⟨n, u, e⟩ := S.zt a ha
    refine ⟨fun hm => ?_, u, by rw [upd_ne (ne_of_none e hp)]; exact e⟩
    simp only [Rg.add] at hm
    rcases List.mem_append.mp hm with hm | hm
    · exact n hm
    · rw [List.mem_singleton.mp hm, hp] at e
      cases e
theorem SimH.write (S : SimH K ρ h H) {n : Nat} {p : Addr} {o : HO} {u : Ob} (hn : ρ.v[n]? = some p) (nf : Nfz H p) (hu : ObAt K (upd H p o) ρ p u) : SimH K ρ (h.set n u) (upd H p o) := by
  refine ⟨S.nd, by rw [List.length_set]; exact S.len, fun m a ob e1 e2 => ?_, fun a ha => ?_⟩
  · by_cases hm : m = n
    · subst hm
      rw [hn] at e1
      cases e1
      have hl : m < h.length := by rw [← S.len]; exact (List.getElem?_eq_some_iff.mp hn).1
      rw [List.getElem?_set_self hl] at e2
      cases e2
      exact hu
    · rw [List.getElem?_set_ne (Ne.symm hm)] at e2
      refine (S.ob m a ob e1 e2).ext (Ext.write (List.mem_of_getElem? hn) nf) (upd_ne fun z => hm ?_)
      subst z
      obtain ⟨h1, q1⟩ := List.getElem?_eq_some_iff.mp e1
      obtain ⟨h2, q2⟩ := List.getElem?_eq_some_iff.mp hn
      exact (List.getElem_inj S.nd).mp (q1.trans q2.symm)
  · obtain ⟨m, w, e⟩ := S.zt a ha
    exact ⟨m, w, by rw [upd_ne (fun z => m (by rw [z]; exact List.mem_of_getElem? hn))]; exact e⟩
theorem SimH.lst (S : SimH K ρ h H) {n : Nat} {a : Addr} {xs : List Dt} (hn : ρ.v[n]? = some a) (e : h[n]? = some (.lst xs)) : ∃ vs, H a = some (.lst vs) ∧ RelDs K H ρ xs vs := S.ob n a _ hn e
end

structure SimL (K : PySem.W.Frag) (H : Hp) (ρ : Rg) (l : LI) (σ : L2.St) : Prop where
  len : l.length = σ.length
  val : ∀ (i : Nat) d, l[i]? = some (some d) → ∃ v, σ[i]? = some (some v) ∧ RelD K H ρ d v
theorem SimL.ext {K : PySem.W.Frag} {H H' : Hp} {ρ ρ' : Rg} {l : LI} {σ : L2.St} (L : SimL K H ρ l σ) (x : Ext ρ ρ' H H') : SimL K H' ρ' l σ :=
  ⟨L.len, fun i d e => let ⟨v, e1, r⟩ := L.val i d e; ⟨v, e1, RelD.ext x d r⟩⟩
theorem SimL.set {K : PySem.W.Frag} {H : Hp} {ρ : Rg} {l : LI} {σ : L2.St} (L : SimL K H ρ l σ) {d : Dt} {v : V} (i : Nat) (r : RelD K H ρ d v) : SimL K H ρ (l.set i (some d)) (σ.set i (some v)) := by
  refine ⟨by rw [List.length_set, List.length_set]; exact L.len, fun j d' e => ?_⟩
  by_cases hj : j = i
  · subst hj
    have hl : j < l.length := by
      have := (List.getElem?_eq_some_iff.mp e).1
      rwa [List.length_set] at this
    rw [List.getElem?_set_self hl] at e
    cases e
    exact ⟨v, List.getElem?_set_self (by rw [← L.len]; exact hl), r⟩
  · rw [List.getElem?_set_ne (Ne.symm hj)] at e
    rw [List.getElem?_set_ne (Ne.symm hj)]
    exact L.val j d' e

abbrev RE := LI → HI → Option (Dt × HI)
abbrev RT := LI → HI → Option (Bool × HI)
abbrev RA := LI → HI → Option (List Dt × HI)
inductive Rs where
  | nx (l : LI) (h : HI) | rt (d : Dt) (h : HI) | bk (l : LI) (h : HI) | ct (l : LI) (h : HI)
abbrev RS := LI → HI → Option Rs
abbrev Op2 := Dt → Dt → HI → Option (Dt × HI)
abbrev FnI := List Dt → HI → Option (Dt × HI)

def notStar : Expr → Bool
  | .Starred _ _ => false
  | _ => true
theorem star_of {e : Expr} (h : notStar e = true) (es : List Expr) (env : Env) : starEach (e :: es) env = (false, eval e env) :: starEach es env := by
  cases e <;> first | rfl | (exact absurd h Bool.false_ne_true)
theorem star_any {pos : Pos} {env : Env} : ∀ {es : List Expr}, es.all notStar = true → (backTo pos (starEach es env)).any (·.1) = false
  | [], _ => rfl
  | e :: es, h => by
    rw [List.all_cons, Bool.and_eq_true] at h
    have ih := star_any (pos := pos) (env := env) h.2
    rw [star_of h.1]
    unfold backTo at ih ⊢
    simp only [List.map_cons, List.any_cons, Bool.false_or]
    exact ih
theorem star_few {pos : Pos} {env : Env} {b : Expr} (h : notStar b = true) : ((backTo pos (starEach [b] env)).all (fun x => !x.1) && (backToKw pos (keywordEach [] env)).all (fun x => x.1.isSome)
      && decide ([b].length + ([] : List Keyword).length + (if ([] : List Keyword).isEmpty then 0 else 1) < 30)) = true := by
  rw [star_of h]
  rfl

def Out (K : PySem.W.Frag) (ρ : Rg) (H : Hp) (d : Dt) (h' : HI) (Q : VK) : Prop :=
  ∀ ρ' v H', RelD K H' ρ' d v → SimH K ρ' h' H' → Ext ρ ρ' H H' → Q v H'
def OutB (K : PySem.W.Frag) (ρ : Rg) (H : Hp) (h' : HI) (Q : Hp → Prop) : Prop :=
  ∀ ρ' H', SimH K ρ' h' H' → Ext ρ ρ' H H' → Q H'
def tM (K : PySem.W.Frag) (f : RE) : TE := fun σ H Q => ∃ ρ l h d h', SimH K ρ h H ∧ SimL K H ρ l σ ∧ f l h = some (d, h') ∧ Out K ρ H d h' Q
def tMT (K : PySem.W.Frag) (f : RT) : TT := fun σ H Q => ∃ ρ l h b h', SimH K ρ h H ∧ SimL K H ρ l σ ∧ f l h = some (b, h') ∧ OutB K ρ H h' (Q b)
def tMA (K : PySem.W.Frag) (f : RA) : TA := fun σ H Q => ∃ ρ l h ds h', SimH K ρ h H ∧ SimL K H ρ l σ ∧ f l h = some (ds, h') ∧ ∀ ρ' vs H', RelDs K H' ρ' ds vs → SimH K ρ' h' H' → Ext ρ ρ' H H' → Q vs H'
def rM (K : PySem.W.Frag) (op : Op2) : R2 := fun x y H Q => ∃ ρ h d1 d2 d h', SimH K ρ h H ∧ RelD K H ρ d1 x ∧ RelD K H ρ d2 y ∧ op d1 d2 h = some (d, h') ∧ Out K ρ H d h' Q
def OutS (K : PySem.W.Frag) (ρ : Rg) (H : Hp) (D : Ends) : Rs → Prop
  | .nx l h => ∀ ρ' σ' H', SimH K ρ' h H' → SimL K H' ρ' l σ' → Ext ρ ρ' H H' → D.nx σ' H'
  | .bk l h => ∀ ρ' σ' H', SimH K ρ' h H' → SimL K H' ρ' l σ' → Ext ρ ρ' H H' → D.bk σ' H'
  | .ct l h => ∀ ρ' σ' H', SimH K ρ' h H' → SimL K H' ρ' l σ' → Ext ρ ρ' H H' → D.ct σ' H'
  | .rt d h => Out K ρ H d h D.rt
def sM (K : PySem.W.Frag) (f : RS) : TS := fun D σ H => ∃ ρ l h r, SimH K ρ h H ∧ SimL K H ρ l σ ∧ f l h = some r ∧ OutS K ρ H D r
theorem Out.ext {K : PySem.W.Frag} {ρ ρ1 : Rg} {H H1 : Hp} {d : Dt} {h' : HI} {Q : VK} (k : Out K ρ H d h' Q) (x : Ext ρ ρ1 H H1) : Out K ρ1 H1 d h' Q := fun ρ' v H' r s e => k ρ' v H' r s (x.trans e)
theorem OutB.ext {K : PySem.W.Frag} {ρ ρ1 : Rg} {H H1 : Hp} {h' : HI} {Q : Hp → Prop} (k : OutB K ρ H h' Q) (x : Ext ρ ρ1 H H1) : OutB K ρ1 H1 h' Q := fun ρ' H' s e => k ρ' H' s (x.trans e)
theorem OutS.ext {K : PySem.W.Frag} {ρ ρ1 : Rg} {H H1 : Hp} {D : Ends} {r : Rs} (k : OutS K ρ H D r) (x : Ext ρ ρ1 H H1) : OutS K ρ1 H1 D r := by
  cases r with
  | nx l h => exact fun ρ' σ' H' s l e => k ρ' σ' H' s l (x.trans e)
  | bk l h => exact fun ρ' σ' H' s l e => k ρ' σ' H' s l (x.trans e)
  | ct l h => exact fun ρ' σ' H' s l e => k ρ' σ' H' s l (x.trans e)
  | rt d h => exact Out.ext k x

@[irreducible] def EM (X : Cx) (e : Expr) (f : RE) : Prop := PE X e (tM X.K f)
@[irreducible] def TM (X : Cx) (e : Expr) (f : RT) : Prop := PT X e (tMT X.K f)
@[irreducible] def WM (X : Cx) (e : Expr) (f : RT) : Prop := PW X e (tMT X.K f)
@[irreducible] def AM (X : Cx) (es : List Expr) (f : RA) : Prop := PA X es (tMA X.K f)
@[irreducible] def OM (X : Cx) (f : Value → Value → Sem Value) (op : Op2) : Prop := OpR X f (rM X.K op)
@[irreducible] def ZM (X : Cx) (st : Stmt) (f : RS) : Prop := PS X st (sM X.K f)
@[irreducible] def ZMs (X : Cx) (st : List Stmt) (f : RS) : Prop := PSs X st (sM X.K f)
theorem PE.imp {X : Cx} {e : Expr} {t t' : TE} (h : PE X e t) (i : ∀ σ H Q, t' σ H Q → t σ H Q) : PE X e t' := fun pins s σ H Q I q => h pins s σ H Q I (i σ H Q q)
theorem PT.imp {X : Cx} {e : Expr} {t t' : TT} (h : PT X e t) (i : ∀ σ H Q, t' σ H Q → t σ H Q) : PT X e t' := fun pins s σ H Q I q => h pins s σ H Q I (i σ H Q q)
theorem PW.imp {X : Cx} {e : Expr} {t t' : TT} (h : PW X e t) (i : ∀ σ H Q, t' σ H Q → t σ H Q) : PW X e t' := fun wh pins s σ H Q I q => h wh pins s σ H Q I (i σ H Q q)
theorem PA.imp {X : Cx} {e : List Expr} {t t' : TA} (h : PA X e t) (i : ∀ σ H Q, t' σ H Q → t σ H Q) : PA X e t' := fun pos pins s σ H Q I q => h pos pins s σ H Q I (i σ H Q q)
theorem PS.imp {X : Cx} {e : Stmt} {t t' : TS} (h : PS X e t) (i : ∀ D σ H, t' D σ H → t D σ H) : PS X e t' := fun pins s σ H D I q => h pins s σ H D I (i D σ H q)
theorem PSs.imp {X : Cx} {e : List Stmt} {t t' : TS} (h : PSs X e t) (i : ∀ D σ H, t' D σ H → t D σ H) : PSs X e t' := fun pins s σ H D I q => h pins s σ H D I (i D σ H q)
theorem OpR.imp {X : Cx} {f : Value → Value → Sem Value} {t t' : R2} (h : OpR X f t) (i : ∀ x y H Q, t' x y H Q → t x y H Q) : OpR X f t' := fun pins s σ H x y v u Q I r1 r2 q => h pins s σ H x y v u Q I r1 r2 (i x y H Q q)

def eC (d : Dt) : RE := fun _ h => some (d, h)
def eV (i : Nat) : RE := fun l h => match l[i]? with | some (some d) => some (d, h) | _ => none
def e2 (op : Op2) (fa fb : RE) : RE := fun l h => (fa l h).bind fun r => (fb l r.2).bind fun q => op r.1 q.1 q.2
def aNil : RA := fun _ h => some ([], h)
def aCons (f : RE) (g : RA) : RA := fun l h => (f l h).bind fun r => (g l r.2).bind fun q => some (r.1 :: q.1, q.2)
section
variable {X : Cx} {a b c : Expr} {fa fb fc : RE} {pos : Pos}
theorem em_int {i j pos} : EM X (.Constant (.int i) j pos) (eC (.int i)) := by
  with_unfolding_all
    exact PE.imp pe_int fun σ H Q ⟨ρ, l, h, d, h', S, L, e, k⟩ => by
      cases e
      exact k ρ _ H (rel_int.mpr rfl) S (Ext.refl _ _)
theorem em_bl {i j pos} : EM X (.Constant (.bool i) j pos) (eC (.bl i)) := by
  with_unfolding_all
    exact PE.imp pe_bl fun σ H Q ⟨ρ, l, h, d, h', S, L, e, k⟩ => by
      cases e
      exact k ρ _ H (rel_bl.mpr rfl) S (Ext.refl _ _)
theorem em_var (i : Nat) {x : Str} {pos : Pos} (hN : X.N[i]? = some x := by rfl) (hv : Vis X.env.scope x := by first | exact Or.inl rfl | exact Or.inr (Or.inl rfl) | exact Or.inr (Or.inr rfl)) (hd : (x == ("__debug__" : Str)) = false := by decide)
    (hcd : (x == ("__classdict__" : Str)) = false := by decide) : EM X (.Name x pos) (eV i) := by
  with_unfolding_all
    exact PE.imp (pe_var hN hv hd hcd) fun σ H Q ⟨ρ, l, h, d, h', S, L, e, k⟩ => by
      unfold eV at e
      split at e
      · rename_i d' q
        cases e
        obtain ⟨v, e1, r⟩ := L.val i _ q
        exact ⟨v, e1, k ρ v H r S (Ext.refl _ _)⟩
      · cases e
theorem em_glob {x : Str} {v : V} {u : Value} {d : Dt} {pos : Pos} (hg : Gl X x) (hm : X.mg x = some u) (r : RelV v u) (rd : ∀ H ρ, RelD X.K H ρ d v) (hd : (x == ("__debug__" : Str)) = false := by decide) : EM X (.Name x pos) (eC d) := by
  with_unfolding_all
    exact PE.imp (pe_glob hg hm r hd) fun σ H Q ⟨ρ, l, h, d', h', S, L, e, k⟩ => by
        cases e
        exact k ρ v H (rd H ρ) S (Ext.refl _ _)
theorem bindE {α β : Type} {o : Option α} {f : α → Option β} {b : β} (h : o.bind f = some b) : ∃ a, o = some a ∧ f a = some b := by
  cases o with
  | none => cases h
  | some a => exact ⟨a, rfl, h⟩
theorem em_op {op : Operator} {o : Op2} (ho : OM X (binaryOp op) o) (ha : EM X a fa) (hb : EM X b fb) : EM X (.BinOp a op b pos) (e2 o fa fb) := by
  with_unfolding_all
    exact PE.imp (pe_op ho ha hb) fun σ H Q ⟨ρ, l, h, d, h', S, L, e, k⟩ => by
        obtain ⟨⟨d1, h1⟩, e1, e⟩ := bindE e
        obtain ⟨⟨d2, h2⟩, e2, e⟩ := bindE e
        exact ⟨ρ, l, h, d1, h1, S, L, e1, fun ρ1 x H1 R1 S1 E1 => ⟨ρ1, l, h1, d2, h2, S1, L.ext E1, e2, fun ρ2 y H2 R2 S2 E2 =>
          ⟨ρ2, h2, d1, d2, d, h', S2, RelD.ext E2 _ R1, R2, e, k.ext (E1.trans E2)⟩⟩⟩
theorem em_cmp {op : CmpOp} {o : Op2} (ho : OM X (compareOp op) o) (ha : EM X a fa) (hb : EM X b fb) (hm : behindInMarks op b = false := by first | exact nomark _ | with_unfolding_all rfl) : EM X (.Compare a [op] [b] pos) (e2 o fa fb) := by
  with_unfolding_all
    exact PE.imp (pe_cmpR ho ha hb hm) fun σ H Q ⟨ρ, l, h, d, h', S, L, e, k⟩ => by
        obtain ⟨⟨d1, h1⟩, e1, e⟩ := bindE e
        obtain ⟨⟨d2, h2⟩, e2, e⟩ := bindE e
        exact ⟨ρ, l, h, d1, h1, S, L, e1, fun ρ1 x H1 R1 S1 E1 => ⟨ρ1, l, h1, d2, h2, S1, L.ext E1, e2, fun ρ2 y H2 R2 S2 E2 =>
          ⟨ρ2, h2, d1, d2, d, h', S2, RelD.ext E2 _ R1, R2, e, k.ext (E1.trans E2)⟩⟩⟩
def tB' (f : RE) : RT := fun l h => (f l h).bind fun r => match r.1 with | .bl b => some (b, r.2) | _ => none
theorem tm_cmp {op : CmpOp} {o : Op2} (ho : OM X (compareOp op) o) (ha : EM X a fa) (hb : EM X b fb) (hm : behindInMarks op b = false := by first | exact nomark _ | with_unfolding_all rfl) : TM X (.Compare a [op] [b] pos) (tB' (e2 o fa fb)) := by
  with_unfolding_all
    exact PT.imp (pt_cmpR ho ha hb hm) fun σ H Q ⟨ρ, l, h, bb, h', S, L, e, k⟩ => by
        obtain ⟨⟨d, h3⟩, e0, e⟩ := bindE e
        obtain ⟨⟨d1, h1⟩, e1, e0⟩ := bindE e0
        obtain ⟨⟨d2, h2⟩, e2, e0⟩ := bindE e0
        refine ⟨ρ, l, h, d1, h1, S, L, e1, fun ρ1 x H1 R1 S1 E1 => ⟨ρ1, l, h1, d2, h2, S1, L.ext E1, e2, fun ρ2 y H2 R2 S2 E2 =>
          ⟨ρ2, h2, d1, d2, d, h3, S2, RelD.ext E2 _ R1, R2, e0, fun ρ3 v H3 R3 S3 E3 => ?_⟩⟩⟩
        cases d with
        | bl q =>
          cases e
          exact ⟨bb, rel_bl.mp R3, k ρ3 H3 S3 (E1.trans (E2.trans E3))⟩
        | _ => cases e
theorem tm_val {e : Expr} {f : RE} (h : EM X e f) (he : ∀ whole, isTrue e X.env whole = (do let v ← whole; standAt e.pos; holding [v] (truthy v)) := by intro _; rfl) : TM X e (tB' f) := by
  with_unfolding_all
    exact PT.imp (pt_val h he) fun σ H Q ⟨ρ, l, h, bb, h', S, L, e, k⟩ => by
        obtain ⟨⟨d, h3⟩, e0, e⟩ := bindE e
        refine ⟨ρ, l, h, d, h3, S, L, e0, fun ρ3 v H3 R3 S3 E3 => ?_⟩
        cases d with
        | bl q =>
          cases e
          exact ⟨bb, rel_bl.mp R3, k ρ3 H3 S3 E3⟩
        | _ => cases e
def cChain (o o' : Op2) (fa fb fc : RE) : RE := fun l h => (fa l h).bind fun r => (fb l r.2).bind fun q => (o r.1 q.1 q.2).bind fun z => match z.1 with
  | .bl true => (fc l z.2).bind fun y => o' q.1 y.1 y.2
  | .bl false => some (.bl false, z.2)
  | _ => none
def tAnd' (t u : RT) : RT := fun l h => (t l h).bind fun r => if r.1 = true then u l r.2 else some (false, r.2)
def tOr' (t u : RT) : RT := fun l h => (t l h).bind fun r => if r.1 = true then some (true, r.2) else u l r.2
def tNot' (t : RT) : RT := fun l h => (t l h).bind fun r => some (!r.1, r.2)
variable {tA tB2 : RT} {rest : List Expr}
theorem WM.tm {e : Expr} {f : RT} (h : WM X e f) : TM X e f := by
  with_unfolding_all
    exact PW.pt h
theorem wm_and1 (ha : TM X a tA) : WM X (.BoolOp .And [a] pos) tA := by
  with_unfolding_all
    exact pw_and1 ha
theorem wm_or1 (ha : TM X a tA) : WM X (.BoolOp .Or [a] pos) tA := by
  with_unfolding_all
    exact pw_or1 ha
theorem wm_and (ha : TM X a tA) (hb : WM X (.BoolOp .And (b :: rest) pos) tB2) : WM X (.BoolOp .And (a :: b :: rest) pos) (tAnd' tA tB2) := by
  with_unfolding_all
    exact PW.imp (pw_and ha hb) fun σ H Q ⟨ρ, l, h, bb, h', S, L, e, k⟩ => by
      obtain ⟨⟨b1, h1⟩, e1, e⟩ := bindE e
      refine ⟨ρ, l, h, b1, h1, S, L, e1, fun ρ1 H1 S1 E1 => ?_⟩
      cases b1 with
      | true =>
        rw [if_pos rfl] at e
        exact iteT ⟨ρ1, l, h1, bb, h', S1, L.ext E1, e, k.ext E1⟩
      | false =>
        rw [if_neg Bool.false_ne_true] at e
        cases e
        exact iteF (k ρ1 H1 S1 E1)
theorem wm_or (ha : TM X a tA) (hb : WM X (.BoolOp .Or (b :: rest) pos) tB2) : WM X (.BoolOp .Or (a :: b :: rest) pos) (tOr' tA tB2) := by
  with_unfolding_all
    exact PW.imp (pw_or ha hb) fun σ H Q ⟨ρ, l, h, bb, h', S, L, e, k⟩ => by
      obtain ⟨⟨b1, h1⟩, e1, e⟩ := bindE e
      refine ⟨ρ, l, h, b1, h1, S, L, e1, fun ρ1 H1 S1 E1 => ?_⟩
      cases b1 with
      | true =>
        rw [if_pos rfl] at e
        cases e
        exact iteT (k ρ1 H1 S1 E1)
      | false =>
        rw [if_neg Bool.false_ne_true] at e
        exact iteF ⟨ρ1, l, h1, bb, h', S1, L.ext E1, e, k.ext E1⟩
theorem tm_not (ha : TM X a tA) : TM X (.UnaryOp .Not a pos) (tNot' tA) := by
  with_unfolding_all
    exact PT.imp (pt_not ha) fun σ H Q ⟨ρ, l, h, bb, h', S, L, e, k⟩ => by
      obtain ⟨⟨b1, h1⟩, e1, e⟩ := bindE e
      cases e
      exact ⟨ρ, l, h, b1, h1, S, L, e1, fun ρ1 H1 S1 E1 => k ρ1 H1 S1 E1⟩
def vAnd (t u : RE) : RE := fun l h => (t l h).bind fun r => match r.1 with | .bl true => u l r.2 | .bl false => some (.bl false, r.2) | _ => none
def vNot (t : RE) : RE := fun l h => (t l h).bind fun r => match r.1 with | .bl b => some (.bl (!b), r.2) | _ => none
theorem em_one {op} (h : EM X a fa) : EM X (.BoolOp op [a] pos) fa := by
  with_unfolding_all
    exact pe_one h
theorem em_and (ha : EM X a fa) (hb : EM X (.BoolOp .And (b :: rest) pos) fb) : EM X (.BoolOp .And (a :: b :: rest) pos) (vAnd fa fb) := by
  with_unfolding_all
    exact PE.imp (pe_and ha hb) fun σ H Q ⟨ρ, l, h, d, h', S, L, e, k⟩ => by
      obtain ⟨⟨d1, h1⟩, e1, e⟩ := bindE e
      refine ⟨ρ, l, h, d1, h1, S, L, e1, fun ρ1 v H1 R1 S1 E1 => ?_⟩
      cases d1 with
      | bl q =>
        refine ⟨q, rel_bl.mp R1, ?_⟩
        cases q with
        | true => exact iteT ⟨ρ1, l, h1, d, h', S1, L.ext E1, e, k.ext E1⟩
        | false =>
          cases e
          exact iteF (k ρ1 _ H1 (rel_bl.mpr rfl) S1 E1)
      | _ => cases e
theorem em_not (ha : EM X a fa) : EM X (.UnaryOp .Not a pos) (vNot fa) := by
  with_unfolding_all
    exact PE.imp (pe_not ha) fun σ H Q ⟨ρ, l, h, d, h', S, L, e, k⟩ => by
      obtain ⟨⟨d1, h1⟩, e1, e⟩ := bindE e
      refine ⟨ρ, l, h, d1, h1, S, L, e1, fun ρ1 v H1 R1 S1 E1 => ?_⟩
      cases d1 with
      | bl q =>
        cases e
        exact ⟨q, rel_bl.mp R1, k ρ1 _ H1 (rel_bl.mpr rfl) S1 E1⟩
      | _ => cases e
def vIf (t : RT) (f g : RE) : RE := fun l h => (t l h).bind fun r => if r.1 = true then f l r.2 else g l r.2
theorem em_if {c : Expr} (hc : TM X c tA) (ha : EM X a fa) (hb : EM X b fb) : EM X (.IfExp c a b pos) (vIf tA fa fb) := by
  with_unfolding_all
    exact PE.imp (pe_ifExp hc ha hb) fun σ H Q ⟨ρ, l, h, d, h', S, L, e, k⟩ => by
      obtain ⟨⟨b1, h1⟩, e1, e⟩ := bindE e
      refine ⟨ρ, l, h, b1, h1, S, L, e1, fun ρ1 H1 S1 E1 => ?_⟩
      cases b1 with
      | true =>
        rw [if_pos rfl] at e
        exact iteT ⟨ρ1, l, h1, d, h', S1, L.ext E1, e, k.ext E1⟩
      | false =>
        rw [if_neg Bool.false_ne_true] at e
        exact iteF ⟨ρ1, l, h1, d, h', S1, L.ext E1, e, k.ext E1⟩
theorem am_nil : AM X [] aNil := by
  with_unfolding_all
    exact PA.imp pa_nil fun σ H Q ⟨ρ, l, h, ds, h', S, L, e, k⟩ => by
      cases e
      exact k ρ [] H .nil S (Ext.refl _ _)
theorem am_cons {e : Expr} {es : List Expr} {f : RE} {g : RA} (ha : EM X e f) (hr : AM X es g) (hs : notStar e = true := by rfl) : AM X (e :: es) (aCons f g) := by
  with_unfolding_all
    exact PA.imp (pa_cons ha hr (star_of hs es X.env)) fun σ H Q ⟨ρ, l, h, ds, h', S, L, e, k⟩ => by
        obtain ⟨⟨d1, h1⟩, e1, e⟩ := bindE e
        obtain ⟨⟨ds2, h2⟩, e2, e⟩ := bindE e
        cases e
        exact ⟨ρ, l, h, d1, h1, S, L, e1, fun ρ1 x H1 R1 S1 E1 => ⟨ρ1, l, h1, ds2, h2, S1, L.ext E1, e2, fun ρ2 xs H2 R2 S2 E2 => k ρ2 _ H2 (.cons (RelD.ext E2 _ R1) R2) S2 (E1.trans E2)⟩⟩
def eTup (g : RA) : RE := fun l h => (g l h).bind fun r => if r.1.length ≤ sizeLine then some (.tup r.1, r.2) else none
def eLst (g : RA) : RE := fun l h => (g l h).bind fun r => if r.1.length ≤ sizeLine then some (.lst r.1, r.2) else none
def eNew (g : RA) : RE := fun l h => (g l h).bind fun r => if r.1.length ≤ sizeLine then some (.ref r.2.length, r.2 ++ [.lst r.1]) else none
theorem newTup {K : PySem.W.Frag} {H : Hp} {ρ : Rg} {h : HI} {ds : List Dt} {vs : List V} {p : Addr} (S : SimH K ρ h H) (R : RelDs K H ρ ds vs) (hp : H p = none) : RelD K (upd H p (.tup vs)) ρ (.tup ds) (.ref p) :=
  rel_tup.mpr ⟨p, vs, rfl, .inl ⟨S.out hp, .inl upd_same⟩, R.ext (Ext.fresh hp)⟩
theorem newLst {K : PySem.W.Frag} {H : Hp} {ρ : Rg} {h : HI} {ds : List Dt} {vs : List V} {p : Addr} (S : SimH K ρ h H) (R : RelDs K H ρ ds vs) (hp : H p = none) : RelD K (upd H p (.lst vs)) ρ (.lst ds) (.ref p) :=
  rel_lst.mpr ⟨p, vs, rfl, .inl ⟨S.out hp, .inl upd_same⟩, R.ext (Ext.fresh hp)⟩
theorem newRef {K : PySem.W.Frag} {H : Hp} {ρ : Rg} {h : HI} {ds : List Dt} {vs : List V} {p : Addr} (S : SimH K ρ h H) (R : RelDs K H ρ ds vs) (hp : H p = none) :
    RelD K (upd H p (.lst vs)) (ρ.add p) (.ref h.length) (.ref p) ∧ SimH K (ρ.add p) (h ++ [.lst ds]) (upd H p (.lst vs)) := by
  refine ⟨rel_ref.mpr ⟨p, rfl, ?_⟩, S.own hp ⟨vs, upd_same, R.ext (Ext.own hp)⟩⟩
  simp only [Rg.add]
  rw [← S.len, List.getElem?_append_right (Nat.le_refl _), Nat.sub_self]
  rfl
theorem ifE {α : Type} {c : Prop} [Decidable c] {a b : α} (h : (if c then some a else none) = some b) : c ∧ a = b := by
  by_cases hc : c
  · rw [if_pos hc] at h
    exact ⟨hc, Option.some.inj h⟩
  · rw [if_neg hc] at h
    cases h
theorem em_tup {es : List Expr} {g : RA} {x1} (h : AM X es g) : EM X (.Tuple es x1 pos) (eTup g) := by
  with_unfolding_all
    exact PE.imp (pe_tup h) fun σ H Q ⟨ρ, l, h, d, h', S, L, e, k⟩ => by
      obtain ⟨⟨ds, h1⟩, e1, e⟩ := bindE e
      obtain ⟨hz, e⟩ := ifE e
      cases e
      exact ⟨ρ, l, h, ds, h1, S, L, e1, fun ρ1 vs H1 R1 S1 E1 => ⟨by rw [R1.length]; exact hz, fun p hp => k ρ1 _ _ (newTup S1 R1 hp) (S1.fresh hp) (E1.trans (Ext.fresh hp))⟩⟩
theorem em_lst {es : List Expr} {g : RA} (h : AM X es g) : EM X (.List es pos) (eLst g) := by
  with_unfolding_all
    exact PE.imp (pe_lst h) fun σ H Q ⟨ρ, l, h, d, h', S, L, e, k⟩ => by
      obtain ⟨⟨ds, h1⟩, e1, e⟩ := bindE e
      obtain ⟨hz, e⟩ := ifE e
      cases e
      exact ⟨ρ, l, h, ds, h1, S, L, e1, fun ρ1 vs H1 R1 S1 E1 => ⟨by rw [R1.length]; exact hz, fun p hp => k ρ1 _ _ (newLst S1 R1 hp) (S1.fresh hp) (E1.trans (Ext.fresh hp))⟩⟩
theorem em_new {es : List Expr} {g : RA} (h : AM X es g) : EM X (.List es pos) (eNew g) := by
  with_unfolding_all
    exact PE.imp (pe_lst h) fun σ H Q ⟨ρ, l, h, d, h', S, L, e, k⟩ => by
      obtain ⟨⟨ds, h1⟩, e1, e⟩ := bindE e
      obtain ⟨hz, e⟩ := ifE e
      cases e
      exact ⟨ρ, l, h, ds, h1, S, L, e1, fun ρ1 vs H1 R1 S1 E1 => ⟨by rw [R1.length]; exact hz, fun p hp => k _ _ _ (newRef S1 R1 hp).1 (newRef S1 R1 hp).2 (E1.trans (Ext.own hp))⟩⟩
end
end SM
namespace SM
open PySem PySem.Spec PyProof.Rows L2

def oI (C : Int → Int → Prop) [∀ i j, Decidable (C i j)] (g : Int → Int → Dt) : Op2 := fun a b h => match a, b with
  | .int i, .int j => if C i j then some (g i j, h) else none
  | _, _ => none
def oI0 (g : Int → Int → Dt) : Op2 := fun a b h => match a, b with
  | .int i, .int j => some (g i j, h)
  | _, _ => none
instance : ∀ i j, Decidable (CDiv i j) := fun i j => by unfold CDiv; infer_instance
instance : ∀ i j, Decidable (CMul i j) := fun i j => by unfold CMul; infer_instance
instance : ∀ i j, Decidable (CPow i j) := fun i j => by unfold CPow; infer_instance
def flat : Dt → Option V
  | .non => some .non
  | .bl b => some (.bl b)
  | .int i => some (.int i)
  | .str x => some (.str x)
  | _ => none
theorem flat_rel {K : PySem.W.Frag} {H : Hp} {ρ : Rg} {d : Dt} {v : V} (e : flat d = some v) : RelD K H ρ d v := by
  cases d <;> simp only [flat] at e <;> first | (cases e; simp only [RelD]) | cases e
theorem rel_flat {K : PySem.W.Frag} {H : Hp} {ρ : Rg} {d : Dt} {v u : V} (e : flat d = some v) (r : RelD K H ρ d u) : u = v := by
  cases d <;> simp only [flat] at e <;> first | (cases e; simpa only [RelD] using r) | cases e
section
variable {X : Cx}
theorem om_I {f : Value → Value → Sem Value} {C : Int → Int → Prop} [∀ i j, Decidable (C i j)] {g : Int → Int → Dt} {g' : Int → Int → V} (ho : OpR X f (rI C g')) (hg : ∀ i j, flat (g i j) = some (g' i j)) : OM X f (oI C g) := by
  with_unfolding_all
    exact OpR.imp ho fun x y H Q ⟨ρ, h, d1, d2, d, h', S, R1, R2, e, k⟩ => by
        unfold oI at e
        split at e
        · rename_i i j
          obtain ⟨hc, e⟩ := ifE e
          cases e
          exact ⟨i, j, rel_int.mp R1, rel_int.mp R2, hc, k ρ _ H (flat_rel (hg i j)) S (Ext.refl _ _)⟩
        · cases e
theorem om_I0 {f : Value → Value → Sem Value} {g : Int → Int → Dt} {g' : Int → Int → V} (ho : OpR X f (rI0 g')) (hg : ∀ i j, flat (g i j) = some (g' i j)) : OM X f (oI0 g) := by
  with_unfolding_all
    exact OpR.imp ho fun x y H Q ⟨ρ, h, d1, d2, d, h', S, R1, R2, e, k⟩ => by
        unfold oI0 at e
        split at e
        · rename_i i j
          cases e
          exact ⟨i, j, rel_int.mp R1, rel_int.mp R2, k ρ _ H (flat_rel (hg i j)) S (Ext.refl _ _)⟩
        · cases e
def oAdd : Op2 := oI0 fun i j => .int (i + j)
def oSub : Op2 := oI0 fun i j => .int (i - j)
def oMul : Op2 := oI CMul fun i j => .int (i * j)
def oDiv : Op2 := oI CDiv fun i j => .int (i / j)
def oMod : Op2 := oI (fun _ j => 0 < j) fun i j => .int (i % j)
def oPow : Op2 := oI CPow fun i j => .int (i ^ j.toNat)
def oShl : Op2 := oI CPow fun i j => .int (i * 2 ^ j.toNat)
def oShr : Op2 := oI (fun _ j => 0 ≤ j) fun i j => .int (i / 2 ^ j.toNat)
def oBand : Op2 := oI0 fun i j => .int (Builtin.bitAnd i j)
def oBor : Op2 := oI0 fun i j => .int (Builtin.bitOr i j)
def oLt : Op2 := oI0 fun i j => .bl (decide (i < j))
def oLe : Op2 := oI0 fun i j => .bl (decide (i ≤ j))
def oGt : Op2 := oI0 fun i j => .bl (decide (j < i))
def oGe : Op2 := oI0 fun i j => .bl (decide (j ≤ i))
theorem om_add : OM X (binaryOp .Add) oAdd := by
  with_unfolding_all
    exact om_I0 op_add fun _ _ => rfl
theorem om_sub : OM X (binaryOp .Sub) oSub := by
  with_unfolding_all
    exact om_I0 op_sub fun _ _ => rfl
theorem om_mul : OM X (binaryOp .Mult) oMul := by
  with_unfolding_all
    exact om_I op_mul fun _ _ => rfl
theorem om_div : OM X (binaryOp .FloorDiv) oDiv := by
  with_unfolding_all
    exact om_I op_fdiv fun _ _ => rfl
theorem om_mod : OM X (binaryOp .Mod) oMod := by
  with_unfolding_all
    exact om_I op_mod fun _ _ => rfl
theorem om_pow : OM X (binaryOp .Pow) oPow := by
  with_unfolding_all
    exact om_I op_pow fun _ _ => rfl
theorem om_shl : OM X (binaryOp .LShift) oShl := by
  with_unfolding_all
    exact om_I op_shl fun _ _ => rfl
theorem om_shr : OM X (binaryOp .RShift) oShr := by
  with_unfolding_all
    exact om_I op_shr fun _ _ => rfl
theorem om_band : OM X (binaryOp .BitAnd) oBand := by
  with_unfolding_all
    exact om_I0 op_and fun _ _ => rfl
theorem om_bor : OM X (binaryOp .BitOr) oBor := by
  with_unfolding_all
    exact om_I0 op_or fun _ _ => rfl
theorem om_lt : OM X (compareOp .Lt) oLt := by
  with_unfolding_all
    exact om_I0 op_lt fun _ _ => rfl
theorem om_le : OM X (compareOp .LtE) oLe := by
  with_unfolding_all
    exact om_I0 op_le fun _ _ => rfl
theorem om_gt : OM X (compareOp .Gt) oGt := by
  with_unfolding_all
    exact om_I0 op_gt fun _ _ => rfl
theorem om_ge : OM X (compareOp .GtE) oGe := by
  with_unfolding_all
    exact om_I0 op_ge fun _ _ => rfl
def oEq : Op2 := fun a b h => match flat a, flat b with
  | some x, some y => if scal x y = true then some (.bl (decide (x = y)), h) else none
  | _, _ => none
def oNe : Op2 := fun a b h => match flat a, flat b with
  | some x, some y => if scal x y = true then some (.bl (!decide (x = y)), h) else none
  | _, _ => none
theorem om_eq : OM X (compareOp .Eq) oEq := by
  with_unfolding_all
    exact OpR.imp op_eq fun x y H Q ⟨ρ, h, d1, d2, d, h', S, R1, R2, e, k⟩ => by
      unfold oEq at e
      split at e
      · rename_i u v e1 e2
        obtain ⟨hc, e⟩ := ifE e
        cases e
        rw [rel_flat e1 R1, rel_flat e2 R2]
        exact ⟨hc, k ρ _ H (rel_bl.mpr rfl) S (Ext.refl _ _)⟩
      · cases e
theorem om_ne : OM X (compareOp .NotEq) oNe := by
  with_unfolding_all
    exact OpR.imp op_ne fun x y H Q ⟨ρ, h, d1, d2, d, h', S, R1, R2, e, k⟩ => by
      unfold oNe at e
      split at e
      · rename_i u v e1 e2
        obtain ⟨hc, e⟩ := ifE e
        cases e
        rw [rel_flat e1 R1, rel_flat e2 R2]
        exact ⟨hc, k ρ _ H (rel_bl.mpr rfl) S (Ext.refl _ _)⟩
      · cases e
def uNeg (f : RE) : RE := fun l h => (f l h).bind fun r => match r.1 with | .int i => some (.int (-i), r.2) | _ => none
theorem em_neg {a : Expr} {fa : RE} {pos : Pos} (ha : EM X a fa) : EM X (.UnaryOp .USub a pos) (uNeg fa) := by
  with_unfolding_all
    exact PE.imp (pe_un un_neg ha) fun σ H Q ⟨ρ, l, h, d, h', S, L, e, k⟩ => by
      obtain ⟨⟨d1, h1⟩, e1, e⟩ := bindE e
      refine ⟨ρ, l, h, d1, h1, S, L, e1, fun ρ1 x H1 R1 S1 E1 => ?_⟩
      cases d1 with
      | int i =>
        cases e
        exact ⟨i, rel_int.mp R1, k ρ1 _ H1 (rel_int.mpr rfl) S1 E1⟩
      | _ => cases e
end

def seqL (h : HI) : Dt → Option (List Dt)
  | .lst xs => some xs
  | .ref n => match h[n]? with | some (.lst xs) => some xs | _ => none
  | _ => none
def seqA (h : HI) : Dt → Option (List Dt)
  | .tup xs => some xs
  | d => seqL h d
theorem seqL_at {K : PySem.W.Frag} {H : Hp} {ρ : Rg} {h : HI} {d : Dt} {v : V} {xs : List Dt} (S : SimH K ρ h H) (R : RelD K H ρ d v) (e : seqL h d = some xs) : ∃ a vs, v = .ref a ∧ SqL K H a vs ∧ RelDs K H ρ xs vs := by
  cases d with
  | lst ys =>
    cases e
    obtain ⟨a, vs, e, q, r⟩ := rel_lst.mp R
    exact ⟨a, vs, e, q.sq, r⟩
  | ref n =>
    simp only [seqL] at e
    split at e
    · rename_i ys q
      cases e
      obtain ⟨a, rfl, ha⟩ := rel_ref.mp R
      obtain ⟨vs, h1, h2⟩ := S.lst ha q
      exact ⟨a, vs, rfl, SqL.of h1, h2⟩
    · cases e
  | _ => simp only [seqL] at e <;> cases e
theorem seqA_at {K : PySem.W.Frag} {H : Hp} {ρ : Rg} {h : HI} {d : Dt} {v : V} {xs : List Dt} (S : SimH K ρ h H) (R : RelD K H ρ d v) (e : seqA h d = some xs) : ∃ a vs, v = .ref a ∧ (SqL K H a vs ∨ SqT K H a vs) ∧ RelDs K H ρ xs vs := by
  cases d with
  | tup ys =>
    cases e
    obtain ⟨a, vs, e, q, r⟩ := rel_tup.mp R
    exact ⟨a, vs, e, .inr q.sq, r⟩
  | lst ys => obtain ⟨a, vs, e, q, r⟩ := seqL_at S R (show seqL h (.lst ys) = some xs from e); exact ⟨a, vs, e, .inl q, r⟩
  | ref n => obtain ⟨a, vs, e, q, r⟩ := seqL_at S R (show seqL h (.ref n) = some xs from e); exact ⟨a, vs, e, .inl q, r⟩
  | _ => cases e
theorem RelDs.atI {K : PySem.W.Frag} {H : Hp} {ρ : Rg} {ds : List Dt} {vs : List V} {i : Int} {d : Dt} (r : RelDs K H ρ ds vs) (e : L2.atI ds i = some d) : ∃ v, L2.atI vs i = some v ∧ RelD K H ρ d v := by
  unfold L2.atI at e ⊢
  rw [r.length]
  cases q : ixN ds.length i with
  | none => rw [q] at e; cases e
  | some j =>
    rw [q] at e
    exact r.get e
def oIx : Op2 := fun a b h => match b with
  | .int i => match a with
    | .str z => if z.length ≤ sizeLine then (L2.atI z.cps.toList i).map fun c => (.str ⟨#[c]⟩, h) else none
    | _ => (seqA h a).bind fun xs => (L2.atI xs i).map fun d => (d, h)
  | _ => none
section
variable {X : Cx} {a b c : Expr} {fa fb fc : RE} {pos : Pos}
theorem ix_read {x y : V} {H : Hp} {Q : VK} (h : rM X.K oIx x y H Q) : rIx X.K x y H Q := by
  obtain ⟨ρ, h, d1, d2, d, h', S, R1, R2, e, k⟩ := h
  unfold oIx at e
  split at e
  · rename_i i
    have ei := rel_int.mp R2
    split at e
    · rename_i z
      split at e
      · rename_i hz
        cases q : L2.atI z.cps.toList i with
        | none => rw [q] at e; cases e
        | some c =>
          rw [q] at e
          cases e
          exact .inr (.inr ⟨z, i, c, rel_str.mp R1, ei, hz, q, k ρ _ H (rel_str.mpr rfl) S (Ext.refl _ _)⟩)
      · cases e
    · obtain ⟨xs, e1, e⟩ := bindE e
      cases q : L2.atI xs i with
      | none => rw [q] at e; cases e
      | some u =>
        rw [q] at e
        cases e
        obtain ⟨p, vs, e2, sq, r⟩ := seqA_at S R1 e1
        obtain ⟨v, q1, q2⟩ := r.atI q
        rcases sq with sq | sq
        · exact .inl ⟨p, vs, i, v, e2, ei, sq, q1, k ρ _ H q2 S (Ext.refl _ _)⟩
        · exact .inr (.inl ⟨p, vs, i, v, e2, ei, sq, q1, k ρ _ H q2 S (Ext.refl _ _)⟩)
  · cases e
theorem em_ix (ha : EM X a fa) (hb : EM X b fb) (hs : PlainIx b := by intro _ _; rfl) : EM X (.Subscript a b pos) (e2 oIx fa fb) := by
  with_unfolding_all
    exact PE.imp (pe_ix ix_seq ha hb hs) fun σ H Q ⟨ρ, l, h, d, h', S, L, e, k⟩ => by
      obtain ⟨⟨d1, h1⟩, e1, e⟩ := bindE e
      obtain ⟨⟨d2, h2⟩, e2, e⟩ := bindE e
      exact ⟨ρ, l, h, d1, h1, S, L, e1, fun ρ1 x H1 R1 S1 E1 => ⟨ρ1, l, h1, d2, h2, S1, L.ext E1, e2, fun ρ2 y H2 R2 S2 E2 =>
        ix_read ⟨ρ2, h2, d1, d2, d, h', S2, RelD.ext E2 _ R1, R2, e, k.ext (E1.trans E2)⟩⟩⟩
end

def sNil : RS := fun l h => some (.nx l h)
def sSeq (f g : RS) : RS := fun l h => (f l h).bind fun r => match r with | .nx l' h' => g l' h' | r => some r
def sSet (i : Nat) (f : RE) : RS := fun l h => (f l h).bind fun r => some (.nx (l.set i (some r.1)) r.2)
def sDrop (f : RE) : RS := fun l h => (f l h).bind fun r => some (.nx l r.2)
def sRet (f : RE) : RS := fun l h => (f l h).bind fun r => some (.rt r.1 r.2)
def sIf (t : RT) (f g : RS) : RS := fun l h => (t l h).bind fun r => if r.1 = true then f l r.2 else g l r.2
section
variable {X : Cx} {st : Stmt} {rest : List Stmt} {e : Expr} {f : RE} {t u : RS} {c : RT} {pos : Pos}
theorem zms_nil : ZMs X [] sNil := by
  with_unfolding_all
    exact PSs.imp pss_nil fun D σ H ⟨ρ, l, h, r, S, L, e, k⟩ => by
      cases e
      exact k ρ σ H S L (Ext.refl _ _)
theorem zms_cons (h1 : ZM X st t) (h2 : ZMs X rest u) : ZMs X (st :: rest) (sSeq t u) := by
  with_unfolding_all
    exact PSs.imp (pss_cons h1 h2) fun D σ H ⟨ρ, l, h, r, S, L, e, k⟩ => by
      obtain ⟨r1, e1, e⟩ := bindE e
      refine ⟨ρ, l, h, r1, S, L, e1, ?_⟩
      cases r1 with
      | nx l' h' => exact fun ρ' σ' H' S' L' E' => ⟨ρ', l', h', r, S', L', e, k.ext E'⟩
      | rt d h' => cases e; exact k
      | bk l' h' => cases e; exact k
      | ct l' h' => cases e; exact k
theorem zms_one (h1 : ZM X st t) : ZMs X [st] t := by
  with_unfolding_all
    exact pss_one h1
theorem zm_expr (he : EM X e f) (hs : swapsWith e none pos.line X.env = pure false := by rfl) : ZM X (.Expr e pos) (sDrop f) := by
  with_unfolding_all
    exact PS.imp (ps_expr he hs) fun D σ H ⟨ρ, l, h, r, S, L, e, k⟩ => by
      obtain ⟨⟨d1, h1⟩, e1, e⟩ := bindE e
      cases e
      exact ⟨ρ, l, h, d1, h1, S, L, e1, fun ρ1 v H1 R1 S1 E1 => k ρ1 σ H1 S1 (L.ext E1) E1⟩
theorem zm_ret (he : EM X e f) : ZM X (.Return (some e) pos) (sRet f) := by
  with_unfolding_all
    exact PS.imp (ps_ret he) fun D σ H ⟨ρ, l, h, r, S, L, e, k⟩ => by
      obtain ⟨⟨d1, h1⟩, e1, e⟩ := bindE e
      cases e
      exact ⟨ρ, l, h, d1, h1, S, L, e1, k⟩
theorem zm_if {b : Expr} {ss ss' : List Stmt} (hc : TM X b c) (ha : ZMs X ss t) (hb : ZMs X ss' u) : ZM X (.If b ss ss' pos) (sIf c t u) := by
  with_unfolding_all
    exact PS.imp (ps_if hc ha hb) fun D σ H ⟨ρ, l, h, r, S, L, e, k⟩ => by
      obtain ⟨⟨b1, h1⟩, e1, e⟩ := bindE e
      refine ⟨ρ, l, h, b1, h1, S, L, e1, fun ρ1 H1 S1 E1 => ?_⟩
      cases b1 with
      | true =>
        rw [if_pos rfl] at e
        exact iteT ⟨ρ1, l, h1, r, S1, L.ext E1, e, k.ext E1⟩
      | false =>
        rw [if_neg Bool.false_ne_true] at e
        exact iteF ⟨ρ1, l, h1, r, S1, L.ext E1, e, k.ext E1⟩
theorem zm_set (i : Nat) {x : Str} {pos' : Pos} (hN : X.N.Nodup) (he : EM X e f) (hi : X.N[i]? = some x := by rfl) (hx : Loc X.env.scope x := by first | exact Or.inl rfl | exact Or.inr rfl)
    (hs : swapsWith e (some (.Name x pos')) pos.line X.env = pure false := by rfl) (hf : X.fn x = true ∨ X.env.scope.names.lookup x = some .local := by first | exact .inl rfl | exact .inr rfl | assumption) :
    ZM X (.Assign [.Name x pos'] e pos) (sSet i f) := by
  with_unfolding_all
    exact PS.imp (ps_set hN hi hx he hs hf) fun D σ H ⟨ρ, l, h, r, S, L, e, k⟩ => by
      obtain ⟨⟨d1, h1⟩, e1, e⟩ := bindE e
      cases e
      exact ⟨ρ, l, h, d1, h1, S, L, e1, fun ρ1 v H1 R1 S1 E1 => k ρ1 _ H1 S1 ((L.ext E1).set i R1) E1⟩
end

inductive Src where
  | vals (xs : List Dt)
  | rf (n : Nat)
  | zp (a b : Dt)
  | it (n : Nat)
  | en (n : Nat)
def Src.at (s : Src) (h : HI) (i : Nat) : Option (Option Dt) := match s with
  | .vals xs => some xs[i]?
  | .rf n => match h[n]? with | some (.lst xs) => some xs[i]? | _ => none
  | .zp a b => match seqL h a, seqL h b with
    | some xs, some ys => some (match xs[i]?, ys[i]? with | some x, some y => some (.tup [x, y]) | _, _ => none)
    | _, _ => none
  | .it n => match h[n]? with | some (.df kvs) => some (kvs[i]?.map fun p => .tup [.tup (p.1.map Dt.int), p.2]) | _ => none
  | .en n => match h[n]? with | some (.lst xs) => some (xs[i]?.map fun x => .tup [.int (i : Int), x]) | _ => none
def Src.fuel (s : Src) (h : HI) : Nat := match s with
  | .vals xs => xs.length + 1
  | .rf n => match h[n]? with | some (.lst xs) => xs.length + 1 | _ => 0
  | .zp a _ => match seqL h a with | some xs => xs.length + 1 | _ => 0
  | .it n => match h[n]? with | some (.df kvs) => kvs.length + 1 | _ => 0
  | .en n => match h[n]? with | some (.lst xs) => xs.length + 1 | _ => 0
abbrev RI := LI → HI → Option (Src × HI)
def SrcOk (K : PySem.W.Frag) (H : Hp) (ρ : Rg) (s : Src) (J : It) : Prop :=
  ∀ H2 ρ2 h2, Same2 ρ ρ2 H H2 → SimH K ρ2 h2 H2 → ∀ i : Nat, match s.at h2 i with
    | none => True
    | some none => J.stop i H2
    | some (some d) => J.go i H2 ∧ ∀ v H3, J.yld i H2 v H3 → RelD K H3 ρ2 d v ∧ Ext ρ2 ρ2 H2 H3 ∧ SimH K ρ2 h2 H3
def iM (K : PySem.W.Frag) (g : RI) : TI := fun σ H R => ∃ ρ l h s h', SimH K ρ h H ∧ SimL K H ρ l σ ∧ g l h = some (s, h') ∧ ∀ ρ' J H', SrcOk K H' ρ' s J → SimH K ρ' h' H' → Ext ρ ρ' H H' → R J H'
@[irreducible] def IM (X : Cx) (tg iter : Expr) (g : RI) : Prop := PI X tg iter (iM X.K g)
theorem PI.imp {X : Cx} {tg e : Expr} {t t' : TI} (h : PI X tg e t) (i : ∀ σ H Q, t' σ H Q → t σ H Q) : PI X tg e t' := fun pins s σ H Q I q => h pins s σ H Q I (i σ H Q q)
abbrev RG := Dt → LI → Option LI
def gM (K : PySem.W.Frag) (g : RG) : TG := fun v σ H Q => ∃ ρ l h d l', SimH K ρ h H ∧ SimL K H ρ l σ ∧ RelD K H ρ d v ∧ g d l = some l' ∧ ∀ σ', SimL K H ρ l' σ' → Q σ' H
@[irreducible] def GM (X : Cx) (tg : Expr) (g : RG) : Prop := PG X tg (gM X.K g)
theorem PG.imp {X : Cx} {e : Expr} {t t' : TG} (h : PG X e t) (i : ∀ v σ H Q, t' v σ H Q → t v σ H Q) : PG X e t' := fun pins s σ H v u Q I r q => h pins s σ H v u Q I r (i v σ H Q q)
def gSet (i : Nat) : RG := fun d l => some (l.set i (some d))
def forL (bd : RG) (body : RS) (s : Src) : Nat → Nat → RS
  | 0, _, _, _ => none
  | k + 1, i, l, h => match s.at h i with
    | none => none
    | some none => some (.nx l h)
    | some (some d) => (bd d l).bind fun l1 => (body l1 h).bind fun r => match r with
      | .nx l' h' => forL bd body s k (i + 1) l' h'
      | .ct l' h' => forL bd body s k (i + 1) l' h'
      | .bk l' h' => some (.nx l' h')
      | .rt d h' => some (.rt d h')
def sFor (g : RI) (bd : RG) (body : RS) : RS := fun l h => (g l h).bind fun r => forL bd body r.1 (r.1.fuel r.2) 0 l r.2
section
variable {X : Cx} {tg iter : Expr} {pos : Pos}
theorem gm_name (i : Nat) {x : Str} {pos : Pos} (hN : X.N.Nodup) (hi : X.N[i]? = some x := by rfl) (hx : Loc X.env.scope x := by first | exact Or.inl rfl | exact Or.inr rfl)
    (hf : X.fn x = true ∨ X.env.scope.names.lookup x = some .local := by first | exact .inl rfl | exact .inr rfl | assumption) : GM X (.Name x pos) (gSet i) := by
  with_unfolding_all
    exact PG.imp (pg_name hN hi hx hf) fun v σ H Q ⟨ρ, l, h, d, l', S, L, R, e, k⟩ => by
        cases e
        exact k _ (L.set i R)
def iR1 (f : RE) : RI := fun l h => (f l h).bind fun r => match r.1 with | .int j => if -(2 ^ 62) ≤ j ∧ j < 2 ^ 62 then some (.vals ((List.range j.toNat).map fun (k : Nat) => Dt.int (k : Int)), r.2) else none | _ => none
def iR2 (f g : RE) : RI := fun l h => (f l h).bind fun r => (g l r.2).bind fun q => match r.1, q.1 with
      | .int i, .int j => if -(2 ^ 62) ≤ i ∧ i < 2 ^ 62 ∧ -(2 ^ 62) ≤ j ∧ j < 2 ^ 62 then some (.vals ((List.range (j - i).toNat).map fun (k : Nat) => Dt.int (i + (k : Int))), q.2) else none | _, _ => none
theorem im_range1 {a : Expr} {f : RE} {p pos : Pos} (hg : Gl X "range") (hm : X.mg "range" = none) (ha : EM X a f) (hs : notStar a = true := by rfl) :
    IM X tg (.Call (.Name "range" p) [a] [] pos) (iR1 f) := by
  with_unfolding_all
    exact PI.imp (pi_range1 hg hm (pa_cons ha pa_nil (star_of hs _ _)) (star_of hs _ _)) fun σ H R ⟨ρ, l, h, s, h', S, L, e, k⟩ => by
        obtain ⟨⟨d1, h1⟩, e1, e⟩ := bindE e
        refine ⟨ρ, l, h, d1, h1, S, L, e1, fun ρ1 v H1 R1 S1 E1 => ?_⟩
        cases d1 with
        | int j =>
          obtain ⟨⟨c1, c2⟩, e⟩ := ifE e
          cases e
          refine ⟨j, by rw [rel_int.mp R1], c1, c2, k ρ1 _ H1 (fun H2 ρ2 h2 E2 S2 i => ?_) S1 E1⟩
          simp only [Src.at, List.getElem?_map]
          by_cases hi : i < j.toNat
          · rw [List.getElem?_range hi]
            refine ⟨hi, fun v H3 q => ?_⟩
            obtain ⟨rfl, rfl⟩ := q
            exact ⟨rel_int.mpr (by simp), Ext.refl _ _, S2⟩
          · rw [List.getElem?_eq_none (by simpa using Nat.not_lt.mp hi)]
            exact Nat.not_lt.mp hi
        | _ => cases e
theorem im_range2 {a b : Expr} {f g : RE} {p pos : Pos} (hg : Gl X "range") (hm : X.mg "range" = none) (ha : EM X a f) (hb : EM X b g) (hs : notStar a = true := by rfl) (hs2 : notStar b = true := by rfl) :
    IM X tg (.Call (.Name "range" p) [a, b] [] pos) (iR2 f g) := by
  with_unfolding_all
    exact PI.imp (pi_range2 hg hm (pa_cons ha (pa_cons hb pa_nil (star_of hs2 _ _)) (star_of hs _ _)) (by rw [star_of hs, star_of hs2]; rfl) (star_of hs2 _ _)) fun σ H R ⟨ρ, l, h, s, h', S, L, e, k⟩ => by
        obtain ⟨⟨d1, h1⟩, e1, e⟩ := bindE e
        obtain ⟨⟨d2, h2⟩, e2, e⟩ := bindE e
        refine ⟨ρ, l, h, d1, h1, S, L, e1, fun ρ1 v H1 R1 S1 E1 => ⟨ρ1, l, h1, d2, h2, S1, L.ext E1, e2, fun ρ2 u H2 R2 S2 E2 => ?_⟩⟩
        cases d1 with
        | int i =>
          cases d2 with
          | int j =>
            obtain ⟨c, e⟩ := ifE e
            cases e
            refine ⟨i, j, by rw [rel_int.mp R1, rel_int.mp R2], c, k ρ2 _ H2 (fun H3 ρ3 h3 E3 S3 n => ?_) S2 (E1.trans E2)⟩
            simp only [Src.at, List.getElem?_map]
            by_cases hi : n < (j - i).toNat
            · rw [List.getElem?_range hi]
              refine ⟨hi, fun v H4 q => ?_⟩
              obtain ⟨rfl, rfl⟩ := q
              exact ⟨rel_int.mpr rfl, Ext.refl _ _, S3⟩
            · rw [List.getElem?_eq_none (by simpa using Nat.not_lt.mp hi)]
              exact Nat.not_lt.mp hi
          | _ => cases e
        | _ => cases e
def iSeq (f : RE) : RI := fun l h => (f l h).bind fun r => match r.1 with | .lst xs => some (.vals xs, r.2) | .ref n => some (.rf n, r.2) | _ => none
def iLst (f : RE) : RI := fun l h => (iSeq f l h).bind fun r => if 0 < r.1.fuel r.2 then some r else none
theorem im_list {a : Expr} {f : RE} (ha : EM X a f) : IM X tg a (iLst f) := by
  with_unfolding_all
    exact PI.imp (pi_list ha) fun σ H R ⟨ρ, l, h, s, h', S, L, e, k⟩ => by
      obtain ⟨⟨s1, h1⟩, e, ez⟩ := bindE e
      obtain ⟨hz, ez⟩ := ifE ez
      cases ez
      obtain ⟨⟨d1, h2⟩, e1, e⟩ := bindE e
      refine ⟨ρ, l, h, d1, h2, S, L, e1, fun ρ1 v H1 R1 S1 E1 => ?_⟩
      cases d1 with
      | lst xs =>
        cases e
        obtain ⟨a, vs, rfl, q, r⟩ := rel_lst.mp R1
        refine ⟨a, rfl, ⟨vs, q.sq⟩, k ρ1 _ H1 (fun H2 ρ2 h2 E2 S2 i => ?_) S1 E1⟩
        have q2 := q.same E2
        have r2 := RelDs.same E2 _ r
        simp only [Src.at]
        cases ei : xs[i]? with
        | none =>
          refine ⟨vs, q2.sq, ?_⟩
          rw [r.length]
          exact List.getElem?_eq_none_iff.mp ei
        | some d =>
          obtain ⟨v, g1, g2⟩ := r2.get ei
          refine ⟨⟨vs, v, q2.sq, g1⟩, fun u H3 y => ?_⟩
          obtain ⟨rfl, y⟩ := y
          have y2 := y vs q2.sq
          rw [g1] at y2
          cases y2
          exact ⟨g2, Ext.refl _ _, S2⟩
      | ref n =>
        cases e
        obtain ⟨a, rfl, ha⟩ := rel_ref.mp R1
        simp only [Src.fuel] at hz
        split at hz
        · rename_i xs q0
          obtain ⟨vs0, g0, _⟩ := S1.lst ha q0
          refine ⟨a, rfl, ⟨vs0, SqL.of g0⟩, k ρ1 _ H1 (fun H2 ρ2 h2 E2 S2 i => ?_) S1 E1⟩
          have ha2 := E2.ix _ _ ha
          simp only [Src.at]
          split
          · trivial
          · rename_i y
            split at y
            · rename_i ys q2
              obtain ⟨vs, g1, r⟩ := S2.lst ha2 q2
              refine ⟨vs, SqL.of g1, ?_⟩
              rw [r.length]
              exact List.getElem?_eq_none_iff.mp (Option.some.inj y)
            · cases y
          · rename_i d y
            split at y
            · rename_i ys q2
              obtain ⟨vs, g1, r⟩ := S2.lst ha2 q2
              obtain ⟨v, z1, z2⟩ := r.get (Option.some.inj y)
              refine ⟨⟨vs, v, SqL.of g1, z1⟩, fun u H3 y => ?_⟩
              obtain ⟨rfl, y⟩ := y
              have y2 := y vs (SqL.of g1)
              rw [z1] at y2
              cases y2
              exact ⟨z2, Ext.refl _ _, S2⟩
            · cases y
        · exact absurd hz (by omega)
      | _ => cases e
theorem zm_for {body : List Stmt} {g : RI} {bd : RG} {f : RS} (hp : PassesOwn (model X.prog X.w) X.A X.env X.xe) (hc : X.calm = true) (hi : IM X tg iter g) (hg : GM X tg bd) (hb : ZMs X body f)
    (hs : ∀ x, foldedSetIterable iter X.env x = pure x := by intro _; rfl) : ZM X (.For tg iter body [] pos) (sFor g bd f) := by
  with_unfolding_all
    exact PS.imp (ps_for hp hc hi hg hb hs) fun D σ H ⟨ρ, l, h, r, S, L, e, k⟩ => by
      obtain ⟨⟨s, h1⟩, e1, e⟩ := bindE e
      refine ⟨ρ, l, h, s, h1, S, L, e1, fun ρ1 J H1 ok S1 E1 => ?_⟩
      refine ⟨fun i m σ' H' => ∃ ρ' l' h', SimH X.K ρ' h' H' ∧ SimL X.K H' ρ' l' σ' ∧ Ext ρ1 ρ' H1 H' ∧ forL bd f s m i l' h' = some r, ⟨_, ρ1, l, h1, S1, L.ext E1, Ext.refl _ _, e⟩, ?_⟩
      rintro i m σ' H' ⟨ρ', l', h', S', L', E', e'⟩
      cases m with
      | zero => simp only [forL] at e'; cases e'
      | succ m =>
        simp only [forL] at e'
        have ok' := ok H' ρ' h' E'.same S' i
        cases q : s.at h' i with
        | none => rw [q] at e'; cases e'
        | some o =>
          rw [q] at e' ok'
          cases o with
          | none =>
            cases e'
            exact .inl ⟨ok', k ρ' σ' H' S' L' (E1.trans E')⟩
          | some d =>
            dsimp only at e'
            obtain ⟨l1, b1, e'⟩ := bindE e'
            obtain ⟨r1, b2, e'⟩ := bindE e'
            refine .inr ⟨ok'.1, fun σ2 H2 => ∃ m', m' < m + 1 ∧ ∃ ρ' l' h', SimH X.K ρ' h' H2 ∧ SimL X.K H2 ρ' l' σ2 ∧ Ext ρ1 ρ' H1 H2 ∧ forL bd f s m' (i + 1) l' h' = some r, fun σ2 H2 q => q, fun v H3 y => ?_⟩
            obtain ⟨R3, E3, S3⟩ := ok'.2 v H3 y
            refine ⟨ρ', l', h', d, l1, S3, L'.ext E3, R3, b1, fun σ4 L4 => ⟨ρ', l1, h', r1, S3, L4, b2, ?_⟩⟩
            cases r1 with
            | nx l2 h2 => exact fun ρ5 σ5 H5 S5 L5 E5 => ⟨m, Nat.lt_succ_self _, ρ5, l2, h2, S5, L5, E'.trans (E3.trans E5), e'⟩
            | ct l2 h2 => exact fun ρ5 σ5 H5 S5 L5 E5 => ⟨m, Nat.lt_succ_self _, ρ5, l2, h2, S5, L5, E'.trans (E3.trans E5), e'⟩
            | bk l2 h2 =>
              cases e'
              exact fun ρ5 σ5 H5 S5 L5 E5 => k ρ5 σ5 H5 S5 L5 (E1.trans (E'.trans (E3.trans E5)))
            | rt d2 h2 =>
              cases e'
              exact fun ρ5 v5 H5 R5 S5 E5 => k ρ5 v5 H5 R5 S5 (E1.trans (E'.trans (E3.trans E5)))
end

def fnI (n N : Nat) (body : RS) : FnI := fun ds h => if ds.length = n then match body (ds.map some ++ List.replicate (N - n) none) h with
    | some (.rt d h') => some (d, h')
    | some (.nx _ h') => some (.non, h')
    | _ => none
  else none
def spM (K : PySem.W.Frag) (n : Nat) (F : FnI) : Sp := fun vs H Q _ => ∃ ρ ds h d h', SimH K ρ h H ∧ RelDs K H ρ ds vs ∧ ds.length = n ∧ F ds h = some (d, h') ∧ Out K ρ H d h' Q
section
variable {P : Program} {w : World} {K : PySem.W.Frag} {mg : Str → Option Value} {base : Heap}
theorem start_sim {H : Hp} {ρ : Rg} {N : List Str} {ds : List Dt} {vs : List V} (R : RelDs K H ρ ds vs) : SimL K H ρ (ds.map some ++ List.replicate (N.length - ds.length) none) (L2.start N vs) := by
  have hl := R.length
  refine ⟨by simp [L2.start, hl], fun i d e => ?_⟩
  by_cases hi : i < ds.length
  · rw [List.getElem?_append_left (by simpa using hi), List.getElem?_map] at e
    cases q : ds[i]? with
    | none => rw [q] at e; cases e
    | some d' =>
      rw [q] at e
      cases e
      obtain ⟨v, g1, g2⟩ := R.get q
      refine ⟨v, ?_, g2⟩
      unfold L2.start
      rw [List.getElem?_append_left (by simpa [hl] using hi), List.getElem?_map, g1]
      rfl
  · rw [List.getElem?_append_right (by simpa using Nat.not_lt.mp hi), List.getElem?_replicate] at e
    split at e <;> cases e
theorem fn_ok {x qual : Str} {st : Stmt} {f : Addr} {fd : FuncData} {N ps : List Str} {k : Nat} {body : RS} (F : Fun K x qual st f fd) (S : FnScope N ps (defScope st))
    (hb : ∀ (cdv : Value) (A : Around) (outer : List Env) (s : Shared) (H : Hp) (E : XK), Room k (A.deeper (envOfC qual (defScope st) s.heap.objs.size f cdv)) →
      ZMs (cxOf CX0 P w K mg base N qual (defScope st) f cdv A outer s H E).nox (defBody st) body) : FnOk P w K mg base CX0 (k + 1) f fd ps (spM K ps.length (fnI ps.length N.length body)) := by
  with_unfolding_all
    refine F.ok S (fun vs H Q E h => ?_) (fun cdv A outer s H vs Q E hr h => ?_)
    · obtain ⟨ρ, ds, h, d, h', S, R, hl, _⟩ := h
      rw [R.length, hl]
    · obtain ⟨ρ, ds, h, d, h', S, R, hl, e, k⟩ := h
      refine ⟨_, hb cdv A outer s H E hr, ?_⟩
      unfold fnI at e
      rw [if_pos hl] at e
      rw [← hl] at e
      split at e
      · rename_i d1 h1 q
        cases e
        exact ⟨ρ, _, h, _, S, start_sim R, q, k⟩
      · rename_i l1 h1 q
        cases e
        exact ⟨ρ, _, h, _, S, start_sim R, q, fun ρ' σ' H' S' L' E' => k ρ' _ H' (rel_non.mpr rfl) S' E'⟩
      · cases e
end
def eCall (F : FnI) (dds : List Dt) (g : RA) : RE := fun l h => (g l h).bind fun r => F (r.1 ++ dds) r.2
section
variable {X : Cx} {k n : Nat} {f : Addr} {fd : FuncData} {ps : List Str} {F : FnI} {x : Str} {p pos : Pos} {e : Expr} {es : List Expr} {g : RA} {dvs : List V} {ds : List Value} {dds : List Dt}
theorem em_callD (hF : FnOk X.prog X.w X.K X.mg X.base CX0 k f fd ps (spM X.K n F)) (hr : Room k X.A) (hg : Gl X x) (hm : X.mg x = some (.ref f)) (hk : PySem.W.keepIn X.K (.ref f) = true) (hb : Binds X.K fd ps ds) (hd : Vals dvs ds) (hdd : ∀ H ρ, RelDs X.K H ρ dds dvs)
    (ha : AM X (e :: es) g) (hn : ∀ (F' : List Dt → HI → Option (Dt × HI)), F' = F → ∀ ds h r, F' ds h = some r → ds.length = n) (hdb : (x == ("__debug__" : Str)) = false := by decide) (he : notStar e = true := by rfl) (hpl : es.all notStar = true := by rfl) :
    EM X (.Call (.Name x p) (e :: es) [] pos) (eCall F dds g) := by
  with_unfolding_all
    exact PE.imp (pe_call hF hr hg hm hk hb hd (E := E0) pass0 ha hdb (star_of he _ _) (star_any hpl)) fun σ H Q ⟨ρ, l, h, d, h', S, L, e, k⟩ => by
      obtain ⟨⟨ds1, h1⟩, e1, e⟩ := bindE e
      exact ⟨ρ, l, h, ds1, h1, S, L, e1, fun ρ1 vs H1 R1 S1 E1 => ⟨ρ1, _, h1, d, h', S1, R1.append (hdd H1 ρ1), hn F rfl _ _ _ e, e, k.ext E1⟩⟩
theorem fnI_len {n N : Nat} {body : RS} {ds : List Dt} {h : HI} {r : Dt × HI} (e : fnI n N body ds h = some r) : ds.length = n := by
  unfold fnI at e
  split at e
  · assumption
  · cases e
def eCall0 (F : FnI) (dds : List Dt) : RE := fun _ h => F dds h
theorem em_call0D (hF : FnOk X.prog X.w X.K X.mg X.base CX0 k f fd ps (spM X.K n F)) (hr : Room k X.A) (hg : Gl X x) (hm : X.mg x = some (.ref f)) (hk : PySem.W.keepIn X.K (.ref f) = true) (hb : Binds X.K fd ps ds) (hd : Vals dvs ds) (hdd : ∀ H ρ, RelDs X.K H ρ dds dvs)
    (hn : ∀ (F' : List Dt → HI → Option (Dt × HI)), F' = F → ∀ ds h r, F' ds h = some r → ds.length = n) (hdb : (x == ("__debug__" : Str)) = false := by decide) :
    EM X (.Call (.Name x p) [] [] pos) (eCall0 F dds) := by
  with_unfolding_all
    exact PE.imp (pe_call0 hF hr hg hm hk hb hd (E := E0) pass0 hdb) fun σ H Q ⟨ρ, l, h, d, h', S, L, e, k⟩ => by
      exact ⟨ρ, dds, h, d, h', S, hdd H ρ, hn F rfl _ _ _ e, e, k⟩
end
end SM
namespace L2
open PySem PySem.Spec PyProof.Rows

def closG (cells : List (Str × Addr)) : List (Str × NameKind) → List (Str × Addr) → Option (List (Str × Addr))
  | [], cs => some cs
  | (n, k) :: r, cs => if k == .free then match cells.lookup n with
      | some a => closG cells r ((n, a) :: cs)
      | none => none
    else closG cells r cs
theorem closG_ok {env : Env} : ∀ {l : List (Str × NameKind)} {cs cl : List (Str × Addr)}, closG env.cells l cs = some cl →
    (forIn l cs fun (x : Str × NameKind) (r : List (Str × Addr)) => if (x.2 == NameKind.free) = true then (do let a ← cellOf env x.1; pure (ForInStep.yield ((x.1, a) :: r)) : Sem _) else pure (ForInStep.yield r)) = pure cl
  | [], cs, cl, h => by
    simp only [closG] at h
    cases h
    rfl
  | (n, k) :: r, cs, cl, h => by
    simp only [closG] at h
    rw [List.forIn_cons]
    cases hk : k == NameKind.free with
    | true =>
      rw [hk, if_pos rfl] at h
      cases hc : env.cells.lookup n with
      | none => rw [hc] at h; cases h
      | some a =>
        rw [hc] at h
        have ih := closG_ok (env := env) h
        simp only [hk, if_true]
        have e : cellOf env n = pure a := by unfold cellOf; rw [hc]
        rw [e]
        simp only [pure_bind]
        exact ih
    | false =>
      rw [hk, if_neg (by decide)] at h
      have ih := closG_ok (env := env) h
      simp only [hk, Bool.false_eq_true, if_false, pure_bind]
      exact ih
theorem closG_clos {scope : Scope} {env : Env} {cl : List (Str × Addr)} (h : closG env.cells scope.names [] = some cl) : closureFor scope env = pure cl := by
  have e := closG_ok (env := env) h
  unfold closureFor
  simp only [bind_pure]
  exact e
theorem closG_sub {cells : List (Str × Addr)} : ∀ {l : List (Str × NameKind)} {cs cl : List (Str × Addr)}, closG cells l cs = some cl → (∀ x c, cs.lookup x = some c → cells.lookup x = some c) →
    (∀ x c, cl.lookup x = some c → cells.lookup x = some c) ∧ (∀ x c, cs.lookup x = some c → ∃ c', cl.lookup x = some c') ∧ ∀ n, (n, NameKind.free) ∈ l → ∃ c, cl.lookup n = some c
  | [], cs, cl, h, i => by
    simp only [closG] at h
    cases h
    exact ⟨i, fun x c e => ⟨c, e⟩, fun n hn => nomatch hn⟩
  | (n, k) :: r, cs, cl, h, i => by
    simp only [closG] at h
    cases hk : k == NameKind.free with
    | true =>
      rw [hk, if_pos rfl] at h
      cases hc : cells.lookup n with
      | none => rw [hc] at h; cases h
      | some a =>
        rw [hc] at h
        have i' : ∀ x c, ((n, a) :: cs).lookup x = some c → cells.lookup x = some c := fun x c e => by
          rw [List.lookup_cons] at e
          cases hx : x == n with
          | true =>
            rw [hx] at e
            cases e
            rw [eq_of_beq hx]
            exact hc
          | false =>
            rw [hx] at e
            exact i x c e
        obtain ⟨h1, h2, h3⟩ := closG_sub h i'
        refine ⟨h1, fun x c e => ?_, fun m hm => ?_⟩
        · cases hx : x == n with
          | true => exact h2 x a (by rw [List.lookup_cons, hx])
          | false => exact h2 x c (by rw [List.lookup_cons, hx]; exact e)
        · rcases List.mem_cons.mp hm with z | z
          · cases z
            exact h2 _ a (by rw [List.lookup_cons, beq_self_eq_true])
          · exact h3 m z
    | false =>
      rw [hk, if_neg (by decide)] at h
      obtain ⟨h1, h2, h3⟩ := closG_sub h i
      refine ⟨h1, h2, fun m hm => ?_⟩
      rcases List.mem_cons.mp hm with z | z
      · cases z
        cases hk
      · exact h3 m z

def cxComp (X : Cx) (Nc : List Str) (scope : Scope) (cl : List (Str × Addr)) (C : Addr) (s0 : Shared) (H0 : Hp) (fp : List Addr) : Cx :=
  { X with N := Nc, s₀ := s0, H₀ := H0, env := compEnvC scope cl C X.env, outer := X.stack, stack := X.stack, ex := fp, fn := fun _ => false, pn := [], xe := fun _ _ => False }

theorem relabel_free {env : Env} : ∀ {names : List (Str × NameKind)} {x : Str}, (∀ y ∈ names, y.2 ≠ .cell) →
    ((names.map fun (n, k) => if (k == NameKind.free && env.scope.kind == .function && env.kindOf n == some .cell) then (n, NameKind.cell) else (n, k)).lookup x = some .cell ∨
     (names.map fun (n, k) => if (k == NameKind.free && env.scope.kind == .function && env.kindOf n == some .cell) then (n, NameKind.cell) else (n, k)).lookup x = some .free) → (x, NameKind.free) ∈ names
  | [], _, _, h => by simp at h
  | (n, k) :: r, x, hc, h => by
    have ih := @relabel_free env r x (fun y hy => hc y (List.mem_cons_of_mem _ hy))
    have hk : k ≠ .cell := hc (n, k) List.mem_cons_self
    rw [List.map_cons] at h
    cases hx : x == n with
    | true =>
      have ex := eq_of_beq hx
      subst ex
      by_cases hf : k = .free
      · subst hf
        exact List.mem_cons_self
      · have hb : (k == NameKind.free) = false := by simpa using hf
        simp only [hb, Bool.false_and, Bool.false_eq_true, if_false, List.lookup_cons, beq_self_eq_true] at h
        rcases h with h | h
        · exact absurd (Option.some.inj h) hk
        · exact absurd (Option.some.inj h) hf
    | false =>
      refine List.mem_cons_of_mem _ (ih ?_)
      by_cases hq : (k == NameKind.free && env.scope.kind == .function && env.kindOf n == some .cell) = true
      · simp only [hq, if_true, List.lookup_cons, hx] at h
        exact h
      · rw [Bool.not_eq_true] at hq
        simp only [hq, Bool.false_eq_true, if_false, List.lookup_cons, hx] at h
        exact h

def CapOk (X : Cx) (scope : Scope) (cl : List (Str × Addr)) : List Str → List (Option Nat) → Prop
  | [], [] => True
  | _ :: N, none :: cs => CapOk X scope cl N cs
  | x :: N, some j :: cs => (X.N[j]? = some x ∧ (X.env.kindOf x = some .cell ∨ X.env.kindOf x = some .free) ∧ ((relabel scope X.env).names.lookup x = some .cell ∨ (relabel scope X.env).names.lookup x = some .free) ∧
      cl.lookup x = X.env.cells.lookup x) ∧ CapOk X scope cl N cs
  | _, _ => False
def capOf (σ : St) (cap : List (Option Nat)) : St := cap.map fun o => match o with | some j => (σ[j]?).join | none => none
theorem CapOk.get {X : Cx} {scope : Scope} {cl : List (Str × Addr)} : ∀ {N : List Str} {cs : List (Option Nat)}, CapOk X scope cl N cs → ∀ {i j : Nat} {x : Str}, N[i]? = some x → cs[i]? = some (some j) →
    X.N[j]? = some x ∧ (X.env.kindOf x = some .cell ∨ X.env.kindOf x = some .free) ∧ ((relabel scope X.env).names.lookup x = some .cell ∨ (relabel scope X.env).names.lookup x = some .free) ∧ cl.lookup x = X.env.cells.lookup x
  | [], [], _, i, j, x, h, _ => by simp at h
  | y :: N, none :: cs, h, 0, j, x, _, e => by simp at e
  | y :: N, none :: cs, h, i + 1, j, x, e1, e2 => CapOk.get (N := N) (cs := cs) h (i := i) (by simpa using e1) (by simpa using e2)
  | y :: N, some k :: cs, h, 0, j, x, e1, e2 => by
    simp at e1 e2
    subst e1 e2
    exact h.1
  | y :: N, some k :: cs, h, i + 1, j, x, e1, e2 => CapOk.get (N := N) (cs := cs) h.2 (i := i) (by simpa using e1) (by simpa using e2)
  | [], _ :: _, h, _, _, _, _, _ => h.elim
  | _ :: _, [], h, _, _, _, _, _ => h.elim
theorem CapOk.length {X : Cx} {scope : Scope} {cl : List (Str × Addr)} : ∀ {N : List Str} {cs : List (Option Nat)}, CapOk X scope cl N cs → cs.length = N.length
  | [], [], _ => rfl
  | y :: N, none :: cs, h => by rw [List.length_cons, List.length_cons, CapOk.length (N := N) (cs := cs) h]
  | y :: N, some k :: cs, h => by rw [List.length_cons, List.length_cons, CapOk.length (N := N) (cs := cs) h.2]
  | [], _ :: _, h => h.elim
  | _ :: _, [], h => h.elim

def PIfs (X : Cx) (ifs : List Expr) (t : TT) : Prop :=
  ∀ (pins : List (Addr × Obj)) (s : Shared) (σ : St) (H : Hp) (Q : Bool → Hp → Prop), Inv X pins σ H s → t σ H Q →
    wpAny (model X.prog X.w) X.A (forIn ifs true fun c r => if r = true then do let ok ← isTrue c X.env (eval c X.env); pure (ForInStep.yield ok) else pure (ForInStep.yield r)) (TP X pins σ Q) X.xe s
theorem pifs_nil {X : Cx} : PIfs X [] (fun _ H Q => Q true H) := fun _ _ _ H _ I q => wpAny_tests_nil ⟨H, I, q⟩
theorem pifs_one {X : Cx} {c : Expr} {t : TT} (h : PT X c t) : PIfs X [c] t := fun pins s σ H Q I q => wpAny_tests_one (h pins s σ H Q I q)

def tComp (wi : TI) (g : TG) (tc : TT) (te : TE) (cap : List (Option Nat)) : TE := fun σ H Q => wi σ H fun J H1 => ∀ D, H1 D = none → ∃ W : Nat → Nat → St → List V → Hp → Prop,
  (∃ m, W 0 m (capOf σ cap) [] (upd H1 D (.lst []))) ∧ ∀ i m σ' ys H', W i m σ' ys H' →
    (J.stop i H' ∧ Q (.ref D) H') ∨ (J.go i H' ∧ ∀ x H2, J.yld i H' x H2 → g x σ' H2 fun σ2 H3 => tc σ2 H3 fun b H4 => if b = true then te σ2 H4 fun y H5 =>
      H5 D = some (.lst ys) ∧ ys.length < sizeLine ∧ ∃ m', m' < m ∧ W (i + 1) m' σ2 (ys ++ [y]) (upd H5 D (.lst (ys ++ [y]))) else ∃ m', m' < m ∧ W (i + 1) m' σ2 ys H4)

section
variable {prog : Program} {w : World} {A : Around} {R : Result → Shared → Prop} {s : Shared}
theorem compLoop_any {elt target iter : Expr} {ifs : List Expr} {scope : Scope} {pos : Pos} {it acc : Value} {env : Env} (I : Nat → Shared → Prop)
    (turn : ∀ n s, I n s → wpAny (model prog w) A (pyNext it) (fun r s₁ => match r with
      | none => R (.ok .next) s₁
      | some v => wpAny (model prog w) A (letOwnedTupleGo target it v) (fun _ s₁' => wpAny (model prog w) A (assign target env v) (fun _ s₂ =>
          wpAny (model prog w) A (forIn ifs true fun c r => if r = true then do let ok ← isTrue c env (eval c env); pure (ForInStep.yield ok) else pure (ForInStep.yield r)) (fun ok s₃ =>
            if ok = true then wpAny (model prog w) A (eval elt env) (fun x s₄ =>
              wpAny (model prog w) A (call (.builtin "list.append") [acc, x]) (fun _ s₅ => ∃ m, m < n ∧ I m s₅) (fun _ _ => False) s₄) (fun _ _ => False) s₃
            else ∃ m, m < n ∧ I m s₃) (fun _ _ => False) s₂) (fun _ _ => False) s₁') (fun _ _ => False) s₁) (fun _ _ => False) s)
    (n : Nat) (h : I n s) : codeAny (model prog w) A (.compLoop (.ListComp elt [⟨target, iter, ifs, 0⟩] scope pos) 0 it acc env) R s := by
  refine codeAny_loop rfl I (fun n s hI => ?_) n h
  show wpAny _ A ((compTurn (.ListComp elt [⟨target, iter, ifs, 0⟩] scope pos) 0 it acc env).onRaise (fun x => do noteFrame x env; theTreesLotGoes x)) _ _ s
  refine wpAny_noted ?_
  rw [compTurn_list]
  refine wpAny_bind (wpAny_standAt (wpAny_bind (wpAny_mono (turn n s hI) (fun r s₁ h₁ => ?_) fun _ _ h' => h'.elim)))
  cases r with
  | none => exact wpAny_pure h₁
  | some v =>
    refine wpAny_bind (wpAny_mono h₁ (fun _ s₁' h₁' => ?_) fun _ _ h' => h'.elim)
    refine wpAny_bind (wpAny_mono h₁' (fun _ s₂ h₂ => wpAny_bind (wpAny_mono h₂ (fun ok s₃ h₃ => ?_) fun _ _ h' => h'.elim)) fun _ _ h' => h'.elim)
    cases ok with
    | false => exact wpAny_pure ⟨rfl, h₃⟩
    | true =>
      exact wpAny_bind (wpAny_bind (wpAny_mono h₃ (fun x s₄ h₄ => wpAny_bind (wpAny_mono h₄ (fun _ s₅ h₅ => wpAny_pure (wpAny_pure ⟨rfl, h₅⟩)) fun _ _ h' => h'.elim)) fun _ _ h' => h'.elim))
end

section
variable {X : Cx} {elt iter tg : Expr} {ifs : List Expr} {scope : Scope} {cl : List (Str × Addr)} {pos : Pos} {Nc : List Str} {wi : TI} {g : TG} {tc : TT} {te : TE} {cap : List (Option Nat)}
theorem comp_block {pins : List (Addr × Obj)} {σ : St} {H : Hp} {s : Shared} {it : Addr} {fp : List Addr} {tn : Nat → Heap → Prop} {J : It} {Q : VK} {RR : Value → Addr → Result → Shared → Prop} {E : Value → Shared → Prop}
    (hc : X.calm = true) (hcl : closG X.env.cells scope.names [] = some cl) (hcell : ∀ y ∈ scope.names, y.2 ≠ .cell) (hkind : scope.kind = .function) (hcap : CapOk X scope cl Nc cap)
    (hg : ∀ C s0 H0 fp, PG (cxComp X Nc scope cl C s0 H0 fp) tg g) (ht : ∀ C s0 H0 fp, PIfs (cxComp X Nc scope cl C s0 H0 fp) ifs tc) (he : ∀ C s0 H0 fp, PE (cxComp X Nc scope cl C s0 H0 fp) elt te)
    (I : Inv X pins σ H s) (T : Turn X.prog X.w X.K tg J fp it tn) (st : tn 0 s.heap) (hf : ∀ b ∈ fp, FpOk X pins H b)
    (read : ∀ D, H D = none → ∃ W : Nat → Nat → St → List V → Hp → Prop,
      (∃ m, W 0 m (capOf σ cap) [] (upd H D (.lst []))) ∧ ∀ i m σ' ys H', W i m σ' ys H' →
        (J.stop i H' ∧ Q (.ref D) H') ∨ (J.go i H' ∧ ∀ x H2, J.yld i H' x H2 → g x σ' H2 fun σ2 H3 => tc σ2 H3 fun b H4 => if b = true then te σ2 H4 fun y H5 =>
          H5 D = some (.lst ys) ∧ ys.length < sizeLine ∧ ∃ m', m' < m ∧ W (i + 1) m' σ2 (ys ++ [y]) (upd H5 D (.lst (ys ++ [y]))) else ∃ m', m' < m ∧ W (i + 1) m' σ2 ys H4))
    (hRR : ∀ (C D : Addr) (s' : Shared) (H' : Hp) m, Inv X pins σ H' s' → s'.heap.Ns C m → H' C = none → C ≠ X.env.locals → X.s₀.heap.objs.size ≤ C → (∀ x c, X.env.cells.lookup x = some c → c ≠ C) → (∀ p ∈ X.pn ++ pins, p.1 ≠ C) → Q (.ref D) H' → RR (.ref D) C (.ok .next) s') :
    wpAny (model X.prog X.w) X.A (newList []) (fun acc s₃ => wpAny (model X.prog X.w) X.A (newFunctionEnv scope X.env.globals cl [] X.env.qual none .none (some X.env)) (fun cenv s₄ =>
      codeAny (model X.prog X.w) X.A (.compStart (.ListComp elt [⟨tg, iter, ifs, 0⟩] scope pos) 0 (.ref it) acc { cenv with scope := relabel scope X.env }) (RR acc cenv.locals) s₄) E s₃) E s := by
  obtain ⟨sub, _, hasC⟩ := closG_sub hcl (fun _ _ e => by simp at e)
  refine wpAny_newObj_type (wpAny_newFunctionEnv hcell (by intro y hy; simp at hy) (fun h₁ hns₁ hsb₁ => ?_) hkind)
  have hD := I.fresh
  have I3 : Inv X pins σ (upd H s.heap.objs.size (.lst [])) { s with heap := s.heap.push { cls := .type "list", data := .seq ([] : List Value).toArray } } := I.lnew (ys := []) (its := []) (t' := s.toks) .nil (Nat.zero_le _)
  generalize hs3 : ({ s with heap := s.heap.push { cls := .type "list", data := .seq ([] : List Value).toArray } } : Shared) = s3 at I3
  generalize hH3 : upd H s.heap.objs.size (.lst []) = H3 at I3
  have hh3 : s3.heap = s.heap.push { cls := .type "list", dict := none, data := .seq ([] : List Value).toArray } := by rw [← hs3]
  dsimp only at hns₁ hsb₁ ⊢
  rw [← hh3] at hns₁ hsb₁
  -- C, the block's own names
  have hCn : H3 s3.heap.objs.size = none := I3.fresh
  have hCL : s3.heap.objs.size ≠ X.env.locals := fun z => by
    have := I3.lt
    rw [← z] at this
    exact Nat.lt_irrefl _ this
  have hC0 : X.s₀.heap.objs.size ≤ s3.heap.objs.size := I3.sz
  have cellLt : ∀ x c, X.env.cells.lookup x = some c → c < s3.heap.objs.size := fun x c e => by
    obtain ⟨v, o, ho, _⟩ := I3.cell x c e
    exact Heap.lt_size ho
  have hCc : ∀ x c, X.env.cells.lookup x = some c → c ≠ s3.heap.objs.size := fun x c e z => by
    have := cellLt x c e
    rw [z] at this
    exact Nat.lt_irrefl _ this
  have hCp : ∀ p ∈ X.pn ++ pins, p.1 ≠ s3.heap.objs.size := fun p hp z => by
    have := Heap.lt_size (I3.pin p hp).1
    rw [z] at this
    exact Nat.lt_irrefl _ this
  have fpLt : ∀ b ∈ fp, b < s.heap.objs.size := fun b hb => by
    obtain ⟨o, e, _⟩ := T.obj 0 _ st b hb
    exact Heap.lt_size e
  have sz3 : s3.heap.objs.size = s.heap.objs.size + 1 := by rw [hh3, Heap.size_push]
  have old : ∀ b o, s3.heap.get? b = some o → h₁.get? b = some o := fun b o e => hsb₁.extBut b o (Nat.ne_of_lt (Heap.lt_size e)) (Heap.get?_push_of_some _ e)
  have old0 : ∀ b o, s.heap.get? b = some o → s3.heap.get? b = some o := fun b o e => by
    rw [hh3]
    exact Heap.get?_push_of_some _ e
  have fpH : ∀ b ∈ fp, H3 b = none := fun b hb => by
    rw [← hH3, upd_ne (Nat.ne_of_lt (fpLt b hb))]
    exact (hf b hb).1
  -- the context is well made
  have okY : (cxComp X Nc scope cl s3.heap.objs.size s3 H3 fp).Ok := by
    refine ⟨I3.ok.mod, hkind, I3.ok.glob, I3.ok.blt, Nat.le_refl _, fun x y c e1 e2 => I3.ok.inj x y c (sub x c e1) (sub y c e2), fun x hx => ?_, fun x c e _ => absurd e Bool.false_ne_true, I3.ok.hd, I3.ok.frames, .inl rfl, fun b hb => ⟨?_, fun x c e => ?_⟩, fun b o e => I3.bs b o e, ?_, fun b o e => ?_, fun b hb => ?_, I3.stack, I3.stkFree⟩
    · exact hasC x (relabel_free hcell hx)
    · intro z
      have := fpLt b hb
      have z' : b = s3.heap.objs.size := z
      rw [z', sz3] at this
      exact absurd this (Nat.not_lt.mpr (Nat.le_succ _))
    · exact (hf b hb).2.2.2.2.1 x c (sub x c e)
    · exact Nat.le_trans I3.ok.bsz I3.sz
    · intro hb
      have h1 := (hf b hb).2.2.2.1
      have h2 := I3.ok.bs b o e
      rcases h1 with z | z
      · exact I3.ok.noex b o e z
      · exact absurd (Nat.lt_of_lt_of_le (Heap.lt_size h2.1) z) (Nat.lt_irrefl _)
    · intro z
      rcases List.mem_cons.mp (I3.stkSub b z) with z | z
      · exact (hf b hb).2.1 z
      · exact (hf b hb).2.2.1 z
  have IY : Inv (cxComp X Nc scope cl s3.heap.objs.size s3 H3 fp) [] (capOf σ cap) H3 { s3 with heap := h₁, toks := s3.toks + ([] : List (Str × Value)).length } := by
    refine ⟨okY, rfl, I3.bare, Un.kept old, ⟨_, hns₁, fun i x v e1 e2 _ => ?_⟩, fun x c e => ?_, hCn, fun x c e => I3.freeC x c (sub x c e), fun p hp => absurd hp (by simp [cxComp]), I3.hok.kept old, ?_⟩
    · have e2' : (capOf σ cap)[i]? = some (some v) := e2
      unfold capOf at e2'
      rw [List.getElem?_map] at e2'
      cases q : cap[i]? with
      | none => rw [q] at e2'; cases e2'
      | some o =>
        rw [q] at e2'
        cases o with
        | none => cases e2'
        | some j =>
          have e3 : (σ[j]?).join = some v := by simpa using e2'
          have e4 : σ[j]? = some (some v) := by
            cases z : σ[j]? with
            | none => rw [z] at e3; cases e3
            | some y => rw [z] at e3; simpa using e3
          obtain ⟨n1, n2, n3, n4⟩ := hcap.get e1 q
          obtain ⟨m, _, hl⟩ := I3.loc
          have hv : Vis X.env.scope x := .inr n2
          obtain ⟨u, r, lk⟩ := hl j x v n1 e4 hv
          refine ⟨u, r, .inr ⟨n3, ?_⟩⟩
          rcases lk with ⟨k, _⟩ | ⟨_, c, ec, ob, z1, z2⟩
          · rcases n2 with n2 | n2 <;> rw [k] at n2 <;> cases n2
          · exact ⟨c, n4.trans ec, ob, old c ob z1, z2⟩
    · obtain ⟨v, o, z1, z2⟩ := I3.cell x c (sub x c e)
      exact ⟨v, o, old c o z1, z2⟩
    · show (capOf σ cap).length = Nc.length
      unfold capOf
      rw [List.length_map]
      exact hcap.length
  obtain ⟨W, ⟨m0, w0⟩, turn⟩ := read s.heap.objs.size hD
  rw [hH3] at w0
  have st1 : tn 0 h₁ := T.keep 0 _ _ st fun b _ o e => old b o (old0 b o e)
  have fpY : ∀ {H' : Hp}, (∀ b ∈ fp, H' b = none) → ∀ b ∈ fp, FpOk (cxComp X Nc scope cl s3.heap.objs.size s3 H3 fp) [] H' b := fun hn b hb =>
    ⟨hn b hb, (okY.exf b hb).1, okY.exfs b hb, .inl hb, fun x c e => (okY.exf b hb).2 x c e, fun p hp => absurd hp (by simp [cxComp])⟩
  have loop : codeAny (model X.prog X.w) X.A (.compLoop (.ListComp elt [⟨tg, iter, ifs, 0⟩] scope pos) 0 (.ref it) (.ref s.heap.objs.size) (compEnvC scope cl s3.heap.objs.size X.env)) (RR (.ref s.heap.objs.size) s3.heap.objs.size)
      { s3 with heap := h₁, toks := s3.toks + ([] : List (Str × Value)).length } := by
    refine compLoop_any (fun n s' => ∃ i σ' ys H', Inv (cxComp X Nc scope cl s3.heap.objs.size s3 H3 fp) [] σ' H' s' ∧ tn i s'.heap ∧ (∀ b ∈ fp, H' b = none) ∧ W i n σ' ys H') ?_ m0 ⟨0, _, [], H3, IY, st1, fpH, w0⟩
    rintro n s4 ⟨i, σ4, ys, H4, I4, st4, fr4, w4⟩
    rcases turn i n σ4 ys H4 w4 with ⟨stop, qn⟩ | ⟨go, step⟩
    · refine thn (T.done (cxComp X Nc scope cl s3.heap.objs.size s3 H3 fp) rfl rfl rfl hc i [] s4 σ4 H4 _ I4 (fpY fr4) st4 stop) fun r s5 ⟨hr, I5⟩ => ?_
      subst hr
      have I6 : Inv X pins σ H4 s5 := I3.call' (ch := fp) I5.os I5.base I5.hok I5.bare fun b hb => ⟨(hf b hb).2.2.2.1, (hf b hb).2.1, (hf b hb).2.2.2.2.1, (hf b hb).2.2.2.2.2⟩
      obtain ⟨m, hn, _⟩ := I5.loc
      exact hRR _ _ s5 H4 m I6 hn I5.free hCL hC0 hCc hCp qn
    · refine thn (T.item (cxComp X Nc scope cl s3.heap.objs.size s3 H3 fp) rfl rfl rfl hc i [] s4 σ4 H4 _ I4 (fpY fr4) st4 go) fun r s5 ⟨u, hr, h5⟩ => ?_
      subst hr
      refine thn h5 fun _ s6 ⟨x, H6, I6, r6, y6, st6, fr6⟩ => ?_
      have I6' := I6.pinned (fpY fr6) (T.obj _ _ st6)
      refine thn (hg _ _ _ _ _ s6 σ4 H6 x u _ I6' r6 (step x H6 y6)) fun _ s7 ⟨σ7, H7, I7, q7⟩ => ?_
      refine thn (ht _ _ _ _ _ s7 σ7 H7 _ I7 q7) fun b s8 ⟨H8, I8, q8⟩ => ?_
      have again : ∀ {σ9 : St} {H9 : Hp} {s9 : Shared} {ys9 : List V}, Inv (cxComp X Nc scope cl s3.heap.objs.size s3 H3 fp) ([] ++ pinsAt fp s6.heap) σ9 H9 s9 → (∃ m', m' < n ∧ W (i + 1) m' σ9 ys9 H9) →
          ∃ m', m' < n ∧ ∃ i σ' ys H', Inv (cxComp X Nc scope cl s3.heap.objs.size s3 H3 fp) [] σ' H' s9 ∧ tn i s9.heap ∧ (∀ b ∈ fp, H' b = none) ∧ W i m' σ' ys H' := fun {σ9 H9 s9 ys9} I9 ⟨m', hm, w9⟩ => by
        refine ⟨m', hm, i + 1, σ9, ys9, H9, I9.unpinned, T.keep _ _ _ st6 fun b hb o e => (I9.pin (b, o) (List.mem_append_right _ (List.mem_append_right _ (mem_pinsAt hb e)))).1, fun b hb => ?_, w9⟩
        obtain ⟨o, e, d⟩ := T.obj _ _ st6 b hb
        exact (I9.pin (b, o) (List.mem_append_right _ (List.mem_append_right _ (mem_pinsAt hb e)))).2.1
      cases b with
      | false =>
        rw [if_neg Bool.false_ne_true] at q8 ⊢
        exact again I8 q8
      | true =>
        rw [if_pos rfl] at q8 ⊢
        refine thn (he _ _ _ _ _ s8 σ7 H8 _ I8 q8) fun y s9 ⟨v, H9, I9, r9, d9, z9, w9⟩ => ?_
        refine thn (mt_append (X := cxComp X Nc scope cl s3.heap.objs.size s3 H3 fp) _ s9 σ7 H9 (.ref s.heap.objs.size) [v] (.ref s.heap.objs.size) [y] (fun _ H' => H' = upd H9 s.heap.objs.size (.lst (ys ++ [v]))) I9 rfl (.cons r9 .nil) ⟨_, ys, v, rfl, rfl, d9, z9, rfl⟩) fun _ s10 ⟨_, H10, I10, _, e10⟩ => ?_
        subst e10
        exact again I10 w9
  exact codeAny_compStart_list loop (T.self X.A 0 _ _ _ st1 loop)
theorem pe_comp (hc : X.calm = true) (hi : PI X tg iter wi) (hcl : closG X.env.cells scope.names [] = some cl) (hcell : ∀ y ∈ scope.names, y.2 ≠ .cell) (hkind : scope.kind = .function)
    (hnames : ∀ y ∈ scope.names, y.2 = .local → scope.names.lookup y.1 = some .local) (hcap : CapOk X scope cl Nc cap)
    (hg : ∀ C s0 H0 fp, PG (cxComp X Nc scope cl C s0 H0 fp) tg g) (ht : ∀ C s0 H0 fp, PIfs (cxComp X Nc scope cl C s0 H0 fp) ifs tc) (he : ∀ C s0 H0 fp, PE (cxComp X Nc scope cl C s0 H0 fp) elt te)
    (hs : ∀ x, foldedSetIterable iter X.env x = pure x := by intro _; rfl) : PE X (.ListComp elt [⟨tg, iter, ifs, 0⟩] scope pos) (tComp wi g tc te cap) := by
  intro pins s σ H Q I h
  rw [eval_ListComp]
  refine wpAny_comprehension_free (use := none) rfl hs (closG_clos hcl) hkind hnames (thn (hi pins s σ H _ I h) fun v s1 h1 => thn h1 fun itv s2 h2 => ?_)
  obtain ⟨it, fp, tn, J, H2, e, I2, T, st2, f2, read⟩ := h2
  subst e
  refine comp_block hc hcl hcell hkind hcap hg ht he I2 T st2 f2 read fun C D s' H' m I' hn n1 n2 n3 n4 n5 q => ?_
  refine ⟨m, hn, fun h' hs' => ⟨.ref D, H', ?_, rfl, q⟩⟩
  exact I'.turned (t' := s'.toks) (fun b o hb e => hs'.extBut b o hb e) n1 n2 (.inr n3) n4 n5
theorem ps_setComp {i : Nat} {y : Str} {py spos : Pos} (hc : X.calm = true) (hN : X.N.Nodup) (hiN : X.N[i]? = some y) (hy : X.env.scope.names.lookup y = some .local) (hi : PI X tg iter wi) (hcl : closG X.env.cells scope.names [] = some cl) (hcell : ∀ y ∈ scope.names, y.2 ≠ .cell) (hkind : scope.kind = .function)
    (hnames : ∀ y ∈ scope.names, y.2 = .local → scope.names.lookup y.1 = some .local) (hcap : CapOk X scope cl Nc cap)
    (hg : ∀ C s0 H0 fp, PG (cxComp X Nc scope cl C s0 H0 fp) tg g) (ht : ∀ C s0 H0 fp, PIfs (cxComp X Nc scope cl C s0 H0 fp) ifs tc) (he : ∀ C s0 H0 fp, PE (cxComp X Nc scope cl C s0 H0 fp) elt te)
    (hsw : swapsWith (.ListComp elt [⟨tg, iter, ifs, 0⟩] scope pos) (some (.Name y py)) spos.line X.env = pure true)
    (hs : ∀ x, foldedSetIterable iter X.env x = pure x := by intro _; rfl) : PS X (.Assign [.Name y py] (.ListComp elt [⟨tg, iter, ifs, 0⟩] scope pos) spos) (tAsg (tComp wi g tc te cap) (gName i)) := by
  intro pins s σ H D I h
  rw [exec_Assign_Name_used _ _ _ _ hsw]
  refine wpAny_bind (wpAny_standAt (wpAny_bind ?_))
  show wpAny _ X.A (do let _ ← comprehension (.ListComp elt [⟨tg, iter, ifs, 0⟩] scope pos) scope X.env _ (newList []) false (eval iter X.env) (some (assign (.Name y py) X.env))) _ _ s
  refine wpAny_bind (wpAny_mono (wpAny_comprehension_free (use := some (assign (.Name y py) X.env)) (Q := fun _ s' => SP X pins D .next s') rfl hs (closG_clos hcl) hkind hnames
    (thn (hi pins s σ H _ I h) fun v s1 h1 => thn h1 fun itv s2 h2 => ?_)) (fun _ s' hq => wpAny_pure (wpAny_pure hq)) fun _ _ e => e)
  obtain ⟨it, fp, tn, J, H2, e, I2, T, st2, f2, read⟩ := h2
  subst e
  refine comp_block (Q := fun x H1 => gName i x σ H1 D.nx) hc hcl hcell hkind hcap hg ht he I2 T st2 f2 read fun C Dd s' H' m I' hn n1 n2 n3 n4 n5 q => ?_
  show wpAny _ X.A (assign (.Name y py) X.env (.ref Dd)) _ _ _
  refine wpAny_assign_Name (store_ok2 I' hN hiN (.inl hy) (v := .ref Dd) rfl (fun s4 I4 ⟨a, sb, ha⟩ => ?_) (.inr hy))
  have hCa : C ≠ a := by
    rcases ha with ha | ha
    · rw [ha]; exact n2
    · exact fun z => n4 _ _ ha z.symm
  refine ⟨m, hn.sameBut sb hCa, fun h' hs' => ⟨_, H', ?_, q⟩⟩
  exact I4.turned (t' := s4.toks) (fun b o hb e => hs'.extBut b o hb e) n1 n2 (.inr n3) n4 n5
end
end L2

namespace SM
open PySem PySem.Spec PyProof.Rows L2
def compL (bd : RG) (tc : RT) (te : RE) (s : Src) : Nat → Nat → LI → HI → List Dt → Option (List Dt × HI)
  | 0, _, _, _, _ => none
  | k + 1, i, l, h, ys => match s.at h i with
    | none => none
    | some none => some (ys, h)
    | some (some d) => (bd d l).bind fun l1 => (tc l1 h).bind fun b => if b.1 = true then (te l1 b.2).bind fun r => if ys.length < sizeLine then compL bd tc te s k (i + 1) l1 r.2 (ys ++ [r.1]) else none
      else compL bd tc te s k (i + 1) l1 b.2 ys
def capI (l : LI) (cap : List (Option Nat)) : LI := cap.map fun o => match o with | some j => (l[j]?).join | none => none
def eComp (g : RI) (bd : RG) (tc : RT) (te : RE) (cap : List (Option Nat)) : RE := fun l h => (g l h).bind fun r => (compL bd tc te r.1 (r.1.fuel r.2) 0 (capI l cap) r.2 []).bind fun q => some (.lst q.1, q.2)
def eCompN (g : RI) (bd : RG) (tc : RT) (te : RE) (cap : List (Option Nat)) : RE := fun l h => (g l h).bind fun r => (compL bd tc te r.1 (r.1.fuel r.2) 0 (capI l cap) r.2 []).bind fun q => some (.ref q.2.length, q.2 ++ [.lst q.1])
def tTrue : RT := fun _ h => some (true, h)
theorem cap_sim {K : PySem.W.Frag} {H : Hp} {ρ : Rg} {l : LI} {σ : L2.St} (L : SimL K H ρ l σ) (cap : List (Option Nat)) : SimL K H ρ (capI l cap) (capOf σ cap) := by
  refine ⟨by simp [capI, capOf], fun i d e => ?_⟩
  unfold capI at e
  unfold capOf
  rw [List.getElem?_map] at e ⊢
  cases q : cap[i]? with
  | none => rw [q] at e; cases e
  | some o =>
    rw [q] at e
    cases o with
    | none => cases e
    | some j =>
      have e3 : (l[j]?).join = some d := by simpa using e
      have e4 : l[j]? = some (some d) := by
        cases z : l[j]? with
        | none => rw [z] at e3; cases e3
        | some y => rw [z] at e3; simpa using e3
      obtain ⟨v, g1, g2⟩ := L.val j d e4
      refine ⟨v, ?_, g2⟩
      simp [g1]
section
variable {X : Cx} {elt iter tg : Expr} {ifs : List Expr} {scope : Scope} {cl : List (Str × Addr)} {pos : Pos} {Nc : List Str} {g : RI} {bd : RG} {tc : RT} {te : RE} {cap : List (Option Nat)}
@[irreducible] def CM (X : Cx) (ifs : List Expr) (f : RT) : Prop := PIfs X ifs (tMT X.K f)
theorem cm_nil : CM X [] tTrue := by
  with_unfolding_all
    exact fun pins s σ H Q I q => by
      obtain ⟨ρ, l, h, b, h', S, L, e, k⟩ := q
      cases e
      exact pifs_nil pins s σ H Q I (k ρ H S (Ext.refl _ _))
theorem cm_one {c : Expr} {f : RT} (h : TM X c f) : CM X [c] f := by
  with_unfolding_all
    exact pifs_one h
end
section
variable {K : PySem.W.Frag} {H : Hp} {ρ : Rg} {p : Addr} {o : HO} {h : HI}
theorem no_hide {a : Addr} {u : HO} (hp : H p = none) (e : H a = some u) (n : ρ.no a) : (ρ.hide p).no a :=
  ⟨n.1, fun z => by
    rcases List.mem_cons.mp z with z | z
    · rw [z, hp] at e
      cases e
    · exact n.2 z⟩
theorem Ext.unhide {τ : Rg} {H' : Hp} (x : Ext (ρ.hide p) τ H H') : ∃ ρ', τ = ρ'.hide p ∧ Ext ρ ρ' H H' := by
  refine ⟨⟨τ.v, ρ.z⟩, ?_, ⟨x.pre, rfl, x.keep, x.live, x.fz⟩⟩
  have e := x.hid
  cases τ with
  | mk v z =>
    have e' : z = p :: ρ.z := e
    subst e'
    rfl
theorem Ext.updNew {ρ' : Rg} {H' : Hp} (x : Ext ρ ρ' H H') (hp : H p = none) : Ext ρ ρ' H (upd H' p o) :=
  ⟨x.pre, x.hid, fun a u e n => by rw [upd_ne (ne_of_none e hp)]; exact x.keep a u e n, fun a e => by
    by_cases ha : a = p
    · rw [ha]
      exact hp
    · rw [upd_ne ha] at e
      exact x.live a e, fun a q u e => by rw [upd_ne (ne_of_none e hp)]; exact x.fz a q u e⟩
theorem ObAt.same {ρ' : Rg} {H' : Hp} {a : Addr} {u : Ob} (x : Same2 ρ ρ' H H') (e : H' a = H a) (q : ObAt K H ρ a u) : ObAt K H' ρ' a u := by
  cases u with
  | lst xs =>
    obtain ⟨vs, h1, h2⟩ := q
    exact ⟨vs, e.trans h1, RelDs.same x _ h2⟩
  | ins y fs =>
    obtain ⟨C, dx, vs, h0, h1, h2, h3⟩ := q
    exact ⟨C, dx, vs, h0, e.trans h1, h2, RelDs.same x _ h3⟩
  | dk kvs =>
    obtain ⟨vs, h1, h2, h3⟩ := q
    exact ⟨vs, e.trans h1, h2, RelDs.same x _ h3⟩
  | dt kvs =>
    obtain ⟨vs, h1, h2, h3⟩ := q
    exact ⟨vs, e.trans h1, h2, RelDs.same x _ h3⟩
  | df kvs =>
    obtain ⟨o, vs, h1, h2, h3⟩ := q
    exact ⟨o, vs, e.trans h1, h2, RelDs.same x _ h3⟩
theorem SimL.same {ρ' : Rg} {H' : Hp} {l : LI} {σ : L2.St} (x : Same2 ρ ρ' H H') (L : SimL K H ρ l σ) : SimL K H' ρ' l σ :=
  ⟨L.len, fun i d e => let ⟨v, e1, r⟩ := L.val i d e; ⟨v, e1, RelD.same x d r⟩⟩
theorem same_hide (hp : H p = none) : Same2 ρ (ρ.hide p) H (upd H p o) :=
  ⟨fun _ _ e n => no_hide hp e n, fun a u e _ => by rw [upd_ne (ne_of_none e hp)]; exact e, fun _ _ e => e, fun a q u e => by rw [upd_ne (ne_of_none e hp)]; exact e⟩
theorem same_write {o : HO} (nf : Nfz H p) : Same2 (ρ.hide p) (ρ.hide p) H (upd H p o) :=
  ⟨fun _ _ _ n => n, fun a u e n => by rw [upd_ne (fun z => n.2 (by rw [z]; exact List.mem_cons_self))]; exact e, fun _ _ e => e, fun a q u e => by rw [upd_ne (fun z : a = p => nf q u (by rw [← z]; exact e))]; exact e⟩
theorem same_show : Same2 (ρ.hide p) ρ H H := ⟨fun _ _ _ n => ⟨n.1, fun z => n.2 (List.mem_cons_of_mem _ z)⟩, fun _ _ e _ => e, fun _ _ e => e, fun _ _ _ e => e⟩
theorem same_own : Same2 (ρ.hide p) (ρ.add p) H H :=
  ⟨fun a _ _ n => ⟨fun z => (List.mem_append.mp z).elim n.1 fun z => n.2 (by rw [List.mem_singleton.mp z]; exact List.mem_cons_self), fun z => n.2 (List.mem_cons_of_mem _ z)⟩, fun _ _ e _ => e, fun n a e => by
    have e' : ρ.v[n]? = some a := e
    have := (List.getElem?_eq_some_iff.mp e').1
    show (ρ.v ++ [p])[n]? = some a
    rw [List.getElem?_append_left this]
    exact e', fun _ _ _ e => e⟩
theorem SimH.hide {xs : List V} (S : SimH K ρ h H) (hp : H p = none) : SimH K (ρ.hide p) h (upd H p (.lst xs)) :=
  ⟨S.nd, S.len, fun n a u e1 e2 => (S.ob n a u e1 e2).same (same_hide hp) (upd_ne (fun z => (S.out hp).1 (z ▸ List.mem_of_getElem? e1))), fun a ha => by
    rcases List.mem_cons.mp ha with z | z
    · rw [z]
      exact ⟨(S.out hp).1, xs, upd_same⟩
    · obtain ⟨m, u, e⟩ := S.zt a z
      exact ⟨m, u, by rw [upd_ne (ne_of_none e hp)]; exact e⟩⟩
theorem SimH.hwrite {xs : List V} (S : SimH K (ρ.hide p) h H) : SimH K (ρ.hide p) h (upd H p (.lst xs)) :=
  ⟨S.nd, S.len, fun n a u e1 e2 => (S.ob n a u e1 e2).same (same_write (nfz (S.zt p List.mem_cons_self).2.choose_spec)) (upd_ne (fun z => (S.zt p List.mem_cons_self).1 (z ▸ List.mem_of_getElem? e1))), fun a ha => by
    obtain ⟨m, u, e⟩ := S.zt a ha
    by_cases hap : a = p
    · subst hap
      exact ⟨m, xs, upd_same⟩
    · exact ⟨m, u, by rw [upd_ne hap]; exact e⟩⟩
theorem SimH.show (S : SimH K (ρ.hide p) h H) : SimH K ρ h H :=
  ⟨S.nd, S.len, fun n a u e1 e2 => (S.ob n a u e1 e2).same same_show rfl, fun a ha => S.zt a (List.mem_cons_of_mem _ ha)⟩
theorem SimH.show_own (S : SimH K (ρ.hide p) h H) (hz : p ∉ ρ.z) {ds : List Dt} {vs : List V} (e : H p = some (.lst vs)) (R : RelDs K H (ρ.hide p) ds vs) : SimH K (ρ.add p) (h ++ [.lst ds]) H := by
  have nv := (S.zt p List.mem_cons_self).1
  refine ⟨?_, by simp only [Rg.add]; rw [List.length_append, List.length_append, ← S.len]; rfl, fun n a ob e1 e2 => ?_, fun a ha => ?_⟩
  · simp only [Rg.add]
    rw [List.nodup_append]
    refine ⟨S.nd, List.nodup_cons.mpr ⟨by simp, List.nodup_nil⟩, fun a ha b hb => ?_⟩
    rw [List.mem_singleton.mp hb]
    intro z
    exact nv (z ▸ ha)
  · simp only [Rg.add] at e1
    have hl : ρ.v.length = h.length := S.len
    by_cases hn : n < h.length
    · rw [List.getElem?_append_left hn] at e2
      rw [List.getElem?_append_left (by rw [hl]; exact hn)] at e1
      exact (S.ob n a ob e1 e2).same same_own rfl
    · have hn' : h.length ≤ n := Nat.not_lt.mp hn
      rw [List.getElem?_append_right hn'] at e2
      rw [List.getElem?_append_right (by rw [hl]; exact hn'), hl] at e1
      cases hk : n - h.length with
      | zero =>
        rw [hk] at e1 e2
        simp at e1 e2
        subst e1 e2
        exact ⟨vs, e, RelDs.same same_own _ R⟩
      | succ k =>
        rw [hk] at e2
        simp at e2
  · obtain ⟨n, u, e'⟩ := S.zt a (List.mem_cons_of_mem _ ha)
    refine ⟨fun hm => ?_, u, e'⟩
    rcases List.mem_append.mp hm with hm | hm
    · exact n hm
    · exact hz ((List.mem_singleton.mp hm) ▸ ha)
end
section
variable {X : Cx} {elt iter tg : Expr} {ifs : List Expr} {scope : Scope} {cl : List (Str × Addr)} {pos : Pos} {Nc : List Str} {g : RI} {bd : RG} {tc : RT} {te : RE} {cap : List (Option Nat)}
theorem comp_read {σ : L2.St} {H : Hp} {Q : VK} (own : Bool) {d : Dt} {h' : HI} {ρ : Rg} {l : LI} {h : HI} (S : SimH X.K ρ h H) (L : SimL X.K H ρ l σ)
    (e : (if own = true then eCompN g bd tc te cap else eComp g bd tc te cap) l h = some (d, h')) (k : Out X.K ρ H d h' Q) : tComp (iM X.K g) (gM X.K bd) (tMT X.K tc) (tM X.K te) cap σ H Q := by
  have e0 : ∃ s1 h1, g l h = some (s1, h1) ∧ ∃ ys h2, compL bd tc te s1 (s1.fuel h1) 0 (capI l cap) h1 [] = some (ys, h2) ∧ h' = (if own = true then h2 ++ [.lst ys] else h2) ∧ d = (if own = true then .ref h2.length else .lst ys) := by
    cases own with
    | true =>
      rw [if_pos rfl] at e
      obtain ⟨⟨s1, h1⟩, e1, e⟩ := bindE e
      obtain ⟨⟨ys, h2⟩, e2, e⟩ := bindE e
      cases e
      exact ⟨s1, h1, e1, ys, h2, e2, rfl, rfl⟩
    | false =>
      rw [if_neg Bool.false_ne_true] at e
      obtain ⟨⟨s1, h1⟩, e1, e⟩ := bindE e
      obtain ⟨⟨ys, h2⟩, e2, e⟩ := bindE e
      cases e
      exact ⟨s1, h1, e1, ys, h2, e2, rfl, rfl⟩
  obtain ⟨s1, h1, e1, zs, h2, e2, eh, ed⟩ := e0
  refine ⟨ρ, l, h, s1, h1, S, L, e1, fun ρ1 J H1 ok S1 E1 D hD => ?_⟩
  have hDz : D ∉ ρ1.z := (S1.out hD).2
  refine ⟨fun i m σ' ys H' => ∃ ρ' l' h' ds, SimH X.K (ρ'.hide D) h' H' ∧ SimL X.K H' (ρ'.hide D) l' σ' ∧ Ext ρ1 ρ' H1 H' ∧ H' D = some (.lst ys) ∧ RelDs X.K H' (ρ'.hide D) ds ys ∧ compL bd tc te s1 m i l' h' ds = some (zs, h2), ?_, ?_⟩
  · exact ⟨_, ρ1, _, h1, [], S1.hide hD, cap_sim (SimL.same (same_hide hD) (L.ext E1)) cap, Ext.fresh hD, upd_same, .nil, e2⟩
  · rintro i m σ' ys H' ⟨ρ', l', h3, ds, S', L', E', hD', R', e'⟩
    cases m with
    | zero => simp only [compL] at e'; cases e'
    | succ m =>
      simp only [compL] at e'
      have sm : Same2 ρ1 (ρ'.hide D) H1 H' := ⟨fun a u z n => ⟨(E'.notin z n).1, fun w => by
          rcases List.mem_cons.mp w with w | w
          · rw [w, hD] at z
            cases z
          · exact (E'.notin z n).2 w⟩, fun a u z n => E'.keep a u z n.1, fun n a z => E'.get z, E'.fz⟩
      have ok' := ok H' (ρ'.hide D) h3 sm S' i
      cases q : s1.at h3 i with
      | none => rw [q] at e'; cases e'
      | some o =>
        rw [q] at e' ok'
        cases o with
        | none =>
          cases e'
          refine .inl ⟨ok', ?_⟩
          have nD : ρ'.no D := ⟨(S'.zt D List.mem_cons_self).1, by rw [E'.hid]; exact hDz⟩
          cases own with
          | false =>
            rw [if_neg Bool.false_ne_true] at eh ed
            subst eh ed
            exact k ρ' _ H' (rel_lst.mpr ⟨D, ys, rfl, .inl ⟨nD, .inl hD'⟩, RelDs.same same_show _ R'⟩) S'.show (E1.trans E')
          | true =>
            rw [if_pos rfl] at eh ed
            subst eh ed
            refine k (ρ'.add D) _ H' (rel_ref.mpr ⟨D, rfl, ?_⟩) (S'.show_own nD.2 hD' R') (E1.trans ⟨?_, E'.hid, E'.keep, E'.live, E'.fz⟩)
            · have hl : ρ'.v.length = h2.length := S'.len
              show (ρ'.v ++ [D])[h2.length]? = some D
              rw [← hl, List.getElem?_append_right (Nat.le_refl _), Nat.sub_self]
              rfl
            · obtain ⟨x, q1, q2⟩ := E'.pre
              refine ⟨x ++ [D], by show ρ'.v ++ [D] = _; rw [q1, List.append_assoc], fun a ha => ?_⟩
              rcases List.mem_append.mp ha with ha | ha
              · exact q2 a ha
              · rw [List.mem_singleton.mp ha]
                exact hD
        | some d0 =>
          dsimp only at e'
          obtain ⟨l1, b1, e'⟩ := bindE e'
          obtain ⟨⟨b, h4⟩, b2, e'⟩ := bindE e'
          refine .inr ⟨ok'.1, fun v H3 y => ?_⟩
          obtain ⟨R3, E3, S3⟩ := ok'.2 v H3 y
          have nDv := (S'.zt D List.mem_cons_self).1
          refine ⟨ρ'.hide D, l', h3, d0, l1, S3, L'.ext E3, R3, b1, fun σ4 L4 => ⟨ρ'.hide D, l1, h3, b, h4, S3, L4, b2, fun ρ5 H5 S5 E5 => ?_⟩⟩
          cases b with
          | true =>
            dsimp only at e'
            rw [if_pos rfl] at e'
            obtain ⟨⟨d5, h5⟩, b3, e'⟩ := bindE e'
            by_cases hz : ds.length < sizeLine
            · rw [if_pos hz] at e'
              refine iteT ⟨ρ5, l1, h4, d5, h5, S5, L4.ext E5, b3, fun ρ6 v6 H6 R6 S6 E6 => ⟨?_, by rw [R'.length]; exact hz, m, Nat.lt_succ_self _, ?_⟩⟩
              · exact (E3.trans (E5.trans E6)).keep D _ hD' nDv
              · obtain ⟨ρ7, rfl, E7⟩ := (E3.trans (E5.trans E6)).unhide
                refine ⟨ρ7, l1, h5, ds ++ [d5], S6.hwrite, SimL.same (same_write (nfz (S6.zt D List.mem_cons_self).2.choose_spec)) (L4.ext (E5.trans E6)), (E'.trans E7).updNew hD, upd_same, ?_, e'⟩
                exact RelDs.same (same_write (nfz (S6.zt D List.mem_cons_self).2.choose_spec)) _ ((R'.ext (E3.trans (E5.trans E6))).append (.cons R6 .nil))
            · rw [if_neg hz] at e'
              cases e'
          | false =>
            dsimp only at e'
            rw [if_neg Bool.false_ne_true] at e'
            refine iteF ⟨m, Nat.lt_succ_self _, ?_⟩
            obtain ⟨ρ7, rfl, E7⟩ := (E3.trans E5).unhide
            exact ⟨ρ7, l1, h4, ds, S5, L4.ext E5, E'.trans E7, (E3.trans E5).keep D _ hD' nDv, R'.ext (E3.trans E5), e'⟩
theorem em_comp (hc : X.calm = true) (hi : IM X tg iter g) (hcell : ∀ y ∈ scope.names, y.2 ≠ .cell) (hkind : scope.kind = .function)
    (hnames : ∀ y ∈ scope.names, y.2 = .local → scope.names.lookup y.1 = some .local) (hcl : closG X.env.cells scope.names [] = some cl) (hcap : CapOk X scope cl Nc cap)
    (hg : ∀ C s0 H0 fp, GM (cxComp X Nc scope cl C s0 H0 fp) tg bd) (ht : ∀ C s0 H0 fp, CM (cxComp X Nc scope cl C s0 H0 fp) ifs tc) (he : ∀ C s0 H0 fp, EM (cxComp X Nc scope cl C s0 H0 fp) elt te)
    (hs : ∀ x, foldedSetIterable iter X.env x = pure x := by intro _; rfl) : EM X (.ListComp elt [⟨tg, iter, ifs, 0⟩] scope pos) (eComp g bd tc te cap) := by
  with_unfolding_all
    exact PE.imp (pe_comp (g := gM X.K bd) (tc := tMT X.K tc) (te := tM X.K te) hc hi hcl hcell hkind hnames hcap hg ht he hs) fun σ H Q ⟨ρ, l, h, d, h', S, L, e, k⟩ => comp_read (X := X) false S L e k
theorem em_compN (hc : X.calm = true) (hi : IM X tg iter g) (hcell : ∀ y ∈ scope.names, y.2 ≠ .cell) (hkind : scope.kind = .function)
    (hnames : ∀ y ∈ scope.names, y.2 = .local → scope.names.lookup y.1 = some .local) (hcl : closG X.env.cells scope.names [] = some cl) (hcap : CapOk X scope cl Nc cap)
    (hg : ∀ C s0 H0 fp, GM (cxComp X Nc scope cl C s0 H0 fp) tg bd) (ht : ∀ C s0 H0 fp, CM (cxComp X Nc scope cl C s0 H0 fp) ifs tc) (he : ∀ C s0 H0 fp, EM (cxComp X Nc scope cl C s0 H0 fp) elt te)
    (hs : ∀ x, foldedSetIterable iter X.env x = pure x := by intro _; rfl) : EM X (.ListComp elt [⟨tg, iter, ifs, 0⟩] scope pos) (eCompN g bd tc te cap) := by
  with_unfolding_all
    exact PE.imp (pe_comp (g := gM X.K bd) (tc := tMT X.K tc) (te := tM X.K te) hc hi hcl hcell hkind hnames hcap hg ht he hs) fun σ H Q ⟨ρ, l, h, d, h', S, L, e, k⟩ => comp_read (X := X) true S L e k
theorem zm_setComp (i : Nat) {y : Str} {py spos : Pos} (hc : X.calm = true) (hN : X.N.Nodup) (hi : IM X tg iter g) (hcell : ∀ y ∈ scope.names, y.2 ≠ .cell) (hkind : scope.kind = .function)
    (hnames : ∀ y ∈ scope.names, y.2 = .local → scope.names.lookup y.1 = some .local) (hcl : closG X.env.cells scope.names [] = some cl) (hcap : CapOk X scope cl Nc cap)
    (hg : ∀ C s0 H0 fp, GM (cxComp X Nc scope cl C s0 H0 fp) tg bd) (ht : ∀ C s0 H0 fp, CM (cxComp X Nc scope cl C s0 H0 fp) ifs tc) (he : ∀ C s0 H0 fp, EM (cxComp X Nc scope cl C s0 H0 fp) elt te)
    (hsw : swapsWith (.ListComp elt [⟨tg, iter, ifs, 0⟩] scope pos) (some (.Name y py)) spos.line X.env = pure true)
    (hiN : X.N[i]? = some y := by rfl) (hy : X.env.scope.names.lookup y = some .local := by rfl) (hs : ∀ x, foldedSetIterable iter X.env x = pure x := by intro _; rfl) :
    ZM X (.Assign [.Name y py] (.ListComp elt [⟨tg, iter, ifs, 0⟩] scope pos) spos) (sSet i (eComp g bd tc te cap)) := by
  with_unfolding_all
    exact PS.imp (ps_setComp (g := gM X.K bd) (tc := tMT X.K tc) (te := tM X.K te) hc hN hiN hy hi hcl hcell hkind hnames hcap hg ht he hsw hs) fun D σ H ⟨ρ, l, h, r, S, L, e, k⟩ => by
        obtain ⟨⟨d1, h1⟩, e1, e⟩ := bindE e
        cases e
        exact comp_read (X := X) false S L e1 fun ρ1 v H1 R1 S1 E1 => k ρ1 _ H1 S1 ((L.ext E1).set i R1) E1
theorem zm_setCompN (i : Nat) {y : Str} {py spos : Pos} (hc : X.calm = true) (hN : X.N.Nodup) (hi : IM X tg iter g) (hcell : ∀ y ∈ scope.names, y.2 ≠ .cell) (hkind : scope.kind = .function)
    (hnames : ∀ y ∈ scope.names, y.2 = .local → scope.names.lookup y.1 = some .local) (hcl : closG X.env.cells scope.names [] = some cl) (hcap : CapOk X scope cl Nc cap)
    (hg : ∀ C s0 H0 fp, GM (cxComp X Nc scope cl C s0 H0 fp) tg bd) (ht : ∀ C s0 H0 fp, CM (cxComp X Nc scope cl C s0 H0 fp) ifs tc) (he : ∀ C s0 H0 fp, EM (cxComp X Nc scope cl C s0 H0 fp) elt te)
    (hsw : swapsWith (.ListComp elt [⟨tg, iter, ifs, 0⟩] scope pos) (some (.Name y py)) spos.line X.env = pure true)
    (hiN : X.N[i]? = some y := by rfl) (hy : X.env.scope.names.lookup y = some .local := by rfl) (hs : ∀ x, foldedSetIterable iter X.env x = pure x := by intro _; rfl) :
    ZM X (.Assign [.Name y py] (.ListComp elt [⟨tg, iter, ifs, 0⟩] scope pos) spos) (sSet i (eCompN g bd tc te cap)) := by
  with_unfolding_all
    exact PS.imp (ps_setComp (g := gM X.K bd) (tc := tMT X.K tc) (te := tM X.K te) hc hN hiN hy hi hcl hcell hkind hnames hcap hg ht he hsw hs) fun D σ H ⟨ρ, l, h, r, S, L, e, k⟩ => by
        obtain ⟨⟨d1, h1⟩, e1, e⟩ := bindE e
        cases e
        exact comp_read (X := X) true S L e1 fun ρ1 v H1 R1 S1 E1 => k ρ1 _ H1 S1 ((L.ext E1).set i R1) E1
end
end SM
namespace L2
open PySem PySem.Spec PyProof.Rows
section
variable {X : Cx} {elt iter tg : Expr} {ifs : List Expr} {scope : Scope} {cl : List (Str × Addr)} {pos : Pos} {Nc : List Str} {wi : TI} {g : TG} {tc : TT} {te : TE} {cap : List (Option Nat)} {x0 : Str}
end
end L2
namespace SM
open PySem PySem.Spec PyProof.Rows L2
section
variable {X : Cx} {elt iter tg : Expr} {ifs : List Expr} {scope : Scope} {cl : List (Str × Addr)} {pos : Pos} {Nc : List Str} {g : RI} {bd : RG} {tc : RT} {te : RE} {cap : List (Option Nat)} {x0 : Str}
end
end SM
namespace SM
open PySem PySem.Spec PyProof.Rows L2
mutual
/-- data without anything of ours in it -/
def pureD : Dt → Bool
  | .tup xs => pureDs xs
  | .lst xs => pureDs xs
  | .ref _ => false
  | .ntp _ => false
  | _ => true
def pureDs : List Dt → Bool
  | [] => true
  | x :: xs => pureD x && pureDs xs
end
mutual
def depD : Dt → Nat
  | .tup xs => depDs xs + 1
  | .lst xs => depDs xs + 1
  | _ => 0
def depDs : List Dt → Nat
  | [] => 0
  | x :: xs => max (depD x) (depDs xs)
end
mutual
def eqD : Dt → Dt → Bool
  | .non, .non => true
  | .bl a, .bl b => a == b
  | .bl a, .int b => (if a then 1 else 0) == b
  | .int a, .bl b => a == (if b then 1 else 0)
  | .int a, .int b => a == b
  | .str a, .str b => a == b
  | .tup xs, .tup ys => eqDs xs ys
  | .lst xs, .lst ys => eqDs xs ys
  | _, _ => false
def eqDs : List Dt → List Dt → Bool
  | [], [] => true
  | x :: xs, y :: ys => eqD x y && eqDs xs ys
  | _, _ => false
end
mutual
theorem eqD_refl : ∀ d : Dt, pureD d = true → eqD d d = true
  | .non, _ => by simp only [eqD]
  | .bl b, _ => by simp only [eqD, beq_self_eq_true]
  | .int i, _ => by simp only [eqD, beq_self_eq_true]
  | .str x, _ => by simp only [eqD, beq_self_eq_true]
  | .tup xs, h => by simp only [eqD]; exact eqDs_refl xs (by simpa only [pureD] using h)
  | .lst xs, h => by simp only [eqD]; exact eqDs_refl xs (by simpa only [pureD] using h)
  | .ref _, h => by simp [pureD] at h
  | .ntp _, h => by simp [pureD] at h
theorem eqDs_refl : ∀ ds : List Dt, pureDs ds = true → eqDs ds ds = true
  | [], _ => by simp only [eqDs]
  | d :: ds, h => by
    simp only [pureDs, Bool.and_eq_true] at h
    simp only [eqDs, Bool.and_eq_true]
    exact ⟨eqD_refl d h.1, eqDs_refl ds h.2⟩
end
section
variable {X : Cx} {pins : List (Addr × Obj)} {σ : L2.St} {H : Hp} {s : Shared} {ρ : Rg}
mutual
theorem rel_inj (I : Inv X pins σ H s) : ∀ (d d' : Dt) {v : V}, pureD d = true → pureD d' = true → RelD X.K H ρ d v → RelD X.K H ρ d' v → d = d'
  | .non, d', v, _, p, r, r' => by
    have e := rel_non.mp r
    subst e
    cases d' with
    | non => rfl
    | bl b => have := rel_bl.mp r'; cases this
    | int b => have := rel_int.mp r'; cases this
    | str b => have := rel_str.mp r'; cases this
    | tup b => obtain ⟨_, _, z, _⟩ := rel_tup.mp r'; cases z
    | lst b => obtain ⟨_, _, z, _⟩ := rel_lst.mp r'; cases z
    | ref b => obtain ⟨_, z, _⟩ := rel_ref.mp r'; cases z
    | ntp b => obtain ⟨_, z, _⟩ := rel_ntp.mp r'; cases z
  | .bl i, d', v, _, p, r, r' => by
    have e := rel_bl.mp r
    subst e
    cases d' with
    | non => have := rel_non.mp r'; cases this
    | bl b => have := rel_bl.mp r'; cases this; rfl
    | int b => have := rel_int.mp r'; cases this
    | str b => have := rel_str.mp r'; cases this
    | tup b => obtain ⟨_, _, z, _⟩ := rel_tup.mp r'; cases z
    | lst b => obtain ⟨_, _, z, _⟩ := rel_lst.mp r'; cases z
    | ref b => obtain ⟨_, z, _⟩ := rel_ref.mp r'; cases z
    | ntp b => obtain ⟨_, z, _⟩ := rel_ntp.mp r'; cases z
  | .int i, d', v, _, p, r, r' => by
    have e := rel_int.mp r
    subst e
    cases d' with
    | non => have := rel_non.mp r'; cases this
    | bl b => have := rel_bl.mp r'; cases this
    | int b => have := rel_int.mp r'; cases this; rfl
    | str b => have := rel_str.mp r'; cases this
    | tup b => obtain ⟨_, _, z, _⟩ := rel_tup.mp r'; cases z
    | lst b => obtain ⟨_, _, z, _⟩ := rel_lst.mp r'; cases z
    | ref b => obtain ⟨_, z, _⟩ := rel_ref.mp r'; cases z
    | ntp b => obtain ⟨_, z, _⟩ := rel_ntp.mp r'; cases z
  | .str i, d', v, _, p, r, r' => by
    have e := rel_str.mp r
    subst e
    cases d' with
    | non => have := rel_non.mp r'; cases this
    | bl b => have := rel_bl.mp r'; cases this
    | int b => have := rel_int.mp r'; cases this
    | str b => have := rel_str.mp r'; cases this; rfl
    | tup b => obtain ⟨_, _, z, _⟩ := rel_tup.mp r'; cases z
    | lst b => obtain ⟨_, _, z, _⟩ := rel_lst.mp r'; cases z
    | ref b => obtain ⟨_, z, _⟩ := rel_ref.mp r'; cases z
    | ntp b => obtain ⟨_, z, _⟩ := rel_ntp.mp r'; cases z
  | .tup xs, d', v, p0, p, r, r' => by
    obtain ⟨a, vs, e, q, rs⟩ := rel_tup.mp r
    subst e
    cases d' with
    | non => have := rel_non.mp r'; cases this
    | bl b => have := rel_bl.mp r'; cases this
    | int b => have := rel_int.mp r'; cases this
    | str b => have := rel_str.mp r'; cases this
    | tup ys =>
      obtain ⟨b, ws, z, q', rs'⟩ := rel_tup.mp r'
      cases z
      have ee := I.tuple_inj q.sq q'.sq
      subst ee
      rw [rels_inj I xs ys (by simpa only [pureD] using p0) (by simpa only [pureD] using p) rs rs']
    | lst ys =>
      obtain ⟨b, ws, z, q', rs'⟩ := rel_lst.mp r'
      cases z
      obtain ⟨_, _, ⟨o, e1, e2, _⟩, _⟩ := I.tuple q.sq
      obtain ⟨_, _, ⟨o', _, e1', e2', _⟩, _⟩ := I.list q'.sq
      rw [e1] at e1'
      cases e1'
      rw [e2] at e2'
      injection e2' with e3
      exact absurd e3 (by decide)
    | ref b => simp [pureD] at p
    | ntp b => simp [pureD] at p
  | .lst xs, d', v, p0, p, r, r' => by
    obtain ⟨a, vs, e, q, rs⟩ := rel_lst.mp r
    subst e
    cases d' with
    | non => have := rel_non.mp r'; cases this
    | bl b => have := rel_bl.mp r'; cases this
    | int b => have := rel_int.mp r'; cases this
    | str b => have := rel_str.mp r'; cases this
    | lst ys =>
      obtain ⟨b, ws, z, q', rs'⟩ := rel_lst.mp r'
      cases z
      have ee := I.list_inj q.sq q'.sq
      subst ee
      rw [rels_inj I xs ys (by simpa only [pureD] using p0) (by simpa only [pureD] using p) rs rs']
    | tup ys =>
      obtain ⟨b, ws, z, q', rs'⟩ := rel_tup.mp r'
      cases z
      obtain ⟨_, _, ⟨o, e1, e2, _⟩, _⟩ := I.tuple q'.sq
      obtain ⟨_, _, ⟨o', _, e1', e2', _⟩, _⟩ := I.list q.sq
      rw [e1] at e1'
      cases e1'
      rw [e2] at e2'
      injection e2' with e3
      exact absurd e3 (by decide)
    | ref b => simp [pureD] at p
    | ntp b => simp [pureD] at p
  | .ref _, _, _, p, _, _, _ => by simp [pureD] at p
  | .ntp _, _, _, p, _, _, _ => by simp [pureD] at p
theorem rels_inj (I : Inv X pins σ H s) : ∀ (ds ds' : List Dt) {vs : List V}, pureDs ds = true → pureDs ds' = true → RelDs X.K H ρ ds vs → RelDs X.K H ρ ds' vs → ds = ds'
  | [], [], _, _, _, _, _ => rfl
  | [], d' :: ds', _, _, _, r, r' => by
    rw [r.unnil] at r'
    obtain ⟨_, _, z, _⟩ := r'.uncons
    cases z
  | d :: ds, [], _, _, _, r, r' => by
    rw [r'.unnil] at r
    obtain ⟨_, _, z, _⟩ := r.uncons
    cases z
  | d :: ds, d' :: ds', _, p, p', r, r' => by
    simp only [pureDs, Bool.and_eq_true] at p p'
    obtain ⟨v, vs, e, r1, r2⟩ := r.uncons
    subst e
    obtain ⟨v', vs', e, r1', r2'⟩ := r'.uncons
    cases e
    rw [rel_inj I d d' p.1 p'.1 r1 r1', rels_inj I ds ds' p.2 p'.2 r2 r2']
end
def eqIx (xs ys : List Dt) (j : Nat) : Bool := match xs[j]?, ys[j]? with
  | some x, some y => eqD x y
  | _, _ => false
theorem eqIx_all : ∀ (xs ys : List Dt), xs.length = ys.length → (List.range xs.length).all (eqIx xs ys) = eqDs xs ys
  | [], [], _ => by simp [eqDs]
  | [], _ :: _, h => by simp at h
  | _ :: _, [], h => by simp at h
  | x :: xs, y :: ys, h => by
    have ih := eqIx_all xs ys (by simpa using h)
    rw [List.length_cons, List.range_succ_eq_map, List.all_cons, List.all_map]
    simp only [eqDs]
    rw [← ih]
    rfl
theorem eqDs_len : ∀ (xs ys : List Dt), xs.length ≠ ys.length → eqDs xs ys = false
  | [], [], h => absurd rfl h
  | [], _ :: _, _ => by simp only [eqDs]
  | _ :: _, [], _ => by simp only [eqDs]
  | x :: xs, y :: ys, h => by
    simp only [eqDs]
    rw [eqDs_len xs ys (fun z => h (by simp [z])), Bool.and_false]
theorem in1_units (A : Around) : A.in1.units ≤ A.units + 1 := by
  first | exact Nat.le_refl _ | simp [Around.in1]
theorem isTuple_of {h : Heap} {a : Addr} {its : Array Value} (p : IsTup h a its) : h.IsTuple a its := by
  obtain ⟨o, h1, h2, n, h3⟩ := p
  exact ⟨o, h1, h2, n, h3⟩
mutual
theorem eqAt_D (I : Inv X pins σ H s) : ∀ (d d' : Dt) {v v' : V} {u u' : Value} (A : Around), pureD d = true → pureD d' = true → A.units + depD d < cLine → RelD X.K H ρ d v → RelD X.K H ρ d' v' → RelV v u → RelV v' u' → SeqAt.EqAt A s u u' (eqD d d')
  | .tup xs, d', v, v', u, u', A, p, p', hu, r, r', q, q' => by
    obtain ⟨a, vs, e, t, rs⟩ := rel_tup.mp r
    subst e
    cases q
    simp only [depD] at hu
    have hu0 : A.units < cLine := by omega
    obtain ⟨its, rv, tp, _⟩ := I.tuple t.sq
    cases d' with
    | non => cases rel_non.mp r'; cases q'; simpa only [eqD] using SeqAt.EqAt.tuple_none (isTuple_of tp) hu0
    | bl b => cases rel_bl.mp r'; cases q'; simpa only [eqD] using SeqAt.EqAt.tuple_bool b (isTuple_of tp) hu0
    | int b => cases rel_int.mp r'; obtain ⟨t', rfl⟩ := q'; simpa only [eqD] using SeqAt.EqAt.tuple_int b t' (isTuple_of tp) hu0
    | str b => cases rel_str.mp r'; obtain ⟨t', rfl⟩ := q'; simpa only [eqD] using SeqAt.EqAt.tuple_str b t' (isTuple_of tp) hu0
    | lst ys =>
      obtain ⟨b, ws, e, t', rs'⟩ := rel_lst.mp r'
      subst e
      cases q'
      obtain ⟨its', rv', tp', _⟩ := I.list t'.sq
      simpa only [eqD] using SeqAt.EqAt.tuple_list (isTuple_of tp) tp'.isList hu0
    | tup ys =>
      obtain ⟨b, ws, e, t', rs'⟩ := rel_tup.mp r'
      subst e
      cases q'
      obtain ⟨its', rv', tp', _⟩ := I.tuple t'.sq
      by_cases hab : a = b
      · subst hab
        have e := rel_inj I (.tup xs) (.tup ys) p p' r r'
        rw [← e, eqD_refl _ p]
        exact SeqAt.EqAt.same _
      · refine .of_refs hab ?_
        have l1 : its.length = xs.length := by rw [← rv.length, rs.length]
        have l2 : its'.length = ys.length := by rw [← rv'.length, rs'.length]
        have ih := eqAt_Ds I xs ys A.in1 (by simpa only [pureD] using p) (by simpa only [pureD] using p') (by have := in1_units A; omega) rs rs' rv rv'
        have z := SeqAt.RcAt.tuples (e := eqIx xs ys) (isTuple_of tp) (isTuple_of tp') hu0 fun j h1 h2 => by
          rw [List.size_toArray] at h1 h2
          simpa using ih j h1 h2
        rw [List.size_toArray, List.size_toArray, l1, l2] at z
        simp only [eqD]
        by_cases hl : xs.length = ys.length
        · rw [← hl, Nat.min_self, eqIx_all xs ys hl, beq_self_eq_true, Bool.and_true] at z
          exact z
        · rw [eqDs_len xs ys hl]
          have hb : (xs.length == ys.length) = false := by simpa using hl
          rw [hb, Bool.and_false] at z
          exact z
    | ref b => simp [pureD] at p'
    | ntp b => simp [pureD] at p'
  | .lst xs, d', v, v', u, u', A, p, p', hu, r, r', q, q' => by
    obtain ⟨a, vs, e, t, rs⟩ := rel_lst.mp r
    subst e
    cases q
    simp only [depD] at hu
    have hu0 : A.units < cLine := by omega
    obtain ⟨its, rv, tp, _⟩ := I.list t.sq
    cases d' with
    | non => cases rel_non.mp r'; cases q'; simpa only [eqD] using SeqAt.EqAt.list_none tp.isList hu0
    | bl b => cases rel_bl.mp r'; cases q'; simpa only [eqD] using SeqAt.EqAt.list_bool b tp.isList hu0
    | int b => cases rel_int.mp r'; obtain ⟨t', rfl⟩ := q'; simpa only [eqD] using SeqAt.EqAt.list_int b t' tp.isList hu0
    | str b => cases rel_str.mp r'; obtain ⟨t', rfl⟩ := q'; simpa only [eqD] using SeqAt.EqAt.list_str b t' tp.isList hu0
    | tup ys =>
      obtain ⟨b, ws, e, t', rs'⟩ := rel_tup.mp r'
      subst e
      cases q'
      obtain ⟨its', rv', tp', _⟩ := I.tuple t'.sq
      simpa only [eqD] using SeqAt.EqAt.list_tuple tp.isList (isTuple_of tp') hu0
    | lst ys =>
      obtain ⟨b, ws, e, t', rs'⟩ := rel_lst.mp r'
      subst e
      cases q'
      obtain ⟨its', rv', tp', _⟩ := I.list t'.sq
      by_cases hab : a = b
      · subst hab
        have e := rel_inj I (.lst xs) (.lst ys) p p' r r'
        rw [← e, eqD_refl _ p]
        exact SeqAt.EqAt.same _
      · refine .of_refs hab ?_
        have l1 : its.length = xs.length := by rw [← rv.length, rs.length]
        have l2 : its'.length = ys.length := by rw [← rv'.length, rs'.length]
        simp only [eqD]
        by_cases hl : xs.length = ys.length
        · have ih := eqAt_Ds I xs ys A.in1 (by simpa only [pureD] using p) (by simpa only [pureD] using p') (by have := in1_units A; omega) rs rs' rv rv'
          have z := SeqAt.RcAt.lists (e := eqIx xs ys) tp.isList tp'.isList (by rw [List.size_toArray, List.size_toArray, l1, l2, hl]) hu0 fun j h1 h2 => by
            rw [List.size_toArray] at h1 h2
            simpa using ih j h1 h2
          rw [List.size_toArray, l1, eqIx_all xs ys hl] at z
          exact z
        · rw [eqDs_len xs ys hl]
          exact SeqAt.RcAt.lists_lengths tp.isList tp'.isList (by rw [List.size_toArray, List.size_toArray, l1, l2]; simpa using hl) hu0
    | ref b => simp [pureD] at p'
    | ntp b => simp [pureD] at p'
  | .ref _, _, _, _, _, _, _, p, _, _, _, _, _, _ => by simp [pureD] at p
  | .ntp _, _, _, _, _, _, _, p, _, _, _, _, _, _ => by simp [pureD] at p
  | .non, d', v, v', u, u', A, p, p', hu, r, r', q, q' => by
    cases rel_non.mp r
    cases q
    have hu0 : A.units < cLine := by omega
    cases d' with
    | non => cases rel_non.mp r'; cases q'; simp only [eqD]; exact SeqAt.EqAt.same _
    | bl b => cases rel_bl.mp r'; cases q'; simpa only [eqD] using SeqAt.EqAt.none_bool b
    | int b => cases rel_int.mp r'; obtain ⟨t', rfl⟩ := q'; simpa only [eqD] using SeqAt.EqAt.none_int b t'
    | str b => cases rel_str.mp r'; obtain ⟨t', rfl⟩ := q'; simpa only [eqD] using SeqAt.EqAt.none_str b t'
    | tup ys =>
      obtain ⟨b, ws, e, t', rs'⟩ := rel_tup.mp r'
      subst e
      cases q'
      obtain ⟨its', rv', tp', _⟩ := I.tuple t'.sq
      simpa only [eqD] using SeqAt.EqAt.none_tuple (isTuple_of tp') hu0
    | lst ys =>
      obtain ⟨b, ws, e, t', rs'⟩ := rel_lst.mp r'
      subst e
      cases q'
      obtain ⟨its', rv', tp', _⟩ := I.list t'.sq
      simpa only [eqD] using SeqAt.EqAt.none_list tp'.isList hu0
    | ref b => simp [pureD] at p'
    | ntp b => simp [pureD] at p'
  | .bl i, d', v, v', u, u', A, p, p', hu, r, r', q, q' => by
    cases rel_bl.mp r
    cases q
    have hu0 : A.units < cLine := by omega
    cases d' with
    | non => cases rel_non.mp r'; cases q'; simpa only [eqD] using SeqAt.EqAt.bool_none i
    | bl b => cases rel_bl.mp r'; cases q'; simpa only [eqD] using SeqAt.EqAt.bool_bool i b
    | int b => cases rel_int.mp r'; obtain ⟨t', rfl⟩ := q'; simpa only [eqD] using SeqAt.EqAt.bool_int i b t'
    | str b => cases rel_str.mp r'; obtain ⟨t', rfl⟩ := q'; simpa only [eqD] using SeqAt.EqAt.bool_str i b t'
    | tup ys =>
      obtain ⟨b, ws, e, t', rs'⟩ := rel_tup.mp r'
      subst e
      cases q'
      obtain ⟨its', rv', tp', _⟩ := I.tuple t'.sq
      simpa only [eqD] using SeqAt.EqAt.bool_tuple i (isTuple_of tp') hu0
    | lst ys =>
      obtain ⟨b, ws, e, t', rs'⟩ := rel_lst.mp r'
      subst e
      cases q'
      obtain ⟨its', rv', tp', _⟩ := I.list t'.sq
      simpa only [eqD] using SeqAt.EqAt.bool_list i tp'.isList hu0
    | ref b => simp [pureD] at p'
    | ntp b => simp [pureD] at p'
  | .int i, d', v, v', u, u', A, p, p', hu, r, r', q, q' => by
    cases rel_int.mp r
    obtain ⟨ti, rfl⟩ := q
    have hu0 : A.units < cLine := by omega
    cases d' with
    | non => cases rel_non.mp r'; cases q'; simpa only [eqD] using SeqAt.EqAt.int_none i ti
    | bl b => cases rel_bl.mp r'; cases q'; simpa only [eqD] using SeqAt.EqAt.int_bool i ti b
    | int b => cases rel_int.mp r'; obtain ⟨t', rfl⟩ := q'; simpa only [eqD] using SeqAt.EqAt.int_int i ti b t'
    | str b => cases rel_str.mp r'; obtain ⟨t', rfl⟩ := q'; simpa only [eqD] using SeqAt.EqAt.int_str i ti b t'
    | tup ys =>
      obtain ⟨b, ws, e, t', rs'⟩ := rel_tup.mp r'
      subst e
      cases q'
      obtain ⟨its', rv', tp', _⟩ := I.tuple t'.sq
      simpa only [eqD] using SeqAt.EqAt.int_tuple i ti (isTuple_of tp') hu0
    | lst ys =>
      obtain ⟨b, ws, e, t', rs'⟩ := rel_lst.mp r'
      subst e
      cases q'
      obtain ⟨its', rv', tp', _⟩ := I.list t'.sq
      simpa only [eqD] using SeqAt.EqAt.int_list i ti tp'.isList hu0
    | ref b => simp [pureD] at p'
    | ntp b => simp [pureD] at p'
  | .str i, d', v, v', u, u', A, p, p', hu, r, r', q, q' => by
    cases rel_str.mp r
    obtain ⟨ti, rfl⟩ := q
    have hu0 : A.units < cLine := by omega
    cases d' with
    | non => cases rel_non.mp r'; cases q'; simpa only [eqD] using SeqAt.EqAt.str_none i ti
    | bl b => cases rel_bl.mp r'; cases q'; simpa only [eqD] using SeqAt.EqAt.str_bool i ti b
    | int b => cases rel_int.mp r'; obtain ⟨t', rfl⟩ := q'; simpa only [eqD] using SeqAt.EqAt.str_int i ti b t'
    | str b => cases rel_str.mp r'; obtain ⟨t', rfl⟩ := q'; simpa only [eqD] using SeqAt.EqAt.str_str i ti b t'
    | tup ys =>
      obtain ⟨b, ws, e, t', rs'⟩ := rel_tup.mp r'
      subst e
      cases q'
      obtain ⟨its', rv', tp', _⟩ := I.tuple t'.sq
      simpa only [eqD] using SeqAt.EqAt.str_tuple i ti (isTuple_of tp') hu0
    | lst ys =>
      obtain ⟨b, ws, e, t', rs'⟩ := rel_lst.mp r'
      subst e
      cases q'
      obtain ⟨its', rv', tp', _⟩ := I.list t'.sq
      simpa only [eqD] using SeqAt.EqAt.str_list i ti tp'.isList hu0
    | ref b => simp [pureD] at p'
    | ntp b => simp [pureD] at p'
theorem eqAt_Ds (I : Inv X pins σ H s) : ∀ (xs ys : List Dt) {vs vs' : List V} {us us' : List Value} (A : Around), pureDs xs = true → pureDs ys = true → A.units + depDs xs < cLine → RelDs X.K H ρ xs vs → RelDs X.K H ρ ys vs' → Vals vs us → Vals vs' us' →
    ∀ (j : Nat) (h1 : j < us.length) (h2 : j < us'.length), SeqAt.EqAt A s us[j] us'[j] (eqIx xs ys j)
  | [], _, _, _, _, _, _, _, _, _, r, _, q, _, _, h1, _ => by
    rw [r.unnil] at q
    cases q
    exact absurd h1 (by simp)
  | _ :: _, [], _, _, _, _, _, _, _, _, _, r', _, q', _, _, h2 => by
    rw [r'.unnil] at q'
    cases q'
    exact absurd h2 (by simp)
  | x :: xs, y :: ys, vs, vs', us, us', A, p, p', hu, r, r', q, q', j, h1, h2 => by
    simp only [pureDs, Bool.and_eq_true] at p p'
    simp only [depDs] at hu
    obtain ⟨v, r0, e, a1, a2⟩ := r.uncons
    subst e
    obtain ⟨v', r0', e, b1, b2⟩ := r'.uncons
    subst e
    cases q with
    | cons q1 q2 =>
      cases q' with
      | cons q1' q2' =>
        cases j with
        | zero => exact eqAt_D I x y A p.1 p'.1 (by omega) a1 b1 q1 q1'
        | succ j =>
          have ih := eqAt_Ds I xs ys A p.2 p'.2 (by omega) a2 b2 q2 q2' j (by simpa using h1) (by simpa using h2)
          simpa [eqIx] using ih
end
end
end SM
namespace SM
open PySem PySem.Spec PyProof.Rows L2
section
variable {X : Cx} {a b c e : Expr} {es : List Expr} {fa fb fc f : RE} {g : RA} {p p2 pos : Pos}
def deepOk (xs ys : List Dt) : Bool := pureDs xs && pureDs ys && decide (depDs xs ≤ 50)
def oEqD : Op2 := fun a b h => match a, b with
  | .tup xs, .tup ys => if deepOk xs ys = true then some (.bl (eqDs xs ys), h) else none
  | .lst xs, .lst ys => if deepOk xs ys = true then some (.bl (eqDs xs ys), h) else none
  | a, b => oEq a b h
def oNeD : Op2 := fun a b h => match a, b with
  | .tup xs, .tup ys => if deepOk xs ys = true then some (.bl (!eqDs xs ys), h) else none
  | .lst xs, .lst ys => if deepOk xs ys = true then some (.bl (!eqDs xs ys), h) else none
  | a, b => oNe a b h
theorem tup_items {pins : List (Addr × Obj)} {σ : L2.St} {H : Hp} {s : Shared} {ρ : Rg} {xs ys : List Dt} {vs ws : List V} {its its' : List Value} (I : Inv X pins σ H s) (hu : X.A.units + 64 < cLine) (ok : deepOk xs ys = true) (rs : RelDs X.K H ρ xs vs) (rs' : RelDs X.K H ρ ys ws) (rv : Vals vs its) (rv' : Vals ws its') :
    ∀ (j : Nat) (h1 : j < its.toArray.size) (h2 : j < its'.toArray.size), SeqAt.EqAt X.A.in1 s its.toArray[j] its'.toArray[j] (eqIx xs ys j) := fun j h1 h2 => by
  simp only [deepOk, Bool.and_eq_true, decide_eq_true_eq] at ok
  rw [List.size_toArray] at h1 h2
  have := eqAt_Ds I xs ys X.A.in1 ok.1.1 ok.1.2 (by have := in1_units X.A; omega) rs rs' rv rv' j h1 h2
  simpa using this
theorem om_eqD (hu : X.A.units + 64 < cLine) : OM X (compareOp .Eq) oEqD := by
  with_unfolding_all
    intro pins s σ H x y v u Q I rx ry h
    obtain ⟨ρ, h, d1, d2, d, h', S, R1, R2, e, k⟩ := h
    unfold oEqD at e
    split at e
    · rename_i xs ys
      obtain ⟨ok, e⟩ := ifE e
      cases e
      obtain ⟨a, vs, z, t, rs⟩ := rel_tup.mp R1
      obtain ⟨b, ws, z', t', rs'⟩ := rel_tup.mp R2
      subst z z'
      cases rx
      cases ry
      obtain ⟨its, rv, tp, _⟩ := I.tuple t.sq
      obtain ⟨its', rv', tp', _⟩ := I.tuple t'.sq
      have l1 : its.length = xs.length := by rw [← rv.length, rs.length]
      have l2 : its'.length = ys.length := by rw [← rv'.length, rs'.length]
      refine SeqAt.eq_tupleAt (e := eqIx xs ys) (isTuple_of tp) (isTuple_of tp') (by omega) (tup_items I hu ok rs rs' rv rv') ?_
      refine ⟨.bl _, H, I, rfl, k ρ _ H (rel_bl.mpr (congrArg V.bl ?_)) S (Ext.refl _ _)⟩
      rw [List.size_toArray, List.size_toArray, l1, l2]
      by_cases hl : xs.length = ys.length
      · rw [← hl, Nat.min_self, eqIx_all xs ys hl, beq_self_eq_true, Bool.and_true]
      · have hb : (xs.length == ys.length) = false := by simpa using hl
        rw [eqDs_len xs ys hl, hb, Bool.and_false]
    · rename_i xs ys
      obtain ⟨ok, e⟩ := ifE e
      cases e
      obtain ⟨a, vs, z, t, rs⟩ := rel_lst.mp R1
      obtain ⟨b, ws, z', t', rs'⟩ := rel_lst.mp R2
      subst z z'
      cases rx
      cases ry
      obtain ⟨its, rv, tp, _⟩ := I.list t.sq
      obtain ⟨its', rv', tp', _⟩ := I.list t'.sq
      have l1 : its.length = xs.length := by rw [← rv.length, rs.length]
      have l2 : its'.length = ys.length := by rw [← rv'.length, rs'.length]
      by_cases hl : xs.length = ys.length
      · refine SeqAt.eq_listAt (e := eqIx xs ys) tp.isList tp'.isList (by rw [List.size_toArray, List.size_toArray, l1, l2, hl]) (by omega) (tup_items I hu ok rs rs' rv rv') ?_
        refine ⟨.bl _, H, I, rfl, k ρ _ H (rel_bl.mpr (congrArg V.bl ?_)) S (Ext.refl _ _)⟩
        rw [List.size_toArray, l1, eqIx_all xs ys hl]
      · refine SeqAt.eq_list_lengthsAt tp.isList tp'.isList (by rw [List.size_toArray, List.size_toArray, l1, l2]; simpa using hl) (by omega) ?_
        exact ⟨.bl _, H, I, rfl, k ρ _ H (rel_bl.mpr (by rw [eqDs_len xs ys hl])) S (Ext.refl _ _)⟩
    · exact om_eq pins s σ H x y v u Q I rx ry ⟨ρ, h, d1, d2, d, h', S, R1, R2, e, k⟩
theorem om_neD (hu : X.A.units + 64 < cLine) : OM X (compareOp .NotEq) oNeD := by
  with_unfolding_all
    intro pins s σ H x y v u Q I rx ry h
    obtain ⟨ρ, h, d1, d2, d, h', S, R1, R2, e, k⟩ := h
    unfold oNeD at e
    split at e
    · rename_i xs ys
      obtain ⟨ok, e⟩ := ifE e
      cases e
      obtain ⟨a, vs, z, t, rs⟩ := rel_tup.mp R1
      obtain ⟨b, ws, z', t', rs'⟩ := rel_tup.mp R2
      subst z z'
      cases rx
      cases ry
      obtain ⟨its, rv, tp, _⟩ := I.tuple t.sq
      obtain ⟨its', rv', tp', _⟩ := I.tuple t'.sq
      have l1 : its.length = xs.length := by rw [← rv.length, rs.length]
      have l2 : its'.length = ys.length := by rw [← rv'.length, rs'.length]
      refine ne_tuples (e := eqIx xs ys) (isTuple_of tp) (isTuple_of tp') (by omega) (tup_items I hu ok rs rs' rv rv') ?_
      refine ⟨.bl _, H, I, rfl, k ρ _ H (rel_bl.mpr (congrArg V.bl ?_)) S (Ext.refl _ _)⟩
      rw [List.size_toArray, List.size_toArray, l1, l2]
      by_cases hl : xs.length = ys.length
      · rw [← hl, Nat.min_self, eqIx_all xs ys hl, beq_self_eq_true, Bool.and_true]
      · have hb : (xs.length == ys.length) = false := by simpa using hl
        rw [eqDs_len xs ys hl, hb, Bool.and_false]
    · rename_i xs ys
      obtain ⟨ok, e⟩ := ifE e
      cases e
      obtain ⟨a, vs, z, t, rs⟩ := rel_lst.mp R1
      obtain ⟨b, ws, z', t', rs'⟩ := rel_lst.mp R2
      subst z z'
      cases rx
      cases ry
      obtain ⟨its, rv, tp, _⟩ := I.list t.sq
      obtain ⟨its', rv', tp', _⟩ := I.list t'.sq
      have l1 : its.length = xs.length := by rw [← rv.length, rs.length]
      have l2 : its'.length = ys.length := by rw [← rv'.length, rs'.length]
      by_cases hl : xs.length = ys.length
      · refine ne_lists (e := eqIx xs ys) tp.isList tp'.isList (by rw [List.size_toArray, List.size_toArray, l1, l2, hl]) (by omega) (tup_items I hu ok rs rs' rv rv') ?_
        refine ⟨.bl _, H, I, rfl, k ρ _ H (rel_bl.mpr (congrArg V.bl ?_)) S (Ext.refl _ _)⟩
        rw [List.size_toArray, l1, eqIx_all xs ys hl]
      · refine ne_lists_len tp.isList tp'.isList (by rw [List.size_toArray, List.size_toArray, l1, l2]; simpa using hl) (by omega) ?_
        exact ⟨.bl _, H, I, rfl, k ρ _ H (rel_bl.mpr (by rw [eqDs_len xs ys hl]; rfl)) S (Ext.refl _ _)⟩
    · exact om_ne pins s σ H x y v u Q I rx ry ⟨ρ, h, d1, d2, d, h', S, R1, R2, e, k⟩
def oCat : Op2 := fun a b h => (seqL h a).bind fun xs => (seqL h b).bind fun ys => if xs.length + ys.length ≤ sizeLine then some (.lst (xs ++ ys), h) else none
theorem om_cat : OM X (binaryOp .Add) oCat := by
  with_unfolding_all
    exact OpR.imp op_catQ fun x y H Q ⟨ρ, h, d1, d2, d, h', S, R1, R2, e, k⟩ => by
      obtain ⟨xs, e1, e⟩ := bindE e
      obtain ⟨ys, e2, e⟩ := bindE e
      obtain ⟨hz, e⟩ := ifE e
      cases e
      obtain ⟨l, vs, z1, q1, r1⟩ := seqL_at S R1 e1
      obtain ⟨b, ws, z2, q2, r2⟩ := seqL_at S R2 e2
      exact ⟨l, b, vs, ws, z1, z2, q1, q2, by rw [r1.length, r2.length]; exact hz, fun p hp => k ρ _ _ (newLst S (r1.append r2) hp) (S.fresh hp) (Ext.fresh hp)⟩
def eF1 (F : Dt → HI → Option (Dt × HI)) (f : RE) : RE := fun l h => (f l h).bind fun r => F r.1 r.2
theorem em_b1 {x : Str} {id : String} {r : List V → Hp → VK → Prop} {F : Dt → HI → Option (Dt × HI)} (hc : CallR X (.builtin id) r) (hF : ∀ ρ h d v d' h' H Q, SimH X.K ρ h H → RelD X.K H ρ d v → F d h = some (d', h') → Out X.K ρ H d' h' Q → r [v] H Q)
    (hg : Gl X x) (hm : X.mg x = none) (hv : bootBuiltins x = some (.builtin id)) (ha : EM X e f) (hn : x ≠ "__name__" := by decide) (hdb : (x == ("__debug__" : Str)) = false := by decide) (hs : notStar e = true := by rfl) :
    EM X (.Call (.Name x p) [e] [] pos) (eF1 F f) := by
  with_unfolding_all
    exact PE.imp (pe_callB hc hg hm hv (pa_cons ha pa_nil (star_of hs _ _)) hn hdb (he := star_of hs _ _)) fun σ H Q ⟨ρ, l, h, d, h', S, L, e, k⟩ => by
      obtain ⟨⟨d1, h1⟩, e1, e⟩ := bindE e
      exact ⟨ρ, l, h, d1, h1, S, L, e1, fun ρ1 v H1 R1 S1 E1 => hF ρ1 h1 d1 v d h' H1 Q S1 R1 e (k.ext E1)⟩
theorem em_t1 {x : Str} {T : String} {r : List V → Hp → VK → Prop} {F : Dt → HI → Option (Dt × HI)} (hc : CallR X (.type T) r) (hF : ∀ ρ h d v d' h' H Q, SimH X.K ρ h H → RelD X.K H ρ d v → F d h = some (d', h') → Out X.K ρ H d' h' Q → r [v] H Q)
    (hg : Gl X x) (hm : X.mg x = none) (hv : bootBuiltins x = some (.type T)) (ha : EM X e f) (hn : x ≠ "__name__" := by decide) (hdb : (x == ("__debug__" : Str)) = false := by decide) (hs : notStar e = true := by rfl) :
    EM X (.Call (.Name x p) [e] [] pos) (eF1 F f) := by
  with_unfolding_all
    exact PE.imp (pe_callTy hc hg hm hv (pa_cons ha pa_nil (star_of hs _ _)) hn hdb (he := star_of hs _ _)) fun σ H Q ⟨ρ, l, h, d, h', S, L, e, k⟩ => by
      obtain ⟨⟨d1, h1⟩, e1, e⟩ := bindE e
      exact ⟨ρ, l, h, d1, h1, S, L, e1, fun ρ1 v H1 R1 S1 E1 => hF ρ1 h1 d1 v d h' H1 Q S1 R1 e (k.ext E1)⟩
def fLen : Dt → HI → Option (Dt × HI) := fun d h => match d with
  | .str z => if z.length ≤ sizeLine then some (.int z.length, h) else none
  | d => (seqA h d).map fun xs => (.int xs.length, h)
theorem em_len (hg : Gl X "len") (hm : X.mg "len" = none) (ha : EM X e f) (hs : notStar e = true := by rfl) : EM X (.Call (.Name "len" p) [e] [] pos) (eF1 fLen f) := by
  with_unfolding_all
    exact em_b1 (CallR.or call_len_seq call_len_str) (fun ρ h d v d' h' H Q S R e k => by
        unfold fLen at e
        split at e
        · rename_i z
          obtain ⟨hz, e⟩ := ifE e
          cases e
          exact .inr ⟨z, by rw [rel_str.mp R], hz, k ρ _ H (rel_int.mpr rfl) S (Ext.refl _ _)⟩
        · cases q : seqA h d with
          | none => rw [q] at e; cases e
          | some xs =>
            rw [q] at e
            cases e
            obtain ⟨a, vs, z, sq, r⟩ := seqA_at S R q
            exact .inl ⟨a, vs, by rw [z], sq, by rw [r.length]; exact k ρ _ H (rel_int.mpr rfl) S (Ext.refl _ _)⟩) hg hm PySem.boot_len ha (hs := hs)
def fInt : Dt → HI → Option (Dt × HI) := fun d h => match d with
  | .int i => some (.int i, h)
  | .bl b => some (.int (if b then 1 else 0), h)
  | _ => none
theorem em_int1 (hg : Gl X "int") (hm : X.mg "int" = none) (ha : EM X e f) (hs : notStar e = true := by rfl) : EM X (.Call (.Name "int" p) [e] [] pos) (eF1 fInt f) := by
  with_unfolding_all
    exact em_t1 call_int1 (fun ρ h d v d' h' H Q S R e k => by
        unfold fInt at e
        split at e
        · rename_i i
          cases e
          exact .inl ⟨i, by rw [rel_int.mp R], k ρ _ H (rel_int.mpr rfl) S (Ext.refl _ _)⟩
        · rename_i b
          cases e
          exact .inr ⟨b, by rw [rel_bl.mp R], k ρ _ H (rel_int.mpr rfl) S (Ext.refl _ _)⟩
        · cases e) hg hm PyProof.Rows.boot_int ha (hs := hs)
def fList : Dt → HI → Option (Dt × HI) := fun d h => (seqA h d).map fun xs => (.lst xs, h)
theorem em_list1 (hg : Gl X "list") (hm : X.mg "list" = none) (ha : EM X e f) (hs : notStar e = true := by rfl) : EM X (.Call (.Name "list" p) [e] [] pos) (eF1 fList f) := by
  with_unfolding_all
    exact em_t1 call_list_of (fun ρ h d v d' h' H Q S R e k => by
        unfold fList at e
        cases q : seqA h d with
        | none => rw [q] at e; cases e
        | some xs =>
          rw [q] at e
          cases e
          obtain ⟨a, vs, z, sq, r⟩ := seqA_at S R q
          exact ⟨a, vs, by rw [z], sq, fun l hl => k ρ _ _ (newLst S r hl) (S.fresh hl) (Ext.fresh hl)⟩) hg hm PyProof.Rows.boot_list ha (hs := hs)
def intsOf : List Dt → Option (List Int)
  | [] => some []
  | .int i :: ds => (intsOf ds).map fun ns => i :: ns
  | _ :: _ => none
theorem intsOf_eq : ∀ {ds : List Dt} {ns : List Int}, intsOf ds = some ns → ds = ns.map Dt.int
  | [], _, e => by simp only [intsOf] at e; cases e; rfl
  | d :: ds, _, e => by
    cases d with
    | int i =>
      simp only [intsOf] at e
      cases q : intsOf ds with
      | none => rw [q] at e; cases e
      | some ns =>
        rw [q] at e
        cases e
        rw [intsOf_eq q]
        rfl
    | _ => simp only [intsOf] at e <;> cases e
def maxL : List Int → Int
  | [] => 0
  | [a] => a
  | a :: b :: r => max a (maxL (b :: r))
def minL : List Int → Int
  | [] => 0
  | [a] => a
  | a :: b :: r => min a (minL (b :: r))
theorem maxL_spec : ∀ (ns : List Int), ns ≠ [] → maxL ns ∈ ns ∧ ∀ a ∈ ns, a ≤ maxL ns
  | [], h => absurd rfl h
  | [a], _ => by simp [maxL]
  | a :: b :: r, _ => by
    obtain ⟨h1, h2⟩ := maxL_spec (b :: r) (by simp)
    simp only [maxL]
    refine ⟨?_, fun c hc => ?_⟩
    · rcases Int.le_total a (maxL (b :: r)) with z | z
      · rw [Int.max_eq_right z]; exact List.mem_cons_of_mem _ h1
      · rw [Int.max_eq_left z]; exact List.mem_cons_self
    · rcases List.mem_cons.mp hc with z | z
      · rw [z]; exact Int.le_max_left _ _
      · exact Int.le_trans (h2 c z) (Int.le_max_right _ _)
theorem minL_spec : ∀ (ns : List Int), ns ≠ [] → minL ns ∈ ns ∧ ∀ a ∈ ns, minL ns ≤ a
  | [], h => absurd rfl h
  | [a], _ => by simp [minL]
  | a :: b :: r, _ => by
    obtain ⟨h1, h2⟩ := minL_spec (b :: r) (by simp)
    simp only [minL]
    refine ⟨?_, fun c hc => ?_⟩
    · rcases Int.le_total a (minL (b :: r)) with z | z
      · rw [Int.min_eq_left z]; exact List.mem_cons_self
      · rw [Int.min_eq_right z]; exact List.mem_cons_of_mem _ h1
    · rcases List.mem_cons.mp hc with z | z
      · rw [z]; exact Int.min_le_left _ _
      · exact Int.le_trans (Int.min_le_right _ _) (h2 c z)
def fMax : Dt → HI → Option (Dt × HI) := fun d h => (seqL h d).bind fun xs => (intsOf xs).bind fun ns => if ns ≠ [] then some (.int (maxL ns), h) else none
def fMin : Dt → HI → Option (Dt × HI) := fun d h => (seqL h d).bind fun xs => (intsOf xs).bind fun ns => if ns ≠ [] then some (.int (minL ns), h) else none
theorem em_max (hc : X.calm = true) (hg : Gl X "max") (hm : X.mg "max" = none) (ha : EM X e f) (hs : notStar e = true := by rfl) : EM X (.Call (.Name "max" p) [e] [] pos) (eF1 fMax f) := by
  with_unfolding_all
    exact em_b1 (call_maxL hc) (fun ρ h d v d' h' H Q S R e k => by
        obtain ⟨xs, e1, e⟩ := bindE e
        obtain ⟨ns, q, e⟩ := bindE e
        obtain ⟨hne, e⟩ := ifE e
        cases e
        obtain ⟨a, vs, z, sq, r⟩ := seqL_at S R e1
        rw [intsOf_eq q] at r
        rw [r.unints] at sq
        obtain ⟨m1, m2⟩ := maxL_spec ns hne
        refine ⟨a, ns, by rw [z], sq, hne, fun M h1 h2 => ?_⟩
        have : M = maxL ns := Int.le_antisymm (m2 M h1) (h2 _ m1)
        rw [this]
        exact k ρ _ H (rel_int.mpr rfl) S (Ext.refl _ _)) hg hm PyProof.Rows.boot_max ha (hs := hs)
theorem em_min (hc : X.calm = true) (hg : Gl X "min") (hm : X.mg "min" = none) (ha : EM X e f) (hs : notStar e = true := by rfl) : EM X (.Call (.Name "min" p) [e] [] pos) (eF1 fMin f) := by
  with_unfolding_all
    exact em_b1 (call_minL hc) (fun ρ h d v d' h' H Q S R e k => by
        obtain ⟨xs, e1, e⟩ := bindE e
        obtain ⟨ns, q, e⟩ := bindE e
        obtain ⟨hne, e⟩ := ifE e
        cases e
        obtain ⟨a, vs, z, sq, r⟩ := seqL_at S R e1
        rw [intsOf_eq q] at r
        rw [r.unints] at sq
        obtain ⟨m1, m2⟩ := minL_spec ns hne
        refine ⟨a, ns, by rw [z], sq, hne, fun M h1 h2 => ?_⟩
        have : M = minL ns := Int.le_antisymm (h2 _ m1) (m2 M h1)
        rw [this]
        exact k ρ _ H (rel_int.mpr rfl) S (Ext.refl _ _)) hg hm PyProof.Rows.boot_min ha (hs := hs)
def tyN (h : HI) : Dt → Option String
  | .non => some "NoneType"
  | .bl _ => some "bool"
  | .int _ => some "int"
  | .str _ => some "str"
  | .tup _ => some "tuple"
  | .lst _ => some "list"
  | .ref n => match h[n]? with | some (.lst _) => some "list" | _ => none
  | .ntp _ => none
def isT (t T : String) : Bool := t == T || (t == "bool" && T == "int")
def eIsi (T : String) (f : RE) : RE := fun l h => (f l h).bind fun r => (tyN r.2 r.1).map fun t => (.bl (isT t T), r.2)
theorem kit_all (K : PySem.W.Frag) : ∀ t ∈ ["NoneType", "bool", "int", "str", "tuple", "list"], ∀ T ∈ ["bool", "int", "str", "tuple", "list"], PySem.W.kitOne K (.type t) (.type T) = some (isT t T) := by
  intro t ht T hT
  simp only [List.mem_cons, List.mem_nil_iff, or_false] at ht hT
  rcases ht with rfl | rfl | rfl | rfl | rfl | rfl <;> rcases hT with rfl | rfl | rfl | rfl | rfl <;> with_unfolding_all rfl
theorem tyN_in {h : HI} {d : Dt} {t : String} (e : tyN h d = some t) : t ∈ ["NoneType", "bool", "int", "str", "tuple", "list"] := by
  cases d with
  | ref n =>
    simp only [tyN] at e
    split at e
    · cases e; decide
    · cases e
  | ntp n => simp only [tyN] at e; cases e
  | _ => simp only [tyN] at e <;> cases e <;> decide
theorem tyN_D {K : PySem.W.Frag} {H : Hp} {ρ : Rg} {h : HI} {d : Dt} {v : V} {t : String} (S : SimH K ρ h H) (R : RelD K H ρ d v) (e : tyN h d = some t) : TyD K H v t := by
  cases d with
  | non => cases rel_non.mp R; simp only [tyN] at e; cases e; rfl
  | bl b => cases rel_bl.mp R; simp only [tyN] at e; cases e; rfl
  | int b => cases rel_int.mp R; simp only [tyN] at e; cases e; rfl
  | str b => cases rel_str.mp R; simp only [tyN] at e; cases e; rfl
  | tup xs =>
    obtain ⟨a, vs, z, t, rs⟩ := rel_tup.mp R
    subst z
    simp only [tyN] at e
    cases e
    exact .inr ⟨rfl, vs, t.sq⟩
  | lst xs =>
    obtain ⟨a, vs, z, t, rs⟩ := rel_lst.mp R
    subst z
    simp only [tyN] at e
    cases e
    exact .inl ⟨rfl, vs, t.sq⟩
  | ref n =>
    obtain ⟨a, z, ha⟩ := rel_ref.mp R
    subst z
    simp only [tyN] at e
    split at e
    · rename_i xs q
      cases e
      obtain ⟨vs, h1, _⟩ := S.lst ha q
      exact .inl ⟨rfl, vs, SqL.of h1⟩
    · cases e
  | ntp n => simp only [tyN] at e; cases e
theorem em_isi {T : Str} {TT : String} (hg : Gl X "isinstance") (hm : X.mg "isinstance" = none) (hgT : Gl X T) (hmT : X.mg T = none) (hv : bootBuiltins T = some (.type TT)) (hT : TT ∈ ["bool", "int", "str", "tuple", "list"]) (ha : EM X e f)
    (hnT : T ≠ "__name__" := by decide) (hdT : (T == ("__debug__" : Str)) = false := by decide)
    (hs : notStar e = true := by rfl) :
    EM X (.Call (.Name "isinstance" p) [e, .Name T p2] [] pos) (eIsi TT f) := by
  with_unfolding_all
    exact PE.imp (pe_callB (call_isi (T := TT)) hg hm PyProof.Rows.boot_isinstance (pa_cons ha (pa_cons (pe_bltn hgT hmT hv (v := .ty TT) rfl hnT hdT) pa_nil (star_of rfl _ _)) (star_of hs _ _)) (he := star_of hs _ _)) fun σ H Q ⟨ρ, l, h, d, h', S, L, e, k⟩ => by
        obtain ⟨⟨d1, h1⟩, e1, e⟩ := bindE e
        refine ⟨ρ, l, h, d1, h1, S, L, e1, fun ρ1 v H1 R1 S1 E1 => ?_⟩
        cases q : tyN h1 d1 with
        | none => rw [q] at e; cases e
        | some t =>
          rw [q] at e
          cases e
          exact ⟨v, t, isT t TT, rfl, tyN_D S1 R1 q, kit_all X.K t (tyN_in q) TT hT, k ρ1 _ H1 (rel_bl.mpr rfl) S1 E1⟩
abbrev RO := LI → HI → Option (Option Int × HI)
def pNo : RO := fun _ h => some (none, h)
def pAt (f : RE) : RO := fun l h => (f l h).bind fun r => match r.1 with | .int i => some (some i, r.2) | _ => none
def tMO (K : PySem.W.Frag) (f : RO) : TO := fun σ H Q => ∃ ρ l h o h', SimH K ρ h H ∧ SimL K H ρ l σ ∧ f l h = some (o, h') ∧ OutB K ρ H h' (Q o)
@[irreducible] def OMo (X : Cx) (e : Option Expr) (f : RO) : Prop := PO X e (tMO X.K f)
theorem PO.imp {X : Cx} {e : Option Expr} {t t' : TO} (h : PO X e t) (i : ∀ σ H Q, t' σ H Q → t σ H Q) : PO X e t' := fun pins s σ H Q I q => h pins s σ H Q I (i σ H Q q)
theorem om_none : OMo X none pNo := by
  with_unfolding_all
    exact PO.imp po_none fun σ H Q ⟨ρ, l, h, o, h', S, L, e, k⟩ => by
      cases e
      exact k ρ H S (Ext.refl _ _)
theorem om_some (ha : EM X a fa) : OMo X (some a) (pAt fa) := by
  with_unfolding_all
    exact PO.imp (po_some ha) fun σ H Q ⟨ρ, l, h, o, h', S, L, e, k⟩ => by
      obtain ⟨⟨d1, h1⟩, e1, e⟩ := bindE e
      refine ⟨ρ, l, h, d1, h1, S, L, e1, fun ρ1 v H1 R1 S1 E1 => ?_⟩
      cases d1 with
      | int i =>
        cases e
        exact ⟨i, rel_int.mp R1, k ρ1 H1 S1 E1⟩
      | _ => cases e
def cutD (xs : List Dt) (lo hi : Option Int) : List Dt := (xs.drop (HT.sIx xs.length 0 lo)).take (HT.sIx xs.length xs.length hi - HT.sIx xs.length 0 lo)
def eSl (f : RE) (lo hi : RO) : RE := fun l h => (f l h).bind fun r => (lo l r.2).bind fun o => (hi l o.2).bind fun u => (seqL u.2 r.1).map fun xs => (.lst (cutD xs o.1 u.1), u.2)
theorem cut_rel {K : PySem.W.Frag} {H : Hp} {ρ : Rg} {xs : List Dt} {vs : List V} (r : RelDs K H ρ xs vs) (lo hi : Option Int) : RelDs K H ρ (cutD xs lo hi) (cutV vs lo hi) := by
  unfold cutD cutV
  rw [r.length]
  exact (r.drop _).take _
theorem em_slice {lo hi : Option Expr} {fl fh : RO} (ha : EM X a fa) (hl : OMo X lo fl) (hh : OMo X hi fh) : EM X (.Subscript a (.Slice lo hi none p2) pos) (eSl fa fl fh) := by
  with_unfolding_all
    exact PE.imp (pe_slice sl_list ha hl hh) fun σ H Q ⟨ρ, l, h, d, h', S, L, e, k⟩ => by
      obtain ⟨⟨d1, h1⟩, e1, e⟩ := bindE e
      obtain ⟨⟨o, h2⟩, e2, e⟩ := bindE e
      obtain ⟨⟨u, h3⟩, e3, e⟩ := bindE e
      refine ⟨ρ, l, h, d1, h1, S, L, e1, fun ρ1 v H1 R1 S1 E1 => ⟨ρ1, l, h1, o, h2, S1, L.ext E1, e2, fun ρ2 H2 S2 E2 => ⟨ρ2, l, h2, u, h3, S2, L.ext (E1.trans E2), e3, fun ρ3 H3 S3 E3 => ?_⟩⟩⟩
      cases q : seqL h3 d1 with
      | none => dsimp only at e; rw [q] at e; cases e
      | some xs =>
        dsimp only at e
        rw [q] at e
        cases e
        obtain ⟨x, vs, z, sq, r⟩ := seqL_at S3 (RelD.ext (E2.trans E3) _ R1) q
        exact ⟨x, vs, z, sq, fun p hp => k ρ3 _ _ (newLst S3 (cut_rel r o u) hp) (S3.fresh hp) (E1.trans (E2.trans (E3.trans (Ext.fresh hp))))⟩
def eApp (fo fa : RE) : RE := fun l h => (fo l h).bind fun r => match r.1 with
  | .ref n => (fa l r.2).bind fun q => match q.2[n]? with
    | some (.lst xs) => if xs.length < sizeLine then some (.non, q.2.set n (.lst (xs ++ [q.1]))) else none
    | _ => none
  | _ => none
theorem lst_ty {K : PySem.W.Frag} {H : Hp} {ρ : Rg} {h : HI} {n : Nat} {xs : List Dt} {v : V} (S : SimH K ρ h H) (R : RelD K H ρ (.ref n) v) (e : h[n]? = some (.lst xs)) : tyV K "list" v H := by
  obtain ⟨a, z, ha⟩ := rel_ref.mp R
  subst z
  obtain ⟨vs, h1, _⟩ := S.lst ha e
  exact .inl ⟨rfl, vs, SqL.of h1⟩
def eAppend (fa fb : RE) : RE := fun l h => (fa l h).bind fun r => match r.1 with
      | .ref n => match r.2[n]? with
        | some (.lst _) => eApp (eC (.ref n)) fb l r.2
        | _ => none
      | _ => none
theorem em_append {apos cpos : Pos} (ho : EM X a fa) (hb : EM X b fb) (hbase : attributeBase a "append" X.env (eval a X.env) = eval a X.env := by rfl)
    (hline : (apos.endLine == cpos.line) = true := by rfl) (hs : notStar b = true := by rfl) :
    EM X (.Call (.Attribute a "append" apos) [b] [] cpos) (eAppend fa fb) := by
  with_unfolding_all
    exact PE.imp (pe_bm PySem.F.plainAttrs_list PySem.F.slot_list_append PySem.F.type_list_append mt_append ho (pa_cons hb pa_nil (star_of hs _ _)) hbase (star_few hs) hline (star_of hs _ _)) fun σ H Q ⟨ρ, l, h, d, h', S, L, e, k⟩ => by
      obtain ⟨⟨d1, h1⟩, e1, e⟩ := bindE e
      refine ⟨ρ, l, h, d1, h1, S, L, e1, fun ρ1 v H1 R1 S1 E1 => ?_⟩
      cases d1 with
      | ref n =>
        dsimp only at e
        split at e
        · rename_i xs0 q0
          obtain ⟨⟨d0, h0⟩, z0, e⟩ := bindE e
          cases z0
          dsimp only at e
          obtain ⟨⟨d2, h2⟩, e2, e⟩ := bindE e
          refine ⟨lst_ty S1 R1 q0, ρ1, l, h1, d2, h2, S1, L.ext E1, e2, fun ρ2 y H2 R2 S2 E2 => ?_⟩
          dsimp only at e
          split at e
          · rename_i xs q
            obtain ⟨hz, e⟩ := ifE e
            cases e
            obtain ⟨a, z, ha⟩ := rel_ref.mp R1
            subst z
            have ha2 := E2.get ha
            obtain ⟨vs, g1, g2⟩ := S2.lst ha2 q
            have hm := List.mem_of_getElem? ha2
            refine ⟨a, vs, y, rfl, rfl, g1, by rw [g2.length]; exact hz, k ρ2 _ _ (rel_non.mpr rfl) (S2.write ha2 (nfz g1) ⟨_, upd_same, ?_⟩) (E1.trans (E2.trans (Ext.write hm (nfz g1))))⟩
            exact (g2.append (.cons R2 .nil)).ext (Ext.write hm (nfz g1))
          · cases e
        · cases e
      | _ => cases e
end
end SM
namespace SM
open PySem PySem.Spec PyProof.Rows L2
def idxD : List Dt → Dt → Option Nat
  | [], _ => none
  | y :: ys, x => if eqD y x = true then some 0 else (idxD ys x).map (· + 1)
section
variable {X : Cx} {pins : List (Addr × Obj)} {σ : L2.St} {H : Hp} {s : Shared} {ρ : Rg}
open Classical in
end
def idxOk (xs : List Dt) (d : Dt) : Bool := pureDs xs && pureD d && decide (depDs xs ≤ 50)
section
variable {X : Cx} {a b : Expr} {fa fb : RE}
def readK (K : PySem.W.Frag) : Nat → Value → Option Dt
  | _, .none => some .non
  | _, .bool b => some (.bl b)
  | _, .int i _ => some (.int i)
  | _, .str x _ => some (.str x)
  | 0, _ => none
  | n + 1, .ref a => match K.lookup a with
    | some ⟨.type T, dd, .seq its _, _⟩ => if its.size ≤ sizeLine then
        if T = "tuple" then (its.toList.mapM (readK K n)).map .tup
        else if T = "list" then match dd with | none => (its.toList.mapM (readK K n)).map .lst | some _ => none
        else none
      else none
    | _ => none
  | _, _ => none
def vOf : Value → V
  | .none => .non
  | .bool b => .bl b
  | .int i _ => .int i
  | .str x _ => .str x
  | .ref a => .ref a
  | _ => .non
theorem mapM_rel {K : PySem.W.Frag} {H : Hp} {ρ : Rg} {f : Value → Option Dt} (h : ∀ u d, f u = some d → RelV (vOf u) u ∧ RelD K H ρ d (vOf u)) : ∀ {us : List Value} {ds : List Dt}, us.mapM f = some ds → Vals (us.map vOf) us ∧ RelDs K H ρ ds (us.map vOf)
  | [], _, e => by
    simp at e
    subst e
    exact ⟨.nil, .nil⟩
  | u :: us, ds, e => by
    rw [List.mapM_cons] at e
    cases q : f u with
    | none => rw [q] at e; cases e
    | some d =>
      rw [q] at e
      cases q2 : us.mapM f with
      | none => rw [q2] at e; cases e
      | some ds' =>
        rw [q2] at e
        cases e
        obtain ⟨h1, h2⟩ := h u d q
        obtain ⟨h3, h4⟩ := mapM_rel h q2
        exact ⟨.cons h1 h3, .cons h2 h4⟩
theorem readK_rel {K : PySem.W.Frag} {H : Hp} {ρ : Rg} : ∀ (n : Nat) (u : Value) (d : Dt), readK K n u = some d → RelV (vOf u) u ∧ RelD K H ρ d (vOf u) := by
  intro n
  induction n with
  | zero =>
    intro u d e
    cases u with
    | none => simp only [readK] at e; cases e; exact ⟨rfl, rel_non.mpr rfl⟩
    | bool b => simp only [readK] at e; cases e; exact ⟨rfl, rel_bl.mpr rfl⟩
    | int i t => simp only [readK] at e; cases e; exact ⟨⟨_, rfl⟩, rel_int.mpr rfl⟩
    | str x t => simp only [readK] at e; cases e; exact ⟨⟨_, rfl⟩, rel_str.mpr rfl⟩
    | _ => simp only [readK] at e <;> cases e
  | succ n ih =>
    intro u d e
    cases u with
    | none => simp only [readK] at e; cases e; exact ⟨rfl, rel_non.mpr rfl⟩
    | bool b => simp only [readK] at e; cases e; exact ⟨rfl, rel_bl.mpr rfl⟩
    | int i t => simp only [readK] at e; cases e; exact ⟨⟨_, rfl⟩, rel_int.mpr rfl⟩
    | str x t => simp only [readK] at e; cases e; exact ⟨⟨_, rfl⟩, rel_str.mpr rfl⟩
    | ref a =>
      simp only [readK] at e
      split at e
      · rename_i T dd its m sl q
        by_cases hz : its.size ≤ sizeLine
        · rw [if_pos hz] at e
          by_cases hT : T = "tuple"
          · rw [if_pos hT] at e
            cases q2 : its.toList.mapM (readK K n) with
            | none => rw [q2] at e; cases e
            | some ds =>
              rw [q2] at e
              cases e
              obtain ⟨h1, h2⟩ := mapM_rel (K := K) (H := H) (ρ := ρ) ih q2
              subst hT
              exact ⟨rfl, rel_tup.mpr ⟨a, _, rfl, .inr ⟨_, its, m, q, rfl, rfl, hz, h1⟩, h2⟩⟩
          · rw [if_neg hT] at e
            by_cases hT2 : T = "list"
            · rw [if_pos hT2] at e
              split at e
              · cases q2 : its.toList.mapM (readK K n) with
                | none => rw [q2] at e; cases e
                | some ds =>
                  rw [q2] at e
                  cases e
                  obtain ⟨h1, h2⟩ := mapM_rel (K := K) (H := H) (ρ := ρ) ih q2
                  subst hT2
                  exact ⟨rfl, rel_lst.mpr ⟨a, _, rfl, .inr ⟨_, its, m, q, rfl, rfl, rfl, hz, h1⟩, h2⟩⟩
              · cases e
            · rw [if_neg hT2] at e
              cases e
        · rw [if_neg hz] at e
          cases e
      · cases e
    | _ => simp only [readK] at e <;> cases e
structure Con1 (K : PySem.W.Frag) (mg : Str → Option Value) (x : Str) (d : Dt) : Prop where
  ex : ∃ u n, mg x = some u ∧ readK K n u = some d
theorem em_con {x : Str} {d : Dt} {pos : Pos} (hg : Gl X x) (c : Con1 X.K X.mg x d) (hd : (x == ("__debug__" : Str)) = false := by decide) : EM X (.Name x pos) (eC d) := by
  with_unfolding_all
    obtain ⟨u, n, h1, h2⟩ := c.ex
    exact em_glob hg h1 (readK_rel (H := fun _ => none) (ρ := .nil) n u d h2).1 (fun H ρ => (readK_rel n u d h2).2) hd
end
theorem law_sp {K : PySem.W.Frag} {F : FnI} {n : Nat} (h : ∀ ns : List Int, ns.length ≤ n → ∃ h', F [.lst (ns.map Dt.int)] [] = some (.bl true, h')) (H : Hp) (a : Addr) (ns : List Int) (hl : ns.length ≤ n) (hS : SqL K H a (ns.map V.int)) :
    spM K 1 F [.ref a] H (fun v _ => v = .bl true) fun _ _ _ => False := by
  obtain ⟨h', e⟩ := h ns hl
  have R : RelD K H .nil (.lst (ns.map Dt.int)) (.ref a) := rel_lst.mpr ⟨a, _, rfl, by
    rcases hS with hS | hS
    · exact .inl ⟨⟨by simp [Rg.nil], by simp [Rg.nil]⟩, hS⟩
    · exact .inr hS, RelDs.ints ns⟩
  exact ⟨.nil, [.lst (ns.map Dt.int)], [], .bl true, h', SimH.nil, .cons R .nil, rfl, e, fun ρ' v H' R' S' E' => rel_bl.mp R'⟩
end SM
namespace SM
open PySem PySem.Spec PyProof.Rows L2
structure Cal (P : Program) (w : World) (K : PySem.W.Frag) (mg : Str → Option Value) (base : Heap) (k n : Nat) (x : Str) (F : FnI) : Prop where
  ex : ∃ f fd ps, FnOk P w K mg base CX0 k f fd ps (spM K n F) ∧ mg x = some (.ref f) ∧ PySem.W.keepIn K (.ref f) = true ∧ Binds K fd ps []
  len : ∀ ds h r, F ds h = some r → ds.length = n
structure DefAt (K : PySem.W.Frag) (mg : Str → Option Value) (x : Str) (st : Stmt) (ps : List Str) : Prop where
  ex : ∃ f fd, Fun K x x st f fd ∧ mg x = some (.ref f) ∧ Binds K fd ps []
section
variable {P : Program} {w : World} {K : PySem.W.Frag} {mg : Str → Option Value} {base : Heap}
theorem fn_okN {x qual : Str} {st : Stmt} {f : Addr} {fd : FuncData} {N ps : List Str} {k n m : Nat} {body : RS} (F : Fun K x qual st f fd) (S : FnScope N ps (defScope st)) (hn : ps.length = n) (hm : N.length = m)
    (hb : ∀ (cdv : Value) (A : Around) (outer : List Env) (s : Shared) (H : Hp) (E : XK), Room k (A.deeper (envOfC qual (defScope st) s.heap.objs.size f cdv)) →
      ZMs (cxOf CX0 P w K mg base N qual (defScope st) f cdv A outer s H E).nox (defBody st) body) : FnOk P w K mg base CX0 (k + 1) f fd ps (spM K n (fnI n m body)) := by
  with_unfolding_all
    subst hn hm
    exact fn_ok F S hb
theorem cal_of {x : Str} {st : Stmt} {N ps : List Str} {k n m : Nat} {body : RS} (D : DefAt K mg x st ps) (S : FnScope N ps (defScope st)) (hn : ps.length = n) (hm : N.length = m)
    (hb : ∀ (f : Addr) (cdv : Value) (A : Around) (outer : List Env) (s : Shared) (H : Hp) (E : XK), Room k (A.deeper (envOfC x (defScope st) s.heap.objs.size f cdv)) →
      ZMs (cxOf CX0 P w K mg base N x (defScope st) f cdv A outer s H E).nox (defBody st) body) : Cal P w K mg base (k + 1) n x (fnI n m body) := by
  with_unfolding_all
    subst hn hm
    obtain ⟨f, fd, hF, hm, hB⟩ := D.ex
    exact ⟨⟨f, fd, ps, fn_ok hF S fun cdv A outer s H E hr => hb f cdv A outer s H E hr, hm, hF.kp, hB⟩, fun ds h r e => fnI_len e⟩
end
section
variable {X : Cx} {k k' n : Nat} {F : FnI} {x : Str} {p pos : Pos} {e : Expr} {es : List Expr} {g : RA}
theorem em_call (c : Cal X.prog X.w X.K X.mg X.base k n x F) (hr : Room k' X.A) (hk : k ≤ k') (hg : Gl X x) (ha : AM X (e :: es) g) (hdb : (x == ("__debug__" : Str)) = false := by decide)
    (he : notStar e = true := by rfl) (hpl : es.all notStar = true := by rfl) :
    EM X (.Call (.Name x p) (e :: es) [] pos) (eCall F [] g) := by
  with_unfolding_all
    obtain ⟨f, fd, ps, h1, h2, h3, h4⟩ := c.ex
    exact em_callD h1 (hr.mono hk) hg h2 h3 h4 .nil (fun _ _ => .nil) ha (fun F' e ds h r q => c.len ds h r (e ▸ q)) hdb he hpl
theorem em_call0 (c : Cal X.prog X.w X.K X.mg X.base k n x F) (hr : Room k' X.A) (hk : k ≤ k') (hg : Gl X x) (hdb : (x == ("__debug__" : Str)) = false := by decide) :
    EM X (.Call (.Name x p) [] [] pos) (eCall0 F []) := by
  with_unfolding_all
    obtain ⟨f, fd, ps, h1, h2, h3, h4⟩ := c.ex
    exact em_call0D h1 (hr.mono hk) hg h2 h3 h4 .nil (fun _ _ => .nil) (fun F' e ds h r q => c.len ds h r (e ▸ q)) hdb
end
theorem law_walk {l : PySem.W.OpenLaw} {q : Program} {loose : List Str} {XP : (Str → Option Value) → Heap → Prop} {YP : World → Heap → Prop} {d : DefRec} {K : Params → PySem.W.Frag} {F : FnI} {k : Nat} {x : Str} (hn : l.most = some 63) (hdf : d.params.defaults = []) (hr : Room k callerA)
    (hY : ∀ (w : World) (h : Heap), YP w h → (K w.params).In h)
    (hF : ∀ (w : World) (mg : Str → Option Value) (fa : Addr) (h : Heap), (K w.params).In h → h.Ns mainGlobals mg → mg d.name = some (.ref fa) →
      ∃ fd : FuncData, (∀ (s : Shared) (u : Value), BindsTo s fd ⟨[u], []⟩ [(x, u)]) ∧ ∀ base : Heap, (K w.params).In base → base.Ns mainGlobals mg → FnOk l.prog w (K w.params) mg base CX0 k fa fd [x] (spM (K w.params) 1 F))
    (h : ∀ ns : List Int, ns.length ≤ 63 → ∃ h', F [.lst (ns.map Dt.int)] [] = some (.bl true, h')) : PySem.W.WalkO q loose XP YP l.row.toRowW d [] (fun f vs => PySem.call f vs) :=
  L2.walk_of (n := 63) (k := k) (x := x) (CX := fun _ => CX0) (sp := fun w => spM (K w.params) 1 F) hn (by decide) hdf hr hY hF (fun w H a ns hl _ hS => law_sp h H a ns hl hS) fun _ _ _ _ _ z => z
end SM
namespace L2
open PySem PySem.Spec PyProof.Rows
section
variable {X : Cx}
end
end L2
namespace SM
open PySem PySem.Spec PyProof.Rows L2
section
variable {X : Cx} {e : Expr} {f : RE} {p pos : Pos}
end
def enumD : Nat → List Dt → List Dt
  | _, [] => []
  | k, x :: xs => .tup [.int (k : Int), x] :: enumD (k + 1) xs
def iEnum (f : RE) : RI := fun l h => (f l h).bind fun r => match r.1 with | .lst xs => some (.vals (enumD 0 xs), r.2) | _ => none
def gSet2 (i j : Nat) : RG := fun d l => match d with
  | .tup [a, b] => some ((l.set i (some a)).set j (some b))
  | _ => none
end SM
namespace L2
open PySem PySem.Spec PyProof.Rows
section
variable {X : Cx} {pins : List (Addr × Obj)} {σ : List (Option V)} {H : Hp} {s : Shared} {h' : Heap}
theorem Inv.enumed {t' : Nat} {e it p : Addr} {xs : List V} (I : Inv X pins σ H s) (k : ∀ b o, b ≠ e → b ≠ it → s.heap.get? b = some o → h'.get? b = some o) (fe : FpOk X pins H e) (fi : FpOk X pins H it) (hp : s.heap.objs.size ≤ p)
    (new : ObjOk X.prog X.w (upd H p (.tup xs)) h' p (.tup xs)) : Inv X pins σ (upd H p (.tup xs)) { s with heap := h', toks := t' } := by
  obtain ⟨e0, e1, e2, e3, e4, e5⟩ := fe
  obtain ⟨i0, i1, i2, i3, i4, i5⟩ := fi
  have hn : H p = none := I.hok.fresh hp
  have ne : ∀ b u, H b = some u → b ≠ e := fun b u q z => by rw [z, e0] at q; cases q
  have ni : ∀ b u, H b = some u → b ≠ it := fun b u q z => by rw [z, i0] at q; cases q
  have nc : ∀ {b}, b ∉ [e, it] → b ≠ e ∧ b ≠ it := fun hc => ⟨fun z => hc (by simp [z]), fun z => hc (by simp [z])⟩
  refine I.step (g' := s.gens) (d' := s.drawn) (ch := [e, it]) (fun b hb => ?_) (fun b o _ _ hc q _ => k b o (nc hc).1 (nc hc).2 q) (fun b o _ _ hc q _ => ⟨o.slots, k b o (nc hc).1 (nc hc).2 q⟩)
    (fun b o _ q n => by rw [upd_ne (Nat.ne_of_lt (Nat.lt_of_lt_of_le (Heap.lt_size q) hp))]; exact n)
    (fun b o hc q => ⟨o, k b o (nc hc).1 (nc hc).2 q⟩) (fun b ys q => by rw [upd_ne (ne_of_none q hn)]; exact q) (fun b o u q => by rw [upd_ne (ne_of_none q hn)]; exact q)
    (fun b ps q => ⟨#[], by rw [upd_ne (ne_of_none q hn), q]; simp⟩) (fun m hm => ?_) (fun b u q => ?_) I.bare
  · have z : b = e ∨ b = it := by simpa using hb
    rcases z with rfl | rfl
    · exact ⟨e3, e1, e4, e5⟩
    · exact ⟨i3, i1, i4, i5⟩
  · obtain ⟨o, es, ep, ho, r⟩ := hm
    exact ⟨o, es, ep, k _ o (Ne.symm e1) (Ne.symm i1) ho, r⟩
  · by_cases hb : b = p
    · subst hb
      rw [upd_same] at q
      cases q
      exact new
    · rw [upd_ne hb] at q
      refine (I.hok b u q).stay (fun c v hc q' => ?_) (fun c q => by rw [upd_ne (ne_of_none q hn)]; exact q) fun c ys q => by rw [upd_ne (ne_of_none q hn)]; exact q
      rcases hc with z | z
      · subst z
        exact k c v (ne c u q) (ni c u q) q'
      · exact k c v (ne c _ z) (ni c _ z) q'
theorem Inv.turned2 {t' : Nat} {e it : Addr} (I : Inv X pins σ H s) (k : ∀ b o, b ≠ e → b ≠ it → s.heap.get? b = some o → h'.get? b = some o) (fe : FpOk X pins H e) (fi : FpOk X pins H it) : Inv X pins σ H { s with heap := h', toks := t' } := by
  obtain ⟨e0, e1, e2, e3, e4, e5⟩ := fe
  obtain ⟨i0, i1, i2, i3, i4, i5⟩ := fi
  have ne : ∀ b u, H b = some u → b ≠ e := fun b u q z => by rw [z, e0] at q; cases q
  have ni : ∀ b u, H b = some u → b ≠ it := fun b u q z => by rw [z, i0] at q; cases q
  have nc : ∀ {b}, b ∉ [e, it] → b ≠ e ∧ b ≠ it := fun hc => ⟨fun z => hc (by simp [z]), fun z => hc (by simp [z])⟩
  refine I.step (g' := s.gens) (d' := s.drawn) (ch := [e, it]) (fun b hb => ?_) (fun b o _ _ hc q _ => k b o (nc hc).1 (nc hc).2 q) (fun b o _ _ hc q _ => ⟨o.slots, k b o (nc hc).1 (nc hc).2 q⟩)
    (fun b o _ q n => n) (fun b o hc q => ⟨o, k b o (nc hc).1 (nc hc).2 q⟩) (fun b ys q => q) (fun b o u q => q)
    (fun b ps q => ⟨#[], by rw [q]; simp⟩) (fun m hm => ?_) (fun b u q => ?_) I.bare
  · have z : b = e ∨ b = it := by simpa using hb
    rcases z with rfl | rfl
    · exact ⟨e3, e1, e4, e5⟩
    · exact ⟨i3, i1, i4, i5⟩
  · obtain ⟨o, es, ep, ho, r⟩ := hm
    exact ⟨o, es, ep, k _ o (Ne.symm e1) (Ne.symm i1) ho, r⟩
  · refine (I.hok b u q).stay (fun c v hc q' => ?_) (fun c q => q) fun c ys q => q
    rcases hc with z | z
    · subst z
      exact k c v (ne c u q) (ni c u q) q'
    · exact k c v (ne c _ z) (ni c _ z) q'
end
def Ite (K : PySem.W.Frag) (a : Addr) : It :=
  ⟨fun i H => ∃ xs x, SqL K H a xs ∧ xs[i]? = some x, fun i H x H' => ∃ p y, H p = none ∧ x = .ref p ∧ (∀ xs, SqL K H a xs → xs[i]? = some y) ∧ H' = upd H p (.tup [.int (i : Nat), y]), fun i H => ∃ xs, SqL K H a xs ∧ xs.length ≤ i⟩
theorem turn_enum {P : Program} {w : World} {K : PySem.W.Frag} {elts : List Expr} {x1} {pos : Pos} (a e it : Addr) (hne : e ≠ it) : Turn P w K (.Tuple elts x1 pos) (Ite K a) [e, it] e (fun i h => (∃ old, IsEnum h e it i old) ∧ h.IsListIter it a i) where
  mem := by simp
  obj := fun i h st b hb => by
    obtain ⟨⟨old, s1⟩, s2⟩ := st
    have z : b = e ∨ b = it := by simpa using hb
    rcases z with rfl | rfl
    · exact ⟨_, s1, fun v z => by cases z⟩
    · obtain ⟨o, e, c, d⟩ := s2
      exact ⟨o, e, fun v z => by rw [d] at z; cases z⟩
  keep := fun i h h' st k => by
    obtain ⟨⟨old, s1⟩, s2⟩ := st
    exact ⟨⟨old, k e (by simp) _ s1⟩, s2.at fun o e => k it (by simp) o e⟩
  item := by
    intro X hP hw hK hc i pins s σ H E I hf st hg
    subst hP hw hK
    obtain ⟨⟨old, s1⟩, s2⟩ := st
    obtain ⟨xs, x, hq, hx⟩ := hg
    obtain ⟨its, rv, p, hz⟩ := I.list hq
    obtain ⟨u, hu, ru⟩ := rv.get hx
    have fe := hf e (by simp)
    have fi := hf it (by simp)
    refine wpAny_pyNext_enum_item s1 s2 p.isList (x := u) (by simpa using hu) hne fun h' out it' tup sz kp => ?_
    refine ⟨_, rfl, wpAny_letOwnedTupleGo_enum out fun h2 he2 sb => ?_⟩
    have hpe : s.heap.objs.size ≠ e := (Nat.ne_of_lt (Heap.lt_size s1)).symm
    have hpi : s.heap.objs.size ≠ it := by
      obtain ⟨o, q, _⟩ := s2
      exact (Nat.ne_of_lt (Heap.lt_size q)).symm
    have t2 : h2.get? s.heap.objs.size = some { cls := .type "tuple", data := .seq #[.int i s.toks, u] } := (sb.2 _ hpe).trans tup
    refine ⟨.ref s.heap.objs.size, upd H s.heap.objs.size (.tup [.int (i : Nat), x]), I.enumed (fun b o h1 h3 q => (sb.2 b h1).trans (kp b o h1 h3 q)) fe fi (Nat.le_refl _) ⟨by simp only [List.length_cons, List.length_nil]; rw [sizeLine_eq]; decide, [.int i s.toks, u], .cons ⟨_, rfl⟩ (.cons ru .nil), ⟨_, t2, rfl, _, rfl⟩⟩, rfl, ⟨_, x, I.hok.fresh (Nat.le_refl _), rfl, fun ys hy => by rw [I.list_inj hy hq]; exact hx, rfl⟩, ⟨⟨_, he2⟩, it'.at fun o q => (sb.2 it (Ne.symm hne)).trans q⟩, fun b hb => ?_⟩
    have z : b = e ∨ b = it := by simpa using hb
    rcases z with rfl | rfl
    · rw [upd_ne (Ne.symm hpe)]; exact fe.1
    · rw [upd_ne (Ne.symm hpi)]; exact fi.1
  done := by
    intro X hP hw hK hc i pins s σ H E I hf st hg
    subst hP hw hK
    obtain ⟨⟨old, s1⟩, s2⟩ := st
    obtain ⟨xs, hq, hx⟩ := hg
    obtain ⟨its, rv, p, hz⟩ := I.list hq
    have hl := rv.length
    exact wpAny_pyNext_enum_end (I.ok.hd hc) s1 s2 p.isList (by simp; omega) fun h' eb => ⟨rfl, I.turned2 (t' := s.toks) (fun b o _ h3 q => eb b o h3 q) (hf e (by simp)) (hf it (by simp))⟩
  self := fun _ _ _ _ _ st h => by
    obtain ⟨⟨old, s1⟩, _⟩ := st
    exact wpAny_pyIter_enum s1 h
section
variable {X : Cx}
def iEnu (K : PySem.W.Frag) (ta : TA) : TI := fun σ H R => ta σ H fun vs H1 => ∃ a, vs = [.ref a] ∧ (∃ xs, SqL K H1 a xs) ∧ R (Ite K a) H1
theorem pi_enum {elts : List Expr} {x1} {tp : Pos} {a : Expr} {ta : TA} {p pos : Pos} (hg : Gl X "enumerate") (hm : X.mg "enumerate" = none) (ha : PA X [a] ta) (hs : starEach [a] X.env = [(false, eval a X.env)] := by rfl) :
    PI X (.Tuple elts x1 tp) (.Call (.Name "enumerate" p) [a] [] pos) (iEnu X.K ta) := by
  intro pins s σ H R I h
  refine Call_ (ld_blt I hg hm boot_enumerate (PyProof.Rows.callWith_type1 (thn (ha pos pins s σ H _ I h) fun us s1 ⟨vs, H1, I1, r1, q1⟩ => ?_) hs rfl))
  obtain ⟨b, e, ⟨xs, hq⟩, q⟩ := q1
  subst e
  cases r1 with
  | cons r rr =>
    cases rr
    cases r
    obtain ⟨its, rv, pl, hz⟩ := I1.list hq
    refine call_enumerate_list pl.isList fun h' he hit hsz k => ?_
    have I2 : Inv X pins σ H1 { s1 with heap := h' } := I1.kept (t' := s1.toks) k
    refine wpAny_pyIter_enum he ?_
    refine ⟨s1.heap.objs.size + 1, [s1.heap.objs.size + 1, s1.heap.objs.size], _, _, H1, rfl, I2, turn_enum b (s1.heap.objs.size + 1) s1.heap.objs.size (Nat.succ_ne_self _), ⟨⟨_, he⟩, hit⟩, fun c hc => ?_, q⟩
    have z : c = s1.heap.objs.size + 1 ∨ c = s1.heap.objs.size := by simpa using hc
    rcases z with rfl | rfl
    · exact I1.fpOk (Nat.le_succ _) (I1.hok.fresh (Nat.le_succ _))
    · exact I1.fpOk (Nat.le_refl _) (I1.hok.fresh (Nat.le_refl _))
end
end L2
namespace SM
open PySem PySem.Spec PyProof.Rows L2
theorem enumD_get : ∀ (xs : List Dt) (k i : Nat), (enumD k xs)[i]? = (xs[i]?).map fun x => .tup [.int ((k + i : Nat) : Int), x]
  | [], _, _ => by simp [enumD]
  | x :: xs, k, 0 => by simp [enumD]
  | x :: xs, k, i + 1 => by
    simp only [enumD, List.getElem?_cons_succ]
    rw [enumD_get xs (k + 1) i]
    have : k + 1 + i = k + (i + 1) := by omega
    rw [this]
section
variable {X : Cx}
theorem im_enum {elts : List Expr} {x1} {tp p pos : Pos} {a : Expr} {f : RE} (hg : Gl X "enumerate") (hm : X.mg "enumerate" = none) (ha : EM X a f) (hs : notStar a = true := by rfl) : IM X (.Tuple elts x1 tp) (.Call (.Name "enumerate" p) [a] [] pos) (iEnum f) := by
  with_unfolding_all
    refine PI.imp (pi_enum hg hm (pa_cons ha pa_nil (star_of hs _ _)) (star_of hs _ _)) fun σ H R ⟨ρ, l, h, s, h', S, L, e, k⟩ => ?_
    obtain ⟨⟨d1, h2⟩, e1, e⟩ := bindE e
    refine ⟨ρ, l, h, d1, h2, S, L, e1, fun ρ1 v H1 R1 S1 E1 => ?_⟩
    cases d1 with
    | lst xs =>
      cases e
      obtain ⟨b, ws, rfl, q, r⟩ := rel_lst.mp R1
      refine ⟨b, rfl, ⟨ws, q.sq⟩, k ρ1 _ H1 (fun H2 ρ2 h2 E2 S2 i => ?_) S1 E1⟩
      have q2 := q.same E2
      have r2 := RelDs.same E2 _ r
      simp only [Src.at, enumD_get, Nat.zero_add]
      cases ei : xs[i]? with
      | none =>
        refine ⟨ws, q2.sq, ?_⟩
        rw [r.length]
        exact List.getElem?_eq_none_iff.mp ei
      | some d =>
        obtain ⟨v, g1, g2⟩ := r2.get ei
        refine ⟨⟨ws, v, q2.sq, g1⟩, fun u H3 y => ?_⟩
        obtain ⟨p0, y0, hp, rfl, gy, rfl⟩ := y
        have g3 := gy ws q2.sq
        rw [g1] at g3
        cases g3
        exact ⟨newTup S2 (.cons (rel_int.mpr rfl) (.cons g2 .nil)) hp, Ext.fresh hp, S2.fresh hp⟩
    | _ => cases e
theorem gm_two (i j : Nat) {x y : Str} {px py pos : Pos} {x1} (hc : X.calm = true) (hN : X.N.Nodup) (hi : X.N[i]? = some x := by rfl) (hj : X.N[j]? = some y := by rfl)
    (hx : Loc X.env.scope x := by first | exact Or.inl rfl | exact Or.inr rfl) (hy : Loc X.env.scope y := by first | exact Or.inl rfl | exact Or.inr rfl)
    (hf : X.fn x = true ∨ X.env.scope.names.lookup x = some .local := by first | exact .inl rfl | exact .inr rfl | assumption)
    (hf' : X.fn y = true ∨ X.env.scope.names.lookup y = some .local := by first | exact .inl rfl | exact .inr rfl | assumption) : GM X (.Tuple [.Name x px, .Name y py] x1 pos) (gSet2 i j) := by
  with_unfolding_all
    refine PG.imp (pg_tup (n := 2) hc (pgs_cons (pg_name hN hi hx hf) (pgs_cons (pg_name hN hj hy hf') pgs_nil))) fun v σ H Q ⟨ρ, l, h, d, l', S, L, R, e, k⟩ => ?_
    unfold gSet2 at e
    split at e
    · cases e
      obtain ⟨a, vs, rfl, q, r⟩ := rel_tup.mp R
      obtain ⟨v1, r1, rfl, R1, r⟩ := r.uncons
      obtain ⟨v2, r2, rfl, R2, r⟩ := r.uncons
      cases r.unnil
      exact ⟨a, [v1, v2], rfl, q.sq, rfl, v1, [v2], rfl, v2, [], rfl, rfl, k _ ((L.set i R1).set j R2)⟩
    · cases e
end
end SM
namespace SM
open PySem PySem.Spec PyProof.Rows L2
def sSetIx (fe fo fi : RE) : RS := fun l h => (fe l h).bind fun v => (fo l v.2).bind fun o => (fi l o.2).bind fun i => match o.1, i.1 with
  | .ref n, .int k => match i.2[n]? with
    | some (.lst xs) => (ixN xs.length k).bind fun j => some (.nx l (i.2.set n (.lst (xs.set j v.1))))
    | _ => none
  | _, _ => none
def gSet3 (i j k : Nat) : RG := fun d l => match d with
  | .tup [a, b, c] => some (((l.set i (some a)).set j (some b)).set k (some c))
  | _ => none
def allD (f : Dt → Option Dt) : List Dt → Option (List Dt)
  | [] => some []
  | x :: xs => (f x).bind fun y => (allD f xs).map fun ys => y :: ys
def resD (h : HI) : Nat → Dt → Option Dt
  | 0, _ => none
  | n + 1, .tup xs => (allD (resD h n) xs).map .tup
  | n + 1, .lst xs => (allD (resD h n) xs).map .lst
  | n + 1, .ref k => match h[k]? with | some (.lst xs) => (allD (resD h n) xs).map .lst | _ => none
  | _ + 1, .ntp _ => none
  | _ + 1, d => some d
def oNeX : Op2 := fun a b h => (resD h 8 a).bind fun a' => (resD h 8 b).bind fun b' => (oNeD a' b' []).map fun r => (r.1, h)
def eExtend (fo fa : RE) : RE := fun l h => (fo l h).bind fun r => match r.1 with
  | .ref n => match r.2[n]? with
    | some (.lst _) => (fa l r.2).bind fun q => match q.1 with
      | .ref m => match q.2[n]?, q.2[m]? with
        | some (.lst xs), some (.lst ys) => if xs.length + ys.length ≤ sizeLine then some (.non, q.2.set n (.lst (xs ++ ys))) else none
        | _, _ => none
      | _ => none
    | _ => none
  | _ => none
def eF2 (F : Dt → Dt → Option Dt) (fa fb : RE) : RE := fun l h => (fa l h).bind fun r => (fb l r.2).bind fun q => (F r.1 q.1).map fun d => (d, q.2)
def fMax2 : Dt → Dt → Option Dt := fun a b => match a, b with | .int i, .int j => some (.int (if j > i then j else i)) | _, _ => none
end SM
namespace L2
open PySem PySem.Spec PyProof.Rows
section
variable {X : Cx}
end
section
variable {X : Cx} {pins : List (Addr × Obj)} {σ : List (Option V)} {H : Hp} {s : Shared} {h' : Heap}
end
section
variable {X : Cx}
end
end L2
namespace SM
open PySem PySem.Spec PyProof.Rows L2
section
variable {X : Cx} {e o i a b : Expr} {f g fe fo fi fa fb : RE} {p pos pos' : Pos}
theorem zm_setIx (he : EM X e fe) (ho : EM X o fo) (hi : EM X i fi)
    (hs : swapsWithSole [.Subscript o i pos'] e pos.line X.env = pure false := by rfl) (hw : swappedStores [.Subscript o i pos'] e X.env = pure none := by rfl) (h1 : (assignEach [.Subscript o i pos'] X.env).map (·.2) = [assign (.Subscript o i pos') X.env] := by rfl)
    (ha : ∀ v, assign (.Subscript o i pos') X.env v = (do
      let ov ← holding [v] (eval o X.env)
      let iv ← holding [v, ov] (eval i X.env)
      standAt pos'
      holding [v, ov, iv] (setItem ov iv v)
      release [v, ov, iv] []) := by intro _; rfl) : ZM X (.Assign [.Subscript o i pos'] e pos) (sSetIx fe fo fi) := by
  with_unfolding_all
    exact PS.imp (ps_asg he (pg_sub ho hi set_list ha) hs hw h1) fun D σ H ⟨ρ, l, h, r, S, L, e, k⟩ => by
      obtain ⟨⟨v, hv⟩, e1, e⟩ := bindE e
      obtain ⟨⟨d, hd⟩, e2, e⟩ := bindE e
      obtain ⟨⟨j, hj⟩, e3, e⟩ := bindE e
      refine ⟨ρ, l, h, v, hv, S, L, e1, fun ρ1 u H1 R1 S1 E1 => ⟨ρ1, l, hv, d, hd, S1, L.ext E1, e2, fun ρ2 y H2 R2 S2 E2 => ⟨ρ2, l, hd, j, hj, S2, L.ext (E1.trans E2), e3, fun ρ3 z H3 R3 S3 E3 => ?_⟩⟩⟩
      cases d with
      | ref n =>
        cases j with
        | int kk =>
          dsimp only at e
          split at e
          · rename_i xs q
            obtain ⟨jj, e4, e⟩ := bindE e
            cases e
            obtain ⟨aa, zz, ha⟩ := rel_ref.mp (RelD.ext E3 _ R2)
            obtain ⟨vs, g1, g2⟩ := S3.lst ha q
            have hm := List.mem_of_getElem? ha
            refine ⟨aa, vs, kk, jj, zz, rel_int.mp R3, g1, by rw [g2.length]; exact e4, ?_⟩
            exact k ρ3 σ _ (S3.write ha (nfz g1) ⟨_, upd_same, (g2.set jj (RelD.ext (E2.trans E3) _ R1)).ext (Ext.write hm (nfz g1))⟩) (L.ext (E1.trans (E2.trans (E3.trans (Ext.write hm (nfz g1)))))) (E1.trans (E2.trans (E3.trans (Ext.write hm (nfz g1)))))
          · cases e
        | _ => cases e
      | _ => cases e
theorem gm_three (i j m : Nat) {x y z : Str} {px py pz pos : Pos} {x1} (hc : X.calm = true) (hN : X.N.Nodup) (hi : X.N[i]? = some x := by rfl) (hj : X.N[j]? = some y := by rfl) (hm : X.N[m]? = some z := by rfl)
    (hx : Loc X.env.scope x := by first | exact Or.inl rfl | exact Or.inr rfl) (hy : Loc X.env.scope y := by first | exact Or.inl rfl | exact Or.inr rfl) (hz : Loc X.env.scope z := by first | exact Or.inl rfl | exact Or.inr rfl)
    (hf : X.fn x = true ∨ X.env.scope.names.lookup x = some .local := by first | exact .inl rfl | exact .inr rfl | assumption)
    (hf' : X.fn y = true ∨ X.env.scope.names.lookup y = some .local := by first | exact .inl rfl | exact .inr rfl | assumption)
    (hf2 : X.fn z = true ∨ X.env.scope.names.lookup z = some .local := by first | exact .inl rfl | exact .inr rfl | assumption) : GM X (.Tuple [.Name x px, .Name y py, .Name z pz] x1 pos) (gSet3 i j m) := by
  with_unfolding_all
    refine PG.imp (pg_tup (n := 3) hc (pgs_cons (pg_name hN hi hx hf) (pgs_cons (pg_name hN hj hy hf') (pgs_cons (pg_name hN hm hz hf2) pgs_nil)))) fun v σ H Q ⟨ρ, l, h, d, l', S, L, R, e, k⟩ => ?_
    unfold gSet3 at e
    split at e
    · cases e
      obtain ⟨a, vs, rfl, q, r⟩ := rel_tup.mp R
      obtain ⟨v1, r1, rfl, R1, r⟩ := r.uncons
      obtain ⟨v2, r2, rfl, R2, r⟩ := r.uncons
      obtain ⟨v3, r3, rfl, R3, r⟩ := r.uncons
      cases r.unnil
      exact ⟨a, [v1, v2, v3], rfl, q.sq, rfl, v1, [v2, v3], rfl, v2, [v3], rfl, v3, [], rfl, rfl, k _ (((L.set i R1).set j R2).set m R3)⟩
    · cases e
end
section
variable {K : PySem.W.Frag} {H : Hp} {ρ : Rg} {h : HI}
theorem SimH.bare (S : SimH K ρ h H) : SimH K ⟨[], ρ.z⟩ [] H := ⟨List.nodup_nil, rfl, fun _ _ _ e => by simp at e, fun a ha => ⟨by simp, (S.zt a ha).2⟩⟩
theorem allD_rel {f : Dt → Option Dt} (hf : ∀ d d' v, f d = some d' → RelD K H ρ d v → RelD K H ⟨[], ρ.z⟩ d' v) : ∀ (xs : List Dt) {ys : List Dt} {vs : List V}, allD f xs = some ys → RelDs K H ρ xs vs → RelDs K H ⟨[], ρ.z⟩ ys vs
  | [], ys, vs, e, r => by
    cases e
    rw [r.unnil]
    exact .nil
  | x :: xs, ys, vs, e, r => by
    obtain ⟨v, rr, rfl, r1, r2⟩ := r.uncons
    obtain ⟨y, e1, e⟩ := bindE (show (f x).bind _ = some ys from e)
    cases q : allD f xs with
    | none => rw [q] at e; cases e
    | some zs =>
      rw [q] at e
      cases e
      exact .cons (hf _ _ _ e1 r1) (allD_rel hf xs q r2)
theorem TupAt.bare {a : Addr} {vs : List V} (t : TupAt K H ρ a vs) : TupAt K H ⟨[], ρ.z⟩ a vs := by
  rcases t with ⟨n, t⟩ | t
  · exact .inl ⟨⟨by simp, n.2⟩, t⟩
  · exact .inr t
theorem LstAt.bare {a : Addr} {vs : List V} (t : LstAt K H ρ a vs) : LstAt K H ⟨[], ρ.z⟩ a vs := by
  rcases t with ⟨n, t⟩ | t
  · exact .inl ⟨⟨by simp, n.2⟩, t⟩
  · exact .inr t
theorem resD_rel (S : SimH K ρ h H) : ∀ (n : Nat) (d d' : Dt) (v : V), resD h n d = some d' → RelD K H ρ d v → RelD K H ⟨[], ρ.z⟩ d' v
  | 0, _, _, _, e, _ => by simp [resD] at e
  | n + 1, .non, _, _, e, r => by simp only [resD] at e; cases e; simp only [RelD] at r ⊢; exact r
  | n + 1, .bl _, _, _, e, r => by simp only [resD] at e; cases e; simp only [RelD] at r ⊢; exact r
  | n + 1, .int _, _, _, e, r => by simp only [resD] at e; cases e; simp only [RelD] at r ⊢; exact r
  | n + 1, .str _, _, _, e, r => by simp only [resD] at e; cases e; simp only [RelD] at r ⊢; exact r
  | n + 1, .tup xs, _, _, e, r => by
    simp only [resD] at e
    cases q : allD (resD h n) xs with
    | none => rw [q] at e; cases e
    | some ys =>
      rw [q] at e
      cases e
      obtain ⟨a, vs, z, t, rr⟩ := rel_tup.mp r
      exact rel_tup.mpr ⟨a, vs, z, t.bare, allD_rel (fun d d' v => resD_rel S n d d' v) xs q rr⟩
  | n + 1, .lst xs, _, _, e, r => by
    simp only [resD] at e
    cases q : allD (resD h n) xs with
    | none => rw [q] at e; cases e
    | some ys =>
      rw [q] at e
      cases e
      obtain ⟨a, vs, z, t, rr⟩ := rel_lst.mp r
      exact rel_lst.mpr ⟨a, vs, z, t.bare, allD_rel (fun d d' v => resD_rel S n d d' v) xs q rr⟩
  | n + 1, .ntp m, _, _, e, r => by simp only [resD] at e; cases e
  | n + 1, .ref m, _, _, e, r => by
    simp only [resD] at e
    split at e
    · rename_i xs q0
      cases q : allD (resD h n) xs with
      | none => rw [q] at e; cases e
      | some ys =>
        rw [q] at e
        cases e
        obtain ⟨a, z, ha⟩ := rel_ref.mp r
        obtain ⟨vs, g1, g2⟩ := S.lst ha q0
        refine rel_lst.mpr ⟨a, vs, z, .inl ⟨⟨by simp, fun hz => (S.zt a hz).1 (List.mem_of_getElem? ha)⟩, .inl g1⟩, allD_rel (fun d d' v => resD_rel S n d d' v) xs q g2⟩
    · cases e
theorem SimH.grown {H' : Hp} (S : SimH K ρ h H) (g : ∀ a o, H a = some o → H' a = some o) : SimH K ρ h H' := by
  have sm : Same2 ρ ρ H H' := ⟨fun _ _ _ n => n, fun a u e _ => g a u e, fun _ _ e => e, fun a q u e => g a _ e⟩
  refine ⟨S.nd, S.len, fun n a o e1 e2 => ?_, fun a ha => ?_⟩
  · have q := S.ob n a o e1 e2
    obtain ⟨u, hu⟩ := q.some
    exact ObAt.same sm ((g a u hu).trans hu.symm) q
  · obtain ⟨n, o, e⟩ := S.zt a ha
    exact ⟨n, o, g a _ e⟩
end
section
variable {X : Cx}
theorem om_res {f : Value → Value → Sem Value} {op : Op2} (hb : ∀ a b h d h', op a b h = some (d, h') → ∃ k, d = .bl k) (ho : OM X f op) : OM X f (fun a b h => (resD h 8 a).bind fun a' => (resD h 8 b).bind fun b' => (op a' b' []).map fun r => (r.1, h)) := by
  with_unfolding_all
    exact OpR.imp ho fun x y H Q ⟨ρ, h, d1, d2, d, h', S, R1, R2, e, k⟩ => by
      obtain ⟨a', e1, e⟩ := bindE e
      obtain ⟨b', e2, e⟩ := bindE e
      cases q : op a' b' [] with
      | none => rw [q] at e; cases e
      | some r =>
        obtain ⟨r, hr⟩ := r
        rw [q] at e
        cases e
        refine ⟨⟨[], ρ.z⟩, [], a', b', r, hr, S.bare, resD_rel S _ _ _ _ e1 R1, resD_rel S _ _ _ _ e2 R2, q, fun ρ' v H' R' S' E' => ?_⟩
        obtain ⟨kk, rfl⟩ := hb _ _ _ _ _ q
        have g : ∀ a o, H a = some o → H' a = some o := fun a o ha => E'.keep a o ha (by simp)
        exact k ρ v H' (rel_bl.mpr (rel_bl.mp R')) (S.grown g) ⟨⟨[], by simp, by simp⟩, rfl, fun a o ha _ => g a o ha, E'.live, fun a q u e => g a _ e⟩
theorem neD_bl (a b : Dt) (h : HI) (d : Dt) (h' : HI) (e : oNeD a b h = some (d, h')) : ∃ k, d = .bl k := by
  unfold oNeD at e
  split at e
  · obtain ⟨_, e⟩ := ifE e; cases e; exact ⟨_, rfl⟩
  · obtain ⟨_, e⟩ := ifE e; cases e; exact ⟨_, rfl⟩
  · unfold oNe at e
    split at e
    · obtain ⟨_, e⟩ := ifE e; cases e; exact ⟨_, rfl⟩
    · cases e
theorem om_neX (hu : X.A.units + 64 < cLine) : OM X (compareOp .NotEq) oNeX := om_res neD_bl (om_neD hu)
end
end SM
namespace SM
open PySem PySem.Spec PyProof.Rows L2
section
variable {X : Cx} {e o i a b : Expr} {f g fe fo fi fa fb : RE} {p pos pos' apos cpos : Pos}
theorem em_extend (ho : EM X a fa) (hb : EM X b fb) (hbase : attributeBase a "extend" X.env (eval a X.env) = eval a X.env := by rfl)
    (hline : (apos.endLine == cpos.line) = true := by rfl) (hs : notStar b = true := by rfl) :
    EM X (.Call (.Attribute a "extend" apos) [b] [] cpos) (eExtend fa fb) := by
  with_unfolding_all
    exact PE.imp (pe_bm PySem.F.plainAttrs_list PySem.F.slot_list_extend PySem.F.type_list_extend mt_extend ho (pa_cons hb pa_nil (star_of hs _ _)) hbase (star_few hs) hline (star_of hs _ _)) fun σ H Q ⟨ρ, l, h, d, h', S, L, e, k⟩ => by
      obtain ⟨⟨d1, h1⟩, e1, e⟩ := bindE e
      refine ⟨ρ, l, h, d1, h1, S, L, e1, fun ρ1 v H1 R1 S1 E1 => ?_⟩
      cases d1 with
      | ref n =>
        dsimp only at e
        split at e
        · rename_i xs0 q0
          obtain ⟨⟨d2, h2⟩, e2, e⟩ := bindE e
          refine ⟨lst_ty S1 R1 q0, ρ1, l, h1, d2, h2, S1, L.ext E1, e2, fun ρ2 y H2 R2 S2 E2 => ?_⟩
          dsimp only at e
          cases d2 with
          | ref m =>
            dsimp only at e
            split at e
            · rename_i xs ys q1 q2
              obtain ⟨hz, e⟩ := ifE e
              cases e
              obtain ⟨a, z, ha⟩ := rel_ref.mp R1
              subst z
              obtain ⟨a2, z2, ha2'⟩ := rel_ref.mp R2
              subst z2
              have ha2 := E2.get ha
              obtain ⟨vs, g1, g2⟩ := S2.lst ha2 q1
              obtain ⟨ws, g3, g4⟩ := S2.lst ha2' q2
              have hm := List.mem_of_getElem? ha2
              refine ⟨a, a2, vs, ws, rfl, rfl, g1, g3, by rw [g2.length, g4.length]; exact hz, k ρ2 _ _ (rel_non.mpr rfl) (S2.write ha2 (nfz g1) ⟨_, upd_same, ?_⟩) (E1.trans (E2.trans (Ext.write hm (nfz g1))))⟩
              exact (g2.append g4).ext (Ext.write hm (nfz g1))
            · cases e
          | _ => cases e
        · cases e
      | _ => cases e
theorem em_max2 (hc : X.calm = true) (hg : Gl X "max") (hm : X.mg "max" = none) (ha : EM X a fa) (hb : EM X b fb) (hs : notStar a = true := by rfl) (hs2 : notStar b = true := by rfl) : EM X (.Call (.Name "max" p) [a, b] [] pos) (eF2 fMax2 fa fb) := by
  with_unfolding_all
    exact PE.imp (pe_callB (call_max2 hc) hg hm PyProof.Rows.boot_max (pa_cons ha (pa_cons hb pa_nil (star_of hs2 _ _)) (star_of hs _ _)) (he := star_of hs _ _) (hpl := star_any (by rw [List.all_cons, hs2]; rfl))) fun σ H Q ⟨ρ, l, h, d, h', S, L, e, k⟩ => by
      obtain ⟨⟨d1, h1⟩, e1, e⟩ := bindE e
      obtain ⟨⟨d2, h2⟩, e2, e⟩ := bindE e
      refine ⟨ρ, l, h, d1, h1, S, L, e1, fun ρ1 v H1 R1 S1 E1 => ⟨ρ1, l, h1, d2, h2, S1, L.ext E1, e2, fun ρ2 u H2 R2 S2 E2 => ?_⟩⟩
      cases d1 with
      | int i =>
        cases d2 with
        | int j =>
          cases e
          exact ⟨i, j, by rw [rel_int.mp R1, rel_int.mp R2], k ρ2 _ H2 (rel_int.mpr rfl) S2 (E1.trans E2)⟩
        | _ => cases e
      | _ => cases e
end
end SM
namespace L2
open PySem PySem.Spec PyProof.Rows
section
variable {X : Cx}
end
end L2
namespace SM
open PySem PySem.Spec PyProof.Rows L2
section
variable {X : Cx} {e o i a b : Expr} {f g fe fo fi fa fb : RE} {p pos pos' apos cpos : Pos}
end
end SM
namespace L2
open PySem PySem.Spec PyProof.Rows

section
variable {κ : Type} [DecidableEq κ]
def dropK (kvs : List (κ × V)) (k : κ) : List (κ × V) := kvs.filter fun kv => decide (kv.1 ≠ k)


theorem RelO.getD {o : Option V} {u : Option Value} {d : V} {d' : Value} (r : RelO o u) (rd : RelV d d') : RelV (o.getD d) (u.getD d') := by
  cases o with
  | none => cases u with
    | none => exact rd
    | some _ => exact (show False from r).elim
  | some _ => cases u with
    | none => exact (show False from r).elim
    | some _ => exact r

theorem KV.drop {kvs : List (κ × V)} {vs : List (κ × Value)} (r : KV kvs vs) (k : κ) : KV (dropK kvs k) (without vs k) := by
  unfold KV at r ⊢
  unfold dropK without
  induction r with
  | nil => exact .nil
  | @cons p q ps qs h t ih =>
    obtain ⟨h1, h2⟩ := h
    rw [List.filter_cons, List.filter_cons]
    by_cases e : p.1 = k
    · have a : ¬ decide (p.1 ≠ k) = true := by simp [e]
      have b : ¬ decide (q.1 ≠ k) = true := by simp [h1.symm.trans e]
      rw [if_neg a, if_neg b]; exact ih
    · have e' : ¬ q.1 = k := fun z => e (h1.trans z)
      have a : decide (p.1 ≠ k) = true := by simp [e]
      have b : decide (q.1 ≠ k) = true := by simp [e']
      rw [if_pos a, if_pos b]; exact .cons ⟨h1, h2⟩ ih
theorem KV.keys {kvs : List (κ × V)} {vs : List (κ × Value)} (r : KV kvs vs) : kvs.map (·.1) = vs.map (·.1) := by
  unfold KV at r
  induction r with
  | nil => rfl
  | cons h t ih => rw [List.map_cons, List.map_cons, ih, h.1]
theorem KV.length {kvs : List (κ × V)} {vs : List (κ × Value)} (r : KV kvs vs) : kvs.length = vs.length := Paired.length r
end



abbrev KT (H : Hp) : List (List Key × V) → List (List Key × Addr × Value) → Prop := Paired fun p q => p.1 = q.1 ∧ H q.2.1 = some (.tup (p.1.map kV)) ∧ RelV p.2 q.2.2
theorem KT.keeps {H H' : Hp} {kvs : List (List Key × V)} {xs : List (List Key × Addr × Value)} (r : KT H kvs xs) (ht : ∀ b ys, H b = some (.tup ys) → H' b = some (.tup ys)) : KT H' kvs xs :=
  Paired.mapP r fun _ _ z => ⟨z.1, ht _ _ z.2.1, z.2.2⟩

section
variable {P : Program} {w : World} {H : Hp} {h : Heap} {a : Addr}
end



section
variable {X : Cx} {pins : List (Addr × Obj)} {σ : St} {H : Hp} {s : Shared} {a : Addr} {y v : V} {u r : Value} {o : Option V} {A : Around} {E : Value → Shared → Prop}


end

section
variable {X : Cx} {pins : List (Addr × Obj)} {σ : St} {H : Hp} {s : Shared} {a : Addr} {kvs : List (Key × V)} {k : Key} {u : Value} {A : Around} {E : Value → Shared → Prop}
end





section
variable {X : Cx} {o i e value : Expr} {pos pos' tpos : Pos} {td ty tv : TE}
end


section
variable {X : Cx} {pos : Pos}
end




structure M1 (X : Cx) (o : Expr) (m : Str) (apos : Pos) (e : Expr) (cpos : Pos) : Prop where
  base : attributeBase o m X.env (eval o X.env) = eval o X.env
  few : ((backTo cpos (starEach [e] X.env)).all (fun x => !x.1) && (backToKw cpos (keywordEach [] X.env)).all (fun x => x.1.isSome)
    && decide (([e] : List Expr).length + ([] : List Keyword).length + (if ([] : List Keyword).isEmpty then 0 else 1) < 30)) = true
  line : (apos.endLine == cpos.line) = true
  trees : backTo cpos (starEach [e] X.env) = [(false, eval e X.env)]
structure M2 (X : Cx) (o : Expr) (m : Str) (apos : Pos) (e f : Expr) (cpos : Pos) : Prop where
  base : attributeBase o m X.env (eval o X.env) = eval o X.env
  few : ((backTo cpos (starEach [e, f] X.env)).all (fun x => !x.1) && (backToKw cpos (keywordEach [] X.env)).all (fun x => x.1.isSome)
    && decide (([e, f] : List Expr).length + ([] : List Keyword).length + (if ([] : List Keyword).isEmpty then 0 else 1) < 30)) = true
  line : (apos.endLine == cpos.line) = true
  trees : backTo cpos (starEach [e, f] X.env) = [(false, eval e X.env), (false, eval f X.env)]


section
variable {X : Cx} {pins : List (Addr × Obj)} {σ : St} {H : Hp} {s : Shared} {a : Addr} {y d : V} {u r : Value} {o : Option V} {A : Around} {E : Value → Shared → Prop}
end

section
variable {X : Cx} {o e f : Expr} {apos cpos : Pos} {td ty tx : TE}
end

section
variable {X : Cx} {pins : List (Addr × Obj)} {σ : St} {H : Hp} {s : Shared} {a : Addr} {kvs : List (Key × V)} {A : Around} {E : Value → Shared → Prop}
end


section
variable {X : Cx} {pins : List (Addr × Obj)} {σ : St} {H : Hp} {s : Shared} {a : Addr} {y : V} {u : Value} {A : Around} {E : Value → Shared → Prop}
end
end L2

namespace L2
open PySem PySem.Spec PyProof.Rows
section
variable {prog : Program} {w : World} {A : Around} {E : Value → Shared → Prop} {s : Shared}
end
section
variable {X : Cx}
end
end L2
namespace SM
open PySem PySem.Spec PyProof.Rows L2
section
variable {K : PySem.W.Frag} {H : Hp} {ρ : Rg}
abbrev KD (K : PySem.W.Frag) (H : Hp) (ρ : Rg) (kvs : List (List Int × Dt)) (vs : List (List Key × V)) : Prop := vs.map (·.1) = kvs.map (fun p => p.1.map Sum.inl) ∧ RelDs K H ρ (kvs.map (·.2)) (vs.map (·.2))
theorem KD.unnil {vs : List (List Key × V)} (r : KD K H ρ [] vs) : vs = [] := by
  have := r.1
  simpa using this
theorem KD.uncons {p : List Int × Dt} {kvs : List (List Int × Dt)} {vs : List (List Key × V)} (r : KD K H ρ (p :: kvs) vs) : ∃ v rs, vs = (p.1.map Sum.inl, v) :: rs ∧ RelD K H ρ p.2 v ∧ KD K H ρ kvs rs := by
  obtain ⟨h1, h2⟩ := r
  cases vs with
  | nil => simp at h1
  | cons q rs =>
    simp only [List.map_cons, List.cons.injEq] at h1
    obtain ⟨v, r', e, g1, g2⟩ := RelDs.uncons (by simpa only [List.map_cons] using h2)
    simp only [List.map_cons, List.cons.injEq] at e
    obtain ⟨q1, q2⟩ := q
    have h11 : q1 = p.1.map Sum.inl := h1.1
    have e1 : q2 = v := e.1
    subst e1
    exact ⟨q2, rs, by rw [h11], g1, h1.2, by rw [e.2]; exact g2⟩
theorem KD.cons {p : List Int × Dt} {v : V} {kvs : List (List Int × Dt)} {vs : List (List Key × V)} (g : RelD K H ρ p.2 v) (r : KD K H ρ kvs vs) : KD K H ρ (p :: kvs) ((p.1.map Sum.inl, v) :: vs) :=
  ⟨by simp only [List.map_cons]; rw [r.1], .cons g r.2⟩
theorem KD.length {kvs : List (List Int × Dt)} {vs : List (List Key × V)} (r : KD K H ρ kvs vs) : vs.length = kvs.length := by
  have := congrArg List.length r.1
  simpa using this
end
section
variable {X : Cx} {e o i d a b f : Expr} {fe fo fi fa fb fy fx : RE} {pos pos' apos cpos : Pos}
end
end SM
namespace L2
open PySem PySem.Spec PyProof.Rows
section
variable {prog : Program} {w : World} {A : Around} {R : Result → Shared → Prop} {I : Addr} {fp wr : List Addr} {n : Nat} {P : Nat → Value → Prop} {St : Nat → Heap → Prop}
end
section
variable {prog : Program} {w : World} {A : Around} {E : Value → Shared → Prop} {s : Shared}
end
end L2
namespace L2
open PySem PySem.Spec PyProof.Rows
section
variable {X : Cx} {e d : Expr} {ta : TA} {td : TE} {p pos kp : Pos}
end
end L2
namespace SM
open PySem PySem.Spec PyProof.Rows L2
section
variable {X : Cx} {e d : Expr} {fa fd : RE} {p pos kp : Pos}
end
end SM
namespace L2
open PySem PySem.Spec PyProof.Rows
section
variable {X : Cx}
end
end L2
namespace SM
open PySem PySem.Spec PyProof.Rows L2
section
variable {X : Cx} {e : Expr} {f : RE} {p p' pos pos' : Pos}
end
end SM
namespace L2
open PySem PySem.Spec PyProof.Rows
section
variable {X : Cx} {tg : Expr}
end
end L2
namespace SM
open PySem PySem.Spec PyProof.Rows L2
section
variable {X : Cx} {tg : Expr}
end
theorem ifE2 {c : Prop} [Decidable c] {α : Type} {x : Option α} {b : α} (e : (if c then x else none) = some b) : c ∧ x = some b := by
  by_cases h : c
  · rw [if_pos h] at e
    exact ⟨h, e⟩
  · rw [if_neg h] at e
    cases e
section
variable {P : Program} {w : World} {K : PySem.W.Frag} {mg : Str → Option Value} {base : Heap}
end
section
variable {X : Cx} {e o value : Expr} {es : List Expr} {x f m : Str} {fo fe : RE} {g : RA} {pos pos' apos p : Pos} {k k' n : Nat} {F : FnI}
end
end SM
namespace SM
open PySem PySem.Spec PyProof.Rows L2
section
variable {P : Program} {w : World} {K : PySem.W.Frag} {mg : Str → Option Value} {base : Heap}
end
section
variable {X : Cx} {k k' n : Nat} {F : FnI} {x : Str} {p pos : Pos} {e : Expr} {es : List Expr} {g : RA} {dds : List Dt}
end
def DefK (K : PySem.W.Frag) (x : Str) (st : Stmt) : Prop := ∃ (f : Addr) (oc : Value) (od : Option Addr) (kV dc pm : Value) (an : Option Addr) (cd ct : Value) (sl : Array (Option Value)), PySem.W.nsIn K mainGlobals x = some (some (.ref f)) ∧
  K.lookup f = some ⟨oc, od, .func (PySem.W.fnOf x x (defArgs st) (defBody st) (defScope st) .none kV dc pm an cd ct), sl⟩ ∧ PySem.W.codeIn K cd x = true ∧ PySem.W.keepIn K (.ref f) = true
section
variable {K : PySem.W.Frag} {h : Heap} {mg : Str → Option Value} {x m qual : Str} {st : Stmt} {ps : List Str} {C : Addr} {d : Int}
theorem defk_at (X : K.In h) (G : h.Ns mainGlobals mg) (D : DefK K x st) (hb : ∀ (kV doc pm : Value) (an : Option Addr) (cdv ct : Value) (us : List Value), us.length = ps.length → bindArgs (PySem.W.fnOf x x (defArgs st) (defBody st) (defScope st) .none kV doc pm an cdv ct) ⟨us, []⟩ = pure (ps.zip us)) : DefAt K mg x st ps := by
  obtain ⟨f, oc, od, kV, dc, pm, an, cd, ct, sl, a, l, c, k⟩ := D
  have F := fun_mk l c k
  exact ⟨⟨f, _, F, PySem.W.mg_of X G a, F.binds hb⟩⟩
end
section
variable {Q : List Value → Prop}
theorem len0 (h : Q []) : ∀ us : List Value, us.length = 0 → Q us | [], _ => h
theorem lenS {n : Nat} (h : ∀ a us, us.length = n → Q (a :: us)) : ∀ us : List Value, us.length = n + 1 → Q us | a :: us, e => h a us (Nat.succ.inj e)
theorem len1 (h : ∀ a, Q [a]) : ∀ us : List Value, us.length = 1 → Q us := lenS fun a => len0 (h a)
theorem len2 (h : ∀ a b, Q [a, b]) : ∀ us : List Value, us.length = 2 → Q us := lenS fun a => lenS fun b => len0 (h a b)
theorem len3 (h : ∀ a b c, Q [a, b, c]) : ∀ us : List Value, us.length = 3 → Q us := lenS fun a => lenS fun b => lenS fun c => len0 (h a b c)
theorem len4 (h : ∀ a b c d, Q [a, b, c, d]) : ∀ us : List Value, us.length = 4 → Q us := lenS fun a => lenS fun b => lenS fun c => lenS fun d => len0 (h a b c d)
end
theorem mkSc {N P : List Str} {sc : Scope} (a : sc.kind = .function := by exact rfl) (b : sc.isCoroutine = false := by exact rfl) (c : sc.isGenerator = false := by exact rfl) (d : N.Nodup := by decide +kernel) (e : N.take P.length = P := by exact rfl)
    (f : ∀ x ∈ P, sc.names.lookup x = some .local ∨ sc.names.lookup x = some .cell := by decide +kernel) (g : ∀ y ∈ sc.names, y.2 ≠ .free := by decide +kernel) : FnScope N P sc := ⟨a, b, c, d, e, f, g⟩
theorem em_c {X : Cx} {k k' n : Nat} {x : Str} {F : FnI} {e : Expr} {es : List Expr} {g : RA} {p pos : Pos} (c : Cal X.prog X.w X.K X.mg X.base k n x F) (hr : Room k' X.A) (ha : AM X (e :: es) g) (hk : k ≤ k' := by decide) (hg : Gl X x := by exact rfl) (hdb : (x == ("__debug__" : Str)) = false := by decide)
    (he : notStar e = true := by rfl) (hpl : es.all notStar = true := by rfl) : EM X (.Call (.Name x p) (e :: es) [] pos) (eCall F [] g) := em_call c hr hk hg ha hdb he hpl
end SM
namespace L2
open PySem PySem.Spec PyProof.Rows
section
variable {X : Cx}
end
end L2
namespace SM
open PySem PySem.Spec PyProof.Rows L2
section
variable {X : Cx} {a b : Expr} {fa fb : RE}
end
end SM
namespace ST
open PySem PySem.SetTable
def Rise (xs : Array Nat) : Prop := ∀ i k, i < k → k < xs.size → xs.getD i 0 < xs.getD k 0
theorem go_spec {xs : Array Nat} {j : Nat} (hr : Rise xs) : ∀ (fuel lo hi : Nat), hi - lo ≤ fuel → lo ≤ hi → hi ≤ xs.size → (∀ i < lo, xs.getD i 0 < j) → (∀ i, hi ≤ i → i < xs.size → j ≤ xs.getD i 0) →
    below.go xs j fuel lo hi ≤ xs.size ∧ (∀ i < below.go xs j fuel lo hi, xs.getD i 0 < j) ∧ ∀ i, below.go xs j fuel lo hi ≤ i → i < xs.size → j ≤ xs.getD i 0 := by
  intro fuel
  induction fuel with
  | zero =>
    intro lo hi h1 h2 h3 h4 h5
    have : lo = hi := by omega
    subst this
    simp only [below.go]
    exact ⟨h3, h4, h5⟩
  | succ fuel ih =>
    intro lo hi h1 h2 h3 h4 h5
    simp only [below.go]
    by_cases hl : lo < hi
    · rw [if_pos hl]
      have hm : (lo + hi) / 2 < hi := by omega
      have hm2 : lo ≤ (lo + hi) / 2 := by omega
      have e : xs.getD ((lo + hi) / 2) j = xs.getD ((lo + hi) / 2) 0 := by
        simp [Array.getD, show (lo + hi) / 2 < xs.size by omega]
      rw [e]
      by_cases hc : xs.getD ((lo + hi) / 2) 0 < j
      · rw [if_pos hc]
        refine ih _ _ (by omega) (by omega) h3 (fun i hi' => ?_) h5
        by_cases z : i = (lo + hi) / 2
        · rw [z]; exact hc
        · exact Nat.lt_trans (hr i _ (by omega) (by omega)) hc
      · rw [if_neg hc]
        refine ih _ _ (by omega) (by omega) (by omega) h4 (fun i h6 h7 => ?_)
        by_cases z : i = (lo + hi) / 2
        · rw [z]; omega
        · have := hr ((lo + hi) / 2) i (by omega) h7
          omega
    · rw [if_neg hl]
      have : lo = hi := by omega
      subst this
      exact ⟨h3, h4, h5⟩
theorem below_spec {xs : Array Nat} (hr : Rise xs) (j : Nat) : below xs j ≤ xs.size ∧ (∀ i < below xs j, xs.getD i 0 < j) ∧ ∀ i, below xs j ≤ i → i < xs.size → j ≤ xs.getD i 0 := by
  unfold below
  exact go_spec hr _ _ _ (by omega) (Nat.zero_le _) (Nat.le_refl _) (fun i h => absurd h (Nat.not_lt_zero _)) fun i h1 h2 => by omega
theorem getD_of {xs : Array Nat} {i j : Nat} (e : xs[i]? = some j) : i < xs.size ∧ xs.getD i 0 = j := by
  obtain ⟨h, e⟩ := Array.getElem?_eq_some_iff.mp e
  exact ⟨h, by simp [Array.getD, h, e]⟩
theorem of_getD {xs : Array Nat} {i : Nat} (h : i < xs.size) : xs[i]? = some (xs.getD i 0) := by
  simp [Array.getD, h]
theorem below_of {xs : Array Nat} (hr : Rise xs) {i j : Nat} (e : xs[i]? = some j) : below xs j = i := by
  obtain ⟨h1, h2, h3⟩ := below_spec hr j
  obtain ⟨hi, e⟩ := getD_of e
  rcases Nat.lt_trichotomy (below xs j) i with h | h | h
  · have := h3 (below xs j) (Nat.le_refl _) (by omega)
    have := hr _ _ h hi
    omega
  · exact h
  · have := h2 i h
    omega
def at_ {α : Type} (pl : Array Nat) (es : Array α) (j : Nat) : Option α := if pl[below pl j]? = some j then es[below pl j]? else none
theorem slot_of {t : SetTable} (hd : t.dummies = #[]) (j : Nat) : t.slot j = if t.place[below t.place j]? = some j then .live (below t.place j) else .empty := by
  unfold SetTable.slot
  simp only
  by_cases c : t.place[below t.place j]? = some j
  · rw [if_pos (by rw [c]; exact beq_iff_eq.mpr rfl), if_pos c]
  · rw [if_neg (fun z => c (beq_iff_eq.mp z)), if_neg c, if_neg]
    rw [hd]
    simp [SetTable.has]
end ST
namespace ST
open PySem PySem.SetTable
theorem ins_get {α : Type} {xs : Array α} {p : Nat} (hp : p ≤ xs.size) (x : α) (i : Nat) : (insertAt xs p x)[i]? = if i < p then xs[i]? else if i = p then some x else xs[i - 1]? := by
  unfold insertAt
  have e1 : (xs.extract 0 p).size = p := by simp; omega
  rw [Array.getElem?_append]
  simp only [Array.size_push, e1]
  by_cases h1 : i < p
  · rw [if_pos (by omega), if_pos h1, Array.getElem?_push, e1, if_neg (by omega), Array.getElem?_extract]
    rw [if_pos (by omega)]; simp
  · by_cases h2 : i = p
    · subst h2
      rw [if_pos (by omega), if_neg (by omega), if_pos rfl, Array.getElem?_push, e1, if_pos rfl]
    · rw [if_neg (by omega), if_neg h1, if_neg h2, Array.getElem?_extract]
      by_cases h3 : i - 1 < xs.size
      · rw [if_pos (by omega)]
        congr 1
        omega
      · rw [if_neg (by omega), Array.getElem?_eq_none (by omega)]
theorem ins_size {α : Type} {xs : Array α} {p : Nat} (hp : p ≤ xs.size) (x : α) : (insertAt xs p x).size = xs.size + 1 := by
  unfold insertAt
  simp
  omega
theorem at_some {α : Type} {pl : Array Nat} {es : Array α} (hr : Rise pl) {j : Nat} {v : α} : at_ pl es j = some v ↔ ∃ i : Nat, pl[i]? = some j ∧ es[i]? = some v := by
  unfold at_
  constructor
  · intro h
    by_cases c : pl[below pl j]? = some j
    · rw [if_pos c] at h; exact ⟨_, c, h⟩
    · rw [if_neg c] at h; cases h
  · rintro ⟨i, h1, h2⟩
    have e := below_of hr h1
    rw [e, if_pos h1]; exact h2
theorem at_none {α : Type} {pl : Array Nat} {es : Array α} (hr : Rise pl) (hs : pl.size = es.size) {j : Nat} : at_ pl es j = none ↔ ∀ i : Nat, pl[i]? ≠ some j := by
  constructor
  · intro h i e
    have hi := (getD_of e).1
    have := (at_some (es := es) hr).mpr ⟨i, e, Array.getElem?_eq_getElem (h := by omega)⟩
    rw [h] at this; cases this
  · intro h
    unfold at_
    rw [if_neg (h _)]
section
variable {α : Type} {pl : Array Nat} {es : Array α} (hr : Rise pl) (hs : pl.size = es.size) {j : Nat} {x : α}
include hr
theorem ins_rise (hn : ∀ i : Nat, pl[i]? ≠ some j) : Rise (insertAt pl (below pl j) j) := by
  obtain ⟨h1, h2, h3⟩ := below_spec hr j
  intro i k hik hk
  rw [ins_size h1] at hk
  have g : ∀ i, i < pl.size + 1 → (insertAt pl (below pl j) j).getD i 0 = if i < below pl j then pl.getD i 0 else if i = below pl j then j else pl.getD (i - 1) 0 := by
    intro i hi
    have e := ins_get h1 j i
    by_cases c1 : i < below pl j
    · rw [if_pos c1] at e ⊢
      exact (getD_of (e.trans (of_getD (by omega)))).2
    · by_cases c2 : i = below pl j
      · rw [if_neg c1, if_pos c2] at e ⊢; exact (getD_of e).2
      · rw [if_neg c1, if_neg c2] at e ⊢
        exact (getD_of (e.trans (of_getD (by omega)))).2
  rw [g i (by omega), g k hk]
  by_cases c1 : k < below pl j
  · rw [if_pos c1, if_pos (by omega)]; exact hr i k hik (by omega)
  · by_cases c2 : k = below pl j
    · rw [if_neg c1, if_pos c2, if_pos (by omega)]; exact h2 i (by omega)
    · rw [if_neg c1, if_neg c2]
      have b := h3 (k - 1) (by omega) (by omega)
      have ne : pl.getD (k - 1) 0 ≠ j := fun z => hn (k - 1) (by rw [of_getD (by omega), z])
      by_cases c3 : i < below pl j
      · rw [if_pos c3]; have := h2 i c3; omega
      · by_cases c4 : i = below pl j
        · rw [if_neg c3, if_pos c4]; omega
        · rw [if_neg c3, if_neg c4]; exact hr (i - 1) (k - 1) (by omega) (by omega)
include hs
theorem ins_at (hn : ∀ i : Nat, pl[i]? ≠ some j) (j' : Nat) : at_ (insertAt pl (below pl j) j) (insertAt es (below pl j) x) j' = if j' = j then some x else at_ pl es j' := by
  obtain ⟨h1, h2, h3⟩ := below_spec hr j
  have hr' := ins_rise hr hn
  have hp2 : below pl j ≤ es.size := by omega
  by_cases c : j' = j
  · subst c
    rw [if_pos rfl]
    refine (at_some hr').mpr ⟨below pl j', ?_, ?_⟩
    · rw [ins_get h1, if_neg (Nat.lt_irrefl _), if_pos rfl]
    · rw [ins_get hp2, if_neg (Nat.lt_irrefl _), if_pos rfl]
  · rw [if_neg c]
    cases q : at_ pl es j' with
    | some v =>
      obtain ⟨i, e1, e2⟩ := (at_some hr).mp q
      refine (at_some hr').mpr ?_
      by_cases d : i < below pl j
      · exact ⟨i, by rw [ins_get h1, if_pos d]; exact e1, by rw [ins_get hp2, if_pos d]; exact e2⟩
      · exact ⟨i + 1, by rw [ins_get h1, if_neg (by omega), if_neg (by omega)]; exact e1, by rw [ins_get hp2, if_neg (by omega), if_neg (by omega)]; exact e2⟩
    | none =>
      have q' := (at_none hr hs).mp q
      refine (at_none hr' (by rw [ins_size h1, ins_size hp2, hs])).mpr fun i e => ?_
      rw [ins_get h1] at e
      by_cases d : i < below pl j
      · rw [if_pos d] at e; exact q' _ e
      · by_cases d2 : i = below pl j
        · rw [if_neg d, if_pos d2] at e; cases e; exact c rfl
        · rw [if_neg d, if_neg d2] at e; exact q' _ e
end
end ST
namespace ST
open PySem PySem.SetTable
def stp (m : Nat) (p : Probe) : Probe :=
  if p.more > 0 then { p with j := p.j + 1, more := p.more - 1 } else
  { p with j := (leap m p.i p.perturb).1, more := runEnd m (leap m p.i p.perturb).1 - (leap m p.i p.perturb).1, i := (leap m p.i p.perturb).1, perturb := (leap m p.i p.perturb).2 }
def st0 (m b : Nat) : Probe := { j := b % (m + 1), more := runEnd m (b % (m + 1)) - b % (m + 1), i := b % (m + 1), perturb := b, dummy := none }
theorem advance_eq (t : SetTable) (p : Probe) : t.advance p = stp t.mask p := rfl
def pa (m b : Nat) : Nat → Probe
  | 0 => st0 m b
  | n + 1 => stp m (pa m b n)
def I (m b : Nat) : Nat → Nat
  | 0 => b % (m + 1)
  | k + 1 => (I m b k * 5 + 1 + b / 32 ^ (k + 1)) % (m + 1)
def rn (m b k : Nat) : Probe := { j := I m b k, more := runEnd m (I m b k) - I m b k, i := I m b k, perturb := b / 32 ^ k, dummy := none }
def r (m b : Nat) : Nat → Nat
  | 0 => 0
  | k + 1 => r m b k + (runEnd m (I m b k) - I m b k) + 1
theorem run_le (m i : Nat) : runEnd m i - i ≤ 9 := by
  unfold runEnd
  split <;> omega
theorem r_le (m b : Nat) : ∀ k, r m b k ≤ 10 * k := by
  intro k
  induction k with
  | zero => exact Nat.le_refl _
  | succ k ih => have := run_le m (I m b k); simp only [r]; omega
theorem pa_in {m b : Nat} {q : Probe} {n : Nat} (e : pa m b n = q) : ∀ k ≤ q.more, pa m b (n + k) = { q with j := q.j + k, more := q.more - k } := by
  intro k
  induction k with
  | zero => intro _; simp [e]
  | succ k ih =>
    intro hk
    have h := ih (by omega)
    show stp m (pa m b (n + k)) = _
    rw [h]
    unfold stp
    rw [if_pos (by show q.more - k > 0; omega)]
    simp only [Probe.mk.injEq, and_true]
    omega
theorem pa_r (m b : Nat) : ∀ k, pa m b (r m b k) = rn m b k := by
  intro k
  induction k with
  | zero => simp [r, pa, rn, st0, I]
  | succ k ih =>
    have h := pa_in ih (rn m b k).more (Nat.le_refl _)
    show stp m (pa m b (r m b k + (rn m b k).more)) = _
    rw [h]
    unfold stp
    rw [if_neg (by show ¬ (rn m b k).more - (rn m b k).more > 0; omega)]
    have e : b / 32 ^ k / 32 = b / 32 ^ (k + 1) := by rw [Nat.div_div_eq_div_mul, Nat.pow_succ]
    simp [rn, leap, I, e]
theorem pa_j (m b k : Nat) {d : Nat} (hd : d ≤ runEnd m (I m b k) - I m b k) : (pa m b (r m b k + d)).j = I m b k + d := by
  rw [pa_in (pa_r m b k) d hd]
  rfl
def fm (m i : Nat) : Nat := (i * 5 + 1) % (m + 1)
def itf (m : Nat) : Nat → Nat → Nat
  | 0, i => i
  | n + 1, i => itf m n (fm m i)
theorem itf_add (m : Nat) : ∀ a c i, itf m (a + c) i = itf m c (itf m a i) := by
  intro a
  induction a with
  | zero => intro c i; simp [itf]
  | succ a ih => intro c i; rw [show a + 1 + c = (a + c) + 1 by omega]; exact ih c (fm m i)
def orb (m : Nat) : Nat → Nat → List Nat
  | 0, _ => []
  | n + 1, i => i :: orb m n (fm m i)
theorem orb_get (m : Nat) : ∀ n i k, k < n → (orb m n i)[k]? = some (itf m k i) := by
  intro n
  induction n with
  | zero => intro i k h; omega
  | succ n ih =>
    intro i k h
    cases k with
    | zero => rfl
    | succ k => simp only [orb, List.getElem?_cons_succ, itf]; exact ih _ _ (by omega)
theorem orb_len (m : Nat) : ∀ n i, (orb m n i).length = n := by
  intro n
  induction n with
  | zero => intro i; rfl
  | succ n ih => intro i; simp [orb, ih]
def Msk (m : Nat) : Prop := m = 7 ∨ m = 31 ∨ m = 127 ∨ m = 511
def allIn (m : Nat) : Bool := ((List.range (m + 1)).all fun j => (orb m (m + 1) 0).contains j) && itf m (m + 1) 0 == 0
theorem all7 : allIn 7 = true := by decide +kernel
theorem all31 : allIn 31 = true := by decide +kernel
theorem all127 : allIn 127 = true := by decide +kernel
theorem all511 : allIn 511 = true := by decide +kernel
theorem all_in {m : Nat} (h : Msk m) : allIn m = true := by
  rcases h with rfl | rfl | rfl | rfl
  · exact all7
  · exact all31
  · exact all127
  · exact all511
theorem orb_all {m : Nat} (h : Msk m) {j : Nat} (hj : j ≤ m) : ∃ n ≤ m, itf m n 0 = j := by
  have a := all_in h
  unfold allIn at a
  rw [Bool.and_eq_true] at a
  have c := List.all_eq_true.mp a.1 j (List.mem_range.mpr (by omega))
  have c := List.contains_iff_mem.mp c
  obtain ⟨n, hn, e⟩ := List.getElem_of_mem c
  rw [orb_len] at hn
  refine ⟨n, by omega, ?_⟩
  have := orb_get m (m + 1) 0 n hn
  rw [List.getElem?_eq_getElem (by rw [orb_len]; exact hn), e] at this
  exact (Option.some.inj this).symm
theorem itf_all {m : Nat} (h : Msk m) {i j : Nat} (hi : i ≤ m) (hj : j ≤ m) : ∃ n ≤ m, itf m n i = j := by
  obtain ⟨a, ha, ea⟩ := orb_all h hi
  obtain ⟨c, hc, ec⟩ := orb_all h hj
  have z : itf m (m + 1) 0 = 0 := by
    have a := all_in h
    unfold allIn at a
    rw [Bool.and_eq_true] at a
    exact beq_iff_eq.mp a.2
  by_cases q : a ≤ c
  · refine ⟨c - a, by omega, ?_⟩
    rw [← ea, ← itf_add, show a + (c - a) = c by omega, ec]
  · refine ⟨c + (m + 1) - a, by omega, ?_⟩
    rw [← ea, ← itf_add, show a + (c + (m + 1) - a) = (m + 1) + c by omega, itf_add, z, ec]
theorem I_lt (m b k : Nat) : I m b k ≤ m := by
  cases k with
  | zero => exact Nat.lt_succ_iff.mp (Nat.mod_lt _ (Nat.succ_pos m))
  | succ k => exact Nat.lt_succ_iff.mp (Nat.mod_lt _ (Nat.succ_pos m))
theorem I_late {m b : Nat} (hb : b < 2 ^ 64) : ∀ n, I m b (12 + n) = itf m n (I m b 12) := by
  have z : ∀ k, 12 ≤ k → b / 32 ^ (k + 1) = 0 := by
    intro k hk
    refine Nat.div_eq_of_lt (Nat.lt_of_lt_of_le hb ?_)
    calc 2 ^ 64 ≤ 32 ^ 13 := by decide
      _ ≤ 32 ^ (k + 1) := Nat.pow_le_pow_right (by decide) (by omega)
  have f : ∀ k, 12 ≤ k → I m b (k + 1) = fm m (I m b k) := by
    intro k hk
    simp only [I, z k hk, fm, Nat.add_zero]
  intro n
  induction n with
  | zero => rfl
  | succ n ih =>
    rw [show 12 + (n + 1) = (12 + n) + 1 by omega, f _ (by omega), ih, itf_add m n 1]
    rfl
theorem cover {m b : Nat} (h : Msk m) (hb : b < 2 ^ 64) {j : Nat} (hj : j ≤ m) : ∃ k ≤ m + 12, I m b k = j := by
  obtain ⟨n, hn, e⟩ := itf_all h (I_lt m b 12) hj
  exact ⟨12 + n, by omega, (I_late hb n).trans e⟩
theorem cover_pa {m b : Nat} (h : Msk m) (hb : b < 2 ^ 64) {j : Nat} (hj : j ≤ m) : ∃ n < 10 * (m + 13), (pa m b n).j = j := by
  obtain ⟨k, hk, e⟩ := cover h hb hj
  refine ⟨r m b k, ?_, ?_⟩
  · have := r_le m b k; omega
  · have := pa_j m b k (Nat.zero_le _); rw [Nat.add_zero] at this; rw [this, e]; omega
theorem bits_lt (h : Int) : bits h < 2 ^ 64 := by
  unfold bits
  have h1 := Int.emod_nonneg h (show (2 ^ 64 : Int) ≠ 0 by decide)
  have h2 := Int.emod_lt_of_pos h (show (0 : Int) < 2 ^ 64 by decide)
  omega
end ST
namespace ST
open PySem PySem.SetTable
theorem least {p : Nat → Prop} : ∀ B, (∃ n < B, p n) → ∃ n < B, p n ∧ ∀ k < n, ¬ p k := by
  intro B
  induction B with
  | zero => rintro ⟨n, h, _⟩; omega
  | succ B ih =>
    rintro ⟨n, h, hp⟩
    by_cases q : ∃ n < B, p n
    · obtain ⟨n, h1, h2⟩ := ih q
      exact ⟨n, by omega, h2⟩
    · refine ⟨n, h, hp, fun k hk hpk => q ⟨k, by omega, hpk⟩⟩
structure Tb (t : SetTable) (n : Nat) : Prop where
  rise : Rise t.place
  sz : t.place.size = n
  room : n ≤ t.mask
  le : ∀ i j : Nat, t.place[i]? = some j → j ≤ t.mask
  msk : Msk t.mask
  dm : t.dummies = #[]
theorem Tb.slot {t : SetTable} {n : Nat} (T : Tb t n) (j : Nat) : (∃ i, t.slot j = .live i ∧ t.place[i]? = some j) ∨ (t.slot j = .empty ∧ ∀ i : Nat, t.place[i]? ≠ some j) := by
  rw [slot_of T.dm]
  by_cases c : t.place[below t.place j]? = some j
  · exact .inl ⟨_, if_pos c, c⟩
  · refine .inr ⟨if_neg c, fun i e => c ?_⟩
    rw [below_of T.rise e]; exact e
theorem Tb.hole {t : SetTable} {n : Nat} (T : Tb t n) : ∃ j ≤ t.mask, t.slot j = .empty := by
  by_cases q : ∃ j ≤ t.mask, t.slot j = .empty
  · exact q
  · exfalso
    have a : ∀ j ≤ t.mask, t.place[below t.place j]? = some j := by
      intro j hj
      rcases T.slot j with ⟨i, _, e⟩ | ⟨e, _⟩
      · rw [below_of T.rise e]; exact e
      · exact absurd ⟨j, hj, e⟩ q
    have g : ∀ j ≤ t.mask, j ≤ below t.place j := by
      intro j
      induction j with
      | zero => intro _; exact Nat.zero_le _
      | succ j ih =>
        intro hj
        have h1 := ih (by omega)
        obtain ⟨a1, b1⟩ := getD_of (a j (by omega))
        obtain ⟨a2, b2⟩ := getD_of (a (j + 1) hj)
        rcases Nat.lt_trichotomy (below t.place (j + 1)) (below t.place j) with z | z | z
        · have := T.rise _ _ z a1; omega
        · rw [z, b1] at b2; omega
        · omega
    have h1 := g t.mask (Nat.le_refl _)
    have h2 := (getD_of (a t.mask (Nat.le_refl _))).1
    have := T.sz; have := T.room
    omega
theorem pa_dummy (m b : Nat) : ∀ n, (pa m b n).dummy = none := by
  intro n
  induction n with
  | zero => rfl
  | succ n ih =>
    show (stp m (pa m b n)).dummy = none
    unfold stp
    split <;> exact ih
theorem Tb.first {t : SetTable} {n : Nat} (T : Tb t n) {b : Nat} (hb : b < 2 ^ 64) : ∃ k < 10 * (t.mask + 13), t.slot (pa t.mask b k).j = .empty ∧ ∀ d < k, ∃ i, t.slot (pa t.mask b d).j = .live i ∧ t.place[i]? = some (pa t.mask b d).j := by
  obtain ⟨j, hj, e⟩ := T.hole
  obtain ⟨k, hk, ek⟩ := cover_pa T.msk hb hj
  obtain ⟨k, h1, h2, h3⟩ := least (p := fun k => t.slot (pa t.mask b k).j = .empty) _ ⟨k, hk, by rw [ek]; exact e⟩
  refine ⟨k, h1, h2, fun d hd => ?_⟩
  rcases T.slot (pa t.mask b d).j with ⟨i, e1, e2⟩ | ⟨e1, _⟩
  · exact ⟨i, e1, e2⟩
  · exact absurd e1 (h3 d hd)
theorem go_run {t : SetTable} {H : Nat → Int} {h : Int} {b n0 : Nat} (h0 : t.slot (pa t.mask b n0).j = .empty) (hl : ∀ d < n0, ∃ i, t.slot (pa t.mask b d).j = .live i ∧ t.place[i]? = some (pa t.mask b d).j) : ∀ F n, n ≤ n0 → n0 < n + F →
    (∃ k i, n ≤ k ∧ k < n0 ∧ t.slot (pa t.mask b k).j = .live i ∧ t.place[i]? = some (pa t.mask b k).j ∧ H i = h ∧ (∀ d i', n ≤ d → d < k → t.slot (pa t.mask b d).j = .live i' → H i' ≠ h) ∧ probe.go t H h F (pa t.mask b n) = some (.candidate (pa t.mask b k).j i (pa t.mask b (k + 1)))) ∨
    ((∀ d i', n ≤ d → d < n0 → t.slot (pa t.mask b d).j = .live i' → H i' ≠ h) ∧ probe.go t H h F (pa t.mask b n) = some (.empty (pa t.mask b n0).j none)) := by
  intro F
  induction F with
  | zero => intro n h1 h2; omega
  | succ F ih =>
    intro n h1 h2
    by_cases z : n = n0
    · subst z
      refine .inr ⟨fun d i' a1 a2 => by omega, ?_⟩
      simp only [probe.go, h0, pa_dummy]
    · obtain ⟨i, e1, e2⟩ := hl n (by omega)
      by_cases q : H i = h
      · refine .inl ⟨n, i, Nat.le_refl _, by omega, e1, e2, q, fun d i' a1 a2 => by omega, ?_⟩
        simp only [probe.go, e1, q, beq_self_eq_true, if_true, advance_eq]
        rfl
      · have e3 : probe.go t H h (F + 1) (pa t.mask b n) = probe.go t H h F (pa t.mask b (n + 1)) := by
          simp only [probe.go, e1]
          rw [if_neg (fun z => q (beq_iff_eq.mp z)), advance_eq]
          rfl
        rw [e3]
        have step : ∀ {P : Nat → Prop}, P n → (∀ d, n + 1 ≤ d → P d) → ∀ d, n ≤ d → P d := fun {P} p1 p2 d hd => by
          by_cases w : d = n
          · rw [w]; exact p1
          · exact p2 d (by omega)
        rcases ih (n + 1) (by omega) (by omega) with ⟨k, i2, a1, a2, a3, a4, a5, a6, a7⟩ | ⟨a1, a2⟩
        · refine .inl ⟨k, i2, by omega, a2, a3, a4, a5, fun d i' b1 b2 b3 => ?_, a7⟩
          by_cases w : d = n
          · subst w; rw [e1] at b3; cases b3; exact q
          · exact a6 d i' (by omega) b2 b3
        · refine .inr ⟨fun d i' b1 b2 b3 => ?_, a2⟩
          by_cases w : d = n
          · subst w; rw [e1] at b3; cases b3; exact q
          · exact a1 d i' (by omega) b2 b3
end ST
namespace ST
open PySem PySem.SetTable
theorem free_run {m b : Nat} {ow : Array (Option Nat)} : ∀ F k, (∀ d < r m b k, ow.getD (pa m b d).j (some 0) ≠ none) → (∃ K, k ≤ K ∧ K < k + F ∧ ow.getD (I m b K) (some 0) = none) →
    ∃ n, layClean.free m ow F (I m b k) (b / 32 ^ k) = some (pa m b n).j ∧ ow.getD (pa m b n).j (some 0) = none ∧ ∀ d < n, ow.getD (pa m b d).j (some 0) ≠ none := by
  intro F
  induction F with
  | zero => rintro k _ ⟨K, h1, h2, _⟩; omega
  | succ F ih =>
    rintro k hk ⟨K, h1, h2, h3⟩
    simp only [layClean.free]
    have hle : I m b k ≤ runEnd m (I m b k) := by unfold runEnd; split <;> omega
    cases q : (List.range (runEnd m (I m b k) + 1 - I m b k)).find? fun d => (ow.getD (I m b k + d) (some 0)).isNone with
    | some d =>
      obtain ⟨p1, as, bs, e, p2⟩ := List.find?_eq_some_iff_append.mp q
      have hd : d < runEnd m (I m b k) + 1 - I m b k := List.mem_range.mp (List.mem_of_find?_eq_some q)
      have hd' : d ≤ runEnd m (I m b k) - I m b k := by omega
      refine ⟨r m b k + d, by rw [pa_j m b k hd'], by rw [pa_j m b k hd']; exact Option.isNone_iff_eq_none.mp p1, fun c hc => ?_⟩
      by_cases z : c < r m b k
      · exact hk c z
      · obtain ⟨c', rfl⟩ : ∃ c', c = r m b k + c' := ⟨c - r m b k, by omega⟩
        rw [pa_j m b k (by omega)]
        have hmem : c' ∈ as := by
          have hl : (List.range (runEnd m (I m b k) + 1 - I m b k))[c']? = some c' := by rw [List.getElem?_range (by omega)]
          rw [e] at hl
          have hlen : as.length = d := by
            have h4 : (List.range (runEnd m (I m b k) + 1 - I m b k))[as.length]? = some d := by rw [e]; simp
            have h5 : as.length < runEnd m (I m b k) + 1 - I m b k := by
              have := congrArg List.length e
              simp at this; omega
            rw [List.getElem?_range h5] at h4
            exact Option.some.inj h4
          rw [List.getElem?_append_left (by omega)] at hl
          exact List.mem_of_getElem? hl
        have := p2 c' hmem
        intro w
        rw [w] at this
        simp at this
    | none =>
      have occ : ∀ d ≤ runEnd m (I m b k) - I m b k, ow.getD (I m b k + d) (some 0) ≠ none := by
        intro d hd w
        have := List.find?_eq_none.mp q d (List.mem_range.mpr (by omega))
        rw [w] at this
        simp at this
      have kn : K ≠ k := fun z => by
        subst z
        have := occ 0 (Nat.zero_le _)
        rw [Nat.add_zero] at this
        exact this h3
      have e1 : leap m (I m b k) (b / 32 ^ k) = (I m b (k + 1), b / 32 ^ (k + 1)) := by
        have e : b / 32 ^ k / 32 = b / 32 ^ (k + 1) := by rw [Nat.div_div_eq_div_mul, Nat.pow_succ]
        simp [leap, I, e]
      simp only [e1]
      refine ih (k + 1) (fun d hd => ?_) ⟨K, by omega, by omega, h3⟩
      by_cases z : d < r m b k
      · exact hk d z
      · obtain ⟨c', rfl⟩ : ∃ c', d = r m b k + c' := ⟨d - r m b k, by omega⟩
        simp only [r] at hd
        rw [pa_j m b k (by omega)]
        exact occ c' (by omega)
structure Ow (m : Nat) (hs : List Int) (ow : Array (Option Nat)) : Prop where
  sz : ow.size = m + 1
  lt : ∀ j k, ow.getD j none = some k → k < hs.length
  inj : ∀ j j' k, ow.getD j none = some k → ow.getD j' none = some k → j = j'
  way : ∀ k h, hs[k]? = some h → ∃ n, ow.getD (pa m (bits h) n).j none = some k ∧ ∀ d < n, ow.getD (pa m (bits h) d).j none ≠ none
theorem getD2 {ow : Array (Option Nat)} {j : Nat} (h : j < ow.size) : ow.getD j (some 0) = ow.getD j none := by simp [Array.getD, h]
theorem run_end_le {m i : Nat} (h : i ≤ m) : runEnd m i ≤ m := by unfold runEnd; split <;> omega
theorem pa_le (m b : Nat) : ∀ n, (pa m b n).j + (pa m b n).more ≤ m := by
  intro n
  induction n with
  | zero =>
    show b % (m + 1) + (runEnd m (b % (m + 1)) - b % (m + 1)) ≤ m
    have h1 : b % (m + 1) ≤ m := Nat.lt_succ_iff.mp (Nat.mod_lt _ (Nat.succ_pos m))
    have := run_end_le h1
    omega
  | succ n ih =>
    show (stp m (pa m b n)).j + (stp m (pa m b n)).more ≤ m
    unfold stp
    by_cases c : (pa m b n).more > 0
    · rw [if_pos c]; show (pa m b n).j + 1 + ((pa m b n).more - 1) ≤ m; omega
    · rw [if_neg c]
      have h1 : (leap m (pa m b n).i (pa m b n).perturb).1 ≤ m := Nat.lt_succ_iff.mp (Nat.mod_lt _ (Nat.succ_pos m))
      have := run_end_le h1
      show (leap m (pa m b n).i (pa m b n).perturb).1 + (runEnd m (leap m (pa m b n).i (pa m b n).perturb).1 - (leap m (pa m b n).i (pa m b n).perturb).1) ≤ m
      omega
theorem pa_lt (m b n : Nat) : (pa m b n).j < m + 1 := by have := pa_le m b n; omega
theorem Ow.nil (m : Nat) : Ow m [] (Array.replicate (m + 1) none) := by
  have z : ∀ j, (Array.replicate (m + 1) (none : Option Nat)).getD j none = none := by
    intro j
    unfold Array.getD
    split <;> simp
  exact ⟨by simp, fun j k e => absurd ((z j).symm.trans e) (by simp), fun j j' k e _ => absurd ((z j).symm.trans e) (by simp), fun k h e => absurd e (by simp)⟩
theorem Ow.hole {m : Nat} {hs : List Int} {ow : Array (Option Nat)} (O : Ow m hs ow) (hl : hs.length ≤ m) : ∃ j ≤ m, ow.getD j none = none := by
  by_cases q : ∃ j ≤ m, ow.getD j none = none
  · exact q
  · exfalso
    have s : ∀ j ≤ m, ∃ k, ow.getD j none = some k := fun j hj => by
      cases e : ow.getD j none with
      | none => exact absurd ⟨j, hj, e⟩ q
      | some k => exact ⟨k, rfl⟩
    have nd : ((List.range (m + 1)).map fun j => (ow.getD j none).getD 0).Nodup := by
      refine List.pairwise_map.mpr (List.Pairwise.imp_of_mem ?_ (List.nodup_range (n := m + 1)))
      intro a c ha hc hac z
      obtain ⟨k1, e1⟩ := s a (by have := List.mem_range.mp ha; omega)
      obtain ⟨k2, e2⟩ := s c (by have := List.mem_range.mp hc; omega)
      rw [e1, e2] at z
      have z : k1 = k2 := z
      subst z
      exact hac (O.inj _ _ _ e1 e2)
    have := nd.length_le_of_subset (l₂ := List.range hs.length) (fun k hk => by
      obtain ⟨j, hj, rfl⟩ := List.mem_map.mp hk
      obtain ⟨k1, e1⟩ := s j (by have := List.mem_range.mp hj; omega)
      rw [e1]
      exact List.mem_range.mpr (O.lt _ _ e1))
    simp at this
    omega
theorem set_getD {ow : Array (Option Nat)} {j : Nat} (h : j < ow.size) (v : Option Nat) (j' : Nat) : (ow.setIfInBounds j v).getD j' none = if j' = j then v else ow.getD j' none := by
  by_cases c : j' = j
  · subst c
    rw [if_pos rfl]
    simp [Array.getD, h]
  · rw [if_neg c]
    have e := Array.getElem?_setIfInBounds_ne (xs := ow) (i := j) (j := j') (a := v) (Ne.symm c)
    rw [Array.getD_eq_getD_getElem?, Array.getD_eq_getD_getElem?, e]
theorem Ow.snoc {m : Nat} {hs : List Int} {ow : Array (Option Nat)} (M : Msk m) (O : Ow m hs ow) (hl : hs.length ≤ m) (h : Int) :
    ∃ j, layClean.free m ow (turns m) (bits h % (m + 1)) (bits h) = some j ∧ Ow m (hs ++ [h]) (ow.setIfInBounds j (some hs.length)) := by
  obtain ⟨j0, hj0, e0⟩ := O.hole hl
  obtain ⟨K, hK, eK⟩ := cover M (bits_lt h) hj0
  have hf := free_run (m := m) (b := bits h) (ow := ow) (turns m) 0 (fun d hd => by simp [r] at hd) ⟨K, Nat.zero_le _, by unfold turns; omega, by
    rw [eK, getD2 (by rw [O.sz]; omega)]; exact e0⟩
  obtain ⟨n, f1, f2, f3⟩ := hf
  have f1' : layClean.free m ow (turns m) (bits h % (m + 1)) (bits h) = some (pa m (bits h) n).j := by
    have : bits h / 32 ^ 0 = bits h := by simp
    rw [this] at f1
    exact f1
  have hj : (pa m (bits h) n).j < ow.size := by rw [O.sz]; exact pa_lt _ _ _
  rw [getD2 hj] at f2
  have f3 : ∀ d < n, ow.getD (pa m (bits h) d).j none ≠ none := fun d hd => by
    have := f3 d hd
    rwa [getD2 (by rw [O.sz]; exact pa_lt _ _ _)] at this
  have sg := set_getD hj (some hs.length)
  refine ⟨_, f1', by simp [O.sz], fun j k e => ?_, fun j j' k e e' => ?_, fun k g e => ?_⟩
  · rw [sg] at e
    rw [List.length_append]
    by_cases c : j = (pa m (bits h) n).j
    · rw [if_pos c] at e; cases e; simp
    · rw [if_neg c] at e; have := O.lt _ _ e; omega
  · rw [sg] at e e'
    by_cases c : j = (pa m (bits h) n).j
    · by_cases c' : j' = (pa m (bits h) n).j
      · rw [c, c']
      · rw [if_pos c] at e; rw [if_neg c'] at e'; cases e; have := O.lt _ _ e'; omega
    · by_cases c' : j' = (pa m (bits h) n).j
      · rw [if_neg c] at e; rw [if_pos c'] at e'; cases e'; have := O.lt _ _ e; omega
      · rw [if_neg c] at e; rw [if_neg c'] at e'; exact O.inj _ _ _ e e'
  · by_cases c : k < hs.length
    · rw [List.getElem?_append_left c] at e
      obtain ⟨n', a1, a2⟩ := O.way k g e
      refine ⟨n', ?_, fun d hd => ?_⟩
      · rw [sg, if_neg (fun z => by rw [z, f2] at a1; cases a1)]; exact a1
      · rw [sg]
        split
        · simp
        · exact a2 d hd
    · have kl : k = hs.length := by
        have := (List.getElem?_eq_some_iff.mp e).1
        rw [List.length_append] at this
        simp at this
        omega
      subst kl
      rw [List.getElem?_append_right (Nat.le_refl _)] at e
      simp at e
      subst e
      refine ⟨n, by rw [sg, if_pos rfl], fun d hd => ?_⟩
      rw [sg]
      split
      · simp
      · exact f3 d hd
end ST
namespace ST
open PySem PySem.SetTable
abbrev layF (m : Nat) : Option (Array (Option Nat) × Nat) → Int → Option (Array (Option Nat) × Nat) := fun acc h => do
    let (owner, k) ← acc
    let j ← layClean.free m owner (turns m) (bits h % (m + 1)) (bits h)
    pure (owner.setIfInBounds j (some k), k + 1)
theorem lay_run {m : Nat} (M : Msk m) : ∀ (hs pre : List Int) (ow : Array (Option Nat)), Ow m pre ow → pre.length + hs.length ≤ m → ∃ ow', hs.foldl (layF m) (some (ow, pre.length)) = some (ow', (pre ++ hs).length) ∧ Ow m (pre ++ hs) ow' := by
  intro hs
  induction hs with
  | nil => intro pre ow O _; exact ⟨ow, by simp, by rw [List.append_nil]; exact O⟩
  | cons h hs ih =>
    intro pre ow O hl
    rw [List.length_cons] at hl
    obtain ⟨j, e, O'⟩ := O.snoc M (by omega) h
    obtain ⟨ow', e', O''⟩ := ih (pre ++ [h]) _ O' (by simp; omega)
    refine ⟨ow', ?_, by rw [List.append_assoc] at O''; exact O''⟩
    rw [List.foldl_cons]
    have e1 : layF m (some (ow, pre.length)) h = some (ow.setIfInBounds j (some pre.length), pre.length + 1) := by
      show (layClean.free m ow (turns m) (bits h % (m + 1)) (bits h)).bind _ = _
      rw [e]; rfl
    rw [e1]
    rw [List.length_append, List.length_singleton] at e'
    rw [e', List.append_assoc]
    simp
theorem lay_clean {m : Nat} (M : Msk m) {hs : Array Int} (hl : hs.size ≤ m) : ∃ ow, layClean m hs = some ow ∧ Ow m hs.toList ow := by
  obtain ⟨ow, e, O⟩ := lay_run M hs.toList [] _ (Ow.nil m) (by simpa using hl)
  refine ⟨ow, ?_, by simpa using O⟩
  unfold layClean
  rw [← Array.foldl_toList]
  show (hs.toList.foldl (layF m) (some (Array.replicate (m + 1) none, 0))).map (·.1) = some ow
  rw [show (0 : Nat) = ([] : List Int).length from rfl, e]
  rfl
theorem fm_get {α β : Type} {f : α → Option β} : ∀ {l : List α}, (∀ a ∈ l, f a ≠ none) → ∀ i : Nat, (l.filterMap f)[i]? = (l[i]?).bind f := by
  intro l
  induction l with
  | nil => intro _ i; simp
  | cons a l ih =>
    intro h i
    cases e : f a with
    | none => exact absurd e (h a (by simp))
    | some b =>
      rw [List.filterMap_cons_some e]
      cases i with
      | zero => simp [e]
      | succ i => simp only [List.getElem?_cons_succ]; exact ih (fun a ha => h a (List.mem_cons_of_mem _ ha)) i
theorem range_fm {α : Type} : ∀ l : List α, (List.range l.length).filterMap (fun k => l[k]?) = l := by
  intro l
  induction l with
  | nil => rfl
  | cons x l ih =>
    rw [List.length_cons, List.range_succ_eq_map, List.filterMap_cons_some (b := x) (by simp), List.filterMap_map]
    congr 1
structure Laid {α : Type} (m : Nat) (hs : Array Int) (t : SetTable) (order : Array Nat) : Prop where
  mask : t.mask = m
  tb : Tb t hs.size
  per : ∀ es : Array α, es.size = hs.size → (order.filterMap (fun i => es[i]?)).toList.Perm es.toList
  way : ∀ es : Array α, es.size = hs.size → ∀ (k : Nat) (h : Int) (e : α), hs[k]? = some h → es[k]? = some e → ∃ n, at_ t.place (order.filterMap (fun i => es[i]?)) (pa m (bits h) n).j = some e ∧ ∀ d < n, at_ t.place (order.filterMap (fun i => es[i]?)) (pa m (bits h) d).j ≠ none
theorem laid_ok {α : Type} {m finger moves : Nat} {led plain : Bool} (M : Msk m) {hs : Array Int} (hl : hs.size ≤ m) : ∃ t order, laid m finger moves led plain hs = some (t, order) ∧ t.led = led ∧ t.plain = plain ∧ t.moves = moves ∧ Laid (α := α) m hs t order := by
  obtain ⟨ow, e, O⟩ := lay_clean M hl
  obtain ⟨live, hlive⟩ : ∃ live, (List.range (m + 1)).filterMap (fun j => (ow.getD j none).map (j, ·)) = live := ⟨_, rfl⟩
  have mem : ∀ j k, (j, k) ∈ live ↔ ow.getD j none = some k := by
    intro j k
    rw [← hlive, List.mem_filterMap]
    constructor
    · rintro ⟨a, _, h⟩
      obtain ⟨k', h1, h2⟩ := Option.map_eq_some_iff.mp h
      cases h2; exact h1
    · intro h
      refine ⟨j, List.mem_range.mpr ?_, by rw [h]; rfl⟩
      by_cases c : j < ow.size
      · rw [← O.sz]; exact c
      · simp [Array.getD, c] at h
  have rise : (live.map (·.1)).Pairwise (· < ·) := by
    rw [← hlive, List.pairwise_map]
    refine List.Pairwise.filterMap _ ?_ List.pairwise_lt_range
    intro a a' haa b hb b' hb'
    obtain ⟨_, _, h2⟩ := Option.map_eq_some_iff.mp hb
    obtain ⟨_, _, h2'⟩ := Option.map_eq_some_iff.mp hb'
    rw [← h2, ← h2']; exact haa
  have nd : (live.map (·.2)).Nodup := by
    rw [← hlive]
    refine List.pairwise_map.mpr (List.Pairwise.filterMap _ ?_ List.pairwise_lt_range)
    intro a a' haa b hb b' hb' z
    obtain ⟨k, h1, h2⟩ := Option.map_eq_some_iff.mp hb
    obtain ⟨k', h1', h2'⟩ := Option.map_eq_some_iff.mp hb'
    subst h2 h2'
    have z : k = k' := z
    subst z
    have := O.inj _ _ _ h1 h1'
    have haa : a < a' := haa
    omega
  have hlen : hs.toList.length = hs.size := by simp
  have pr : (live.map (·.2)).Perm (List.range hs.size) := by
    refine (List.perm_ext_iff_of_nodup nd List.nodup_range).mpr fun k => ?_
    rw [List.mem_map, List.mem_range]
    constructor
    · rintro ⟨⟨j, k'⟩, h1, rfl⟩
      have := O.lt _ _ ((mem _ _).mp h1)
      rw [hlen] at this; exact this
    · intro hk
      obtain ⟨n, h1, _⟩ := O.way k hs[k] (by simp [hk])
      exact ⟨(_, k), (mem _ _).mpr h1, rfl⟩
  have ll : live.length = hs.size := by have := pr.length_eq; simpa using this
  refine ⟨{ mask := m, place := (live.map (·.1)).toArray, dummies := #[], finger, led, moves, plain }, (live.map (·.2)).toArray, ?_, rfl, rfl, rfl, rfl, ?_, fun es he => ?_, fun es he k h v hk hv => ?_⟩
  · unfold laid
    rw [e]
    show some _ = _
    rw [hlive]
  · refine ⟨fun i k hik hk => ?_, by simp [ll], hl, fun i j hij => ?_, M, rfl⟩
    · have hk' : k < live.length := by simpa using hk
      have := List.pairwise_iff_getElem.mp rise i k (by simp; omega) (by simp; omega) hik
      simpa [Array.getD, hk', show i < live.length by omega] using this
    · have hij : (live.map (·.1))[i]? = some j := by simpa using hij
      obtain ⟨⟨j', k⟩, h1, rfl⟩ := List.mem_map.mp (List.mem_of_getElem? hij)
      have h2 := (mem _ _).mp h1
      by_cases c : j' < ow.size
      · have := O.sz; show j' ≤ m; omega
      · simp [Array.getD, c] at h2
  · have e2 : (List.range es.toList.length).filterMap (fun k => es.toList[k]?) = es.toList := range_fm _
    have e3 : ((live.map (·.2)).toArray.filterMap (fun i => es[i]?)).toList = (live.map (·.2)).filterMap (fun k => es.toList[k]?) := by simp
    rw [e3]
    refine (pr.filterMap _).trans ?_
    rw [← he, show es.size = es.toList.length by simp, e2]
  · have get : ∀ i : Nat, ((live.map (·.2)).toArray.filterMap (fun i => es[i]?))[i]? = (live[i]?).bind fun p => es[p.2]? := by
      intro i
      have e3 : (live.map (·.2)).toArray.filterMap (fun i => es[i]?) = (live.filterMap fun p => es[p.2]?).toArray := by
        apply Array.ext'
        simp [List.filterMap_map, Function.comp_def]
      rw [e3, List.getElem?_toArray]
      refine fm_get (fun p hp => ?_) i
      have := O.lt _ _ ((mem p.1 p.2).mp hp)
      rw [Array.getElem?_eq_getElem (h := by omega)]
      simp
    have rs : Rise (live.map (·.1)).toArray := fun i k hik hk => by
      have hk' : k < live.length := by simpa using hk
      have := List.pairwise_iff_getElem.mp rise i k (by simp; omega) (by simp; omega) hik
      simpa [Array.getD, hk', show i < live.length by omega] using this
    have ats : ∀ j k v, ow.getD j none = some k → es[k]? = some v → at_ (live.map (·.1)).toArray ((live.map (·.2)).toArray.filterMap (fun i => es[i]?)) j = some v := by
      intro j k v h1 h2
      obtain ⟨i, hi, e4⟩ := List.getElem_of_mem ((mem j k).mpr h1)
      have e5 : live[i]? = some (j, k) := by rw [List.getElem?_eq_getElem hi, e4]
      refine (at_some rs).mpr ⟨i, by simp [e5], ?_⟩
      rw [get, e5]; exact h2
    obtain ⟨n, h1, h2⟩ := O.way k h (by rw [Array.getElem?_toList]; exact hk)
    refine ⟨n, ats _ _ _ h1 hv, fun d hd z => ?_⟩
    cases q : ow.getD (pa m (bits h) d).j none with
    | none => exact h2 d hd q
    | some k' =>
      have hk' := O.lt _ _ q
      have := ats _ _ (es[k']'(by omega)) q (Array.getElem?_eq_getElem (h := by omega))
      rw [z] at this; cases this
end ST
namespace ST
open PySem PySem.SetTable
section
variable {prog : Program} {w : World} {A : Around} {E : Value → Shared → Prop} {s : Shared}
abbrev TK (prog : Program) (w : World) (h : Heap) (k : List Int) (p : Addr) : Prop := IsTupleKey (intKind prog w) h k p
abbrev hsh (prog : Program) (w : World) (k : List Int) : Int := tupleKeyHash (intKind prog w) k
theorem items_int {k : List Int} {vs : List Value} (h : ItemsAre (intKind prog w) k vs) : ∀ v ∈ vs, ∃ i t, v = .int i t := by
  induction h with
  | nil => intro v hv; cases hv
  | cons h1 _ ih =>
    intro v hv
    rcases List.mem_cons.mp hv with rfl | hv
    · obtain ⟨t, e⟩ := Value.isInt_shape h1; exact ⟨_, t, e⟩
    · exact ih v hv
theorem wp_byValue {k : List Int} {p : Addr} {Q : Bool → Shared → Prop} (hk : TK prog w s.heap k p) (h : Q true s) : wpAny (model prog w) A (hashByValue 8 (.ref p)) Q E s := by
  have hT := hk.typeIs
  obtain ⟨o, items, n, ho, _, hd, hi⟩ := hk
  unfold hashByValue
  refine wpAny_bind (wpAny_specialOf hT PySem.F.slot_tuple_hash.lookup ?_)
  dsimp only
  refine wpAny_bind (wpAny_seqItems ho hd (wpAny_bind ?_))
  show wpAny _ _ (forIn items _ _) _ _ s
  rw [← Array.forIn_toList]
  refine wpAny_forIn_list _ (fun rest r s' => r.1 = none ∧ s' = s ∧ ∀ v ∈ rest, ∃ i t, v = Value.int i t) _ ?_ ?_ _ _ ⟨rfl, rfl, items_int hi⟩
  · rintro v rest r s' ⟨hr, rfl, hall⟩
    obtain ⟨i, t, rfl⟩ := hall v (by simp)
    refine wpAny_bind ?_
    unfold hashByValue
    refine wpAny_pure ?_
    rw [if_neg (by decide)]
    exact wpAny_pure ⟨rfl, rfl, fun u hu => hall u (List.mem_cons_of_mem _ hu)⟩
  · rintro ⟨r1, r2⟩ s' ⟨hr, rfl, _⟩
    have hr : r1 = none := hr
    subst hr
    exact wpAny_pure h
theorem wp_ofCls {k : List Int} {p : Addr} {Q : Bool → Shared → Prop} (hk : TK prog w s.heap k p) (h : Q false s) : wpAny (model prog w) A (ofAClassStatement 8 (.ref p)) Q E s := by
  have hT := hk.typeIs
  obtain ⟨o, items, n, ho, _, hd, hi⟩ := hk
  unfold ofAClassStatement
  refine wpAny_bind (wpAny_typeOf hT ?_)
  dsimp only
  refine wpAny_bind ?_
  refine wpAny_pure ?_
  rw [if_neg (by decide)]
  refine wpAny_bind (wpAny_seqItems ho hd ?_)
  dsimp only
  refine wpAny_bind ?_
  show wpAny _ _ (forIn items _ _) _ _ s
  rw [← Array.forIn_toList]
  refine wpAny_forIn_list _ (fun rest r s' => r.1 = none ∧ s' = s ∧ ∀ v ∈ rest, ∃ i t, v = Value.int i t) _ ?_ ?_ _ _ ⟨rfl, rfl, items_int hi⟩
  · rintro v rest r s' ⟨hr, rfl, hall⟩
    obtain ⟨i, t, rfl⟩ := hall v (by simp)
    refine wpAny_bind ?_
    unfold ofAClassStatement
    refine wpAny_pure ?_
    rw [if_neg (by decide)]
    exact wpAny_pure ⟨rfl, rfl, fun u hu => hall u (List.mem_cons_of_mem _ hu)⟩
  · rintro ⟨r1, r2⟩ s' ⟨hr, rfl, _⟩
    have hr : r1 = none := hr
    subst hr
    exact wpAny_pure h
theorem wp_seen {k : List Int} {p : Addr} {l : List Value} {Q : Bool → Shared → Prop} (hk : TK prog w s.heap k p) (hl : ∀ v ∈ l, ∃ k' q, v = .ref q ∧ TK prog w s.heap k' q) (h : Q false s) : wpAny (model prog w) A (searchCouldBeSeen (.ref p) l) Q E s := by
  unfold searchCouldBeSeen
  refine wpAny_bind ?_
  refine wpAny_forIn_list _ (fun rest r s' => r.1 = none ∧ s' = s ∧ ∀ v ∈ rest, ∃ k' q, v = Value.ref q ∧ TK prog w s.heap k' q) _ ?_ ?_ _ _ ⟨rfl, rfl, hl⟩
  · rintro v rest r s' ⟨hr, rfl, hall⟩
    obtain ⟨k', q, rfl, hq⟩ := hall v (by simp)
    have rest' : ∀ u ∈ rest, ∃ k' q, u = Value.ref q ∧ TK prog w s'.heap k' q := fun u hu => hall u (List.mem_cons_of_mem _ hu)
    dsimp only
    split
    · exact wpAny_pure ⟨rfl, rfl, rest'⟩
    · refine wpAny_bind (wpAny_eqIsQuiet_tuple hk ?_)
      rw [if_neg (by decide)]
      refine wpAny_bind (wpAny_eqIsQuiet_tuple hq ?_)
      rw [if_neg (by decide)]
      refine wpAny_bind (wp_ofCls hk ?_)
      rw [if_neg (by decide)]
      refine wpAny_bind (wp_ofCls hq ?_)
      rw [if_neg (by decide)]
      exact wpAny_pure ⟨rfl, rfl, rest'⟩
  · rintro ⟨r1, r2⟩ s' ⟨hr, rfl, _⟩
    have hr : r1 = none := hr
    subst hr
    exact wpAny_pure h
end
end ST
namespace ST
open PySem PySem.SetTable
def ldOf (w : World) : Bool := !(w.params.followText "set-order")
structure TS (prog : Program) (w : World) (h : Heap) (a : Addr) (es : Array (Int × Value)) (ep : Nat) (t : SetTable) (ks : List (List Int)) : Prop where
  obj : ∃ o, h.get? a = some o ∧ o.ExactSet ∧ o.data = .set es ep t
  tb : Tb t es.size
  nf : es.size * 5 < t.mask * 3
  ent : ∀ e ∈ es.toList, ∃ k ∈ ks, ∃ p, e.2 = .ref p ∧ TK prog w h k p ∧ e.1 = hsh prog w k
  way : ∀ e ∈ es.toList, ∃ n, at_ t.place es (pa t.mask (bits e.1) n).j = some e ∧ ∀ d < n, at_ t.place es (pa t.mask (bits e.1) d).j ≠ none
  all : ∀ k ∈ ks, ∃ e ∈ es.toList, ∃ p, e.2 = .ref p ∧ TK prog w h k p
  nd : ks.Nodup
  len : ks.length = es.size
  ld : t.led = ldOf w
  pl : t.plain = true
theorem Tb.fits {t : SetTable} {n : Nat} (T : Tb t n) : t.fits n = true := by
  simp only [SetTable.fits, Bool.and_eq_true, beq_iff_eq, decide_eq_true_eq]
  refine ⟨T.sz, ?_⟩
  unfold SetTable.fill
  rw [T.dm, T.sz]
  exact T.room
theorem Tb.odd {t : SetTable} {n : Nat} (T : Tb t n) : t.gaveWay = false := by
  unfold SetTable.gaveWay
  rcases T.msk with e | e | e | e <;> rw [e] <;> decide
theorem Tb.at_ {α : Type} {t : SetTable} {es : Array α} (T : Tb t es.size) (j : Nat) : (∃ i e, t.slot j = .live i ∧ t.place[i]? = some j ∧ es[i]? = some e ∧ at_ t.place es j = some e) ∨ (t.slot j = .empty ∧ at_ t.place es j = none) := by
  rcases T.slot j with ⟨i, e1, e2⟩ | ⟨e1, e2⟩
  · have hi := (getD_of e2).1
    rw [T.sz] at hi
    have e3 : es[i]? = some es[i] := Array.getElem?_eq_getElem hi
    exact .inl ⟨i, es[i], e1, e2, e3, (at_some T.rise).mpr ⟨i, e2, e3⟩⟩
  · exact .inr ⟨e1, (at_none T.rise T.sz).mpr e2⟩
theorem led_wp {M : Model} {A : Around} {E : Value → Shared → Prop} {s : Shared} {α : Type} {Q : α → Shared → Prop} {c : Prop} [Decidable c] {m : Sem Bool} {X Y : Sem α} (h1 : c → wpAny M A m (fun b s' => b = false ∧ s' = s) E s) (h2 : wpAny M A Y Q E s) :
    wpAny M A (if c then (do let b ← m; if b = true then X else Y) else Y) Q E s := by
  by_cases hc : c
  · rw [if_pos hc]
    refine wpAny_bind (wpAny_mono (h1 hc) (fun b s' ⟨e1, e2⟩ => ?_) fun _ _ z => z)
    subst e1 e2
    rw [if_neg (by decide)]
    exact h2
  · rw [if_neg hc]; exact h2
section
variable {prog : Program} {w : World} {A : Around} {E : Value → Shared → Prop} {s : Shared} {a : Addr} {es : Array (Int × Value)} {ep : Nat} {t : SetTable} {ks : List (List Int)} {k : List Int} {p : Addr}
theorem search_ok (S : TS prog w s.heap a es ep t ks) (hk : TK prog w s.heap k p) (hu : A.units < cLine) {adding : Bool} {Q : SetFound → Shared → Prop} {n0 : Nat} (hn0 : n0 < 10 * (t.mask + 13)) (h0 : t.slot (pa t.mask (bits (hsh prog w k)) n0).j = .empty)
    (hl : ∀ d < n0, ∃ i, t.slot (pa t.mask (bits (hsh prog w k)) d).j = .live i ∧ t.place[i]? = some (pa t.mask (bits (hsh prog w k)) d).j)
    (q1 : k ∈ ks → adding = true → Q (.there none) s) (q2 : k ∈ ks → adding = false → ∀ i, Q (.there (some i)) s) (q3 : k ∉ ks → Q (.free (pa t.mask (bits (hsh prog w k)) n0).j false) s) :
    ∀ (F n : Nat) (st : Option Probe), n ≤ n0 → n0 < n + F → (st.getD (t.probeStart (hsh prog w k)) = pa t.mask (bits (hsh prog w k)) n) →
      (∀ d < n, ∀ (i : Nat) (e : Int × Value) (q : Addr), t.place[i]? = some (pa t.mask (bits (hsh prog w k)) d).j → es[i]? = some e → e.2 = .ref q → ¬ TK prog w s.heap k q) →
      wpAny (model prog w) A (setSearchFrom a (.ref p) (hsh prog w k) adding F st) Q E s := by
  obtain ⟨o, ho, hex, hd⟩ := S.obj
  have hf := S.tb.fits
  intro F
  induction F with
  | zero => intro n st h1 h2; omega
  | succ F ih =>
    intro n st h1 h2 hst hpast
    unfold setSearchFrom
    refine wpAny_bind (wpAny_setState_of ho hd hf ?_)
    dsimp only
    rw [if_neg (by rw [S.tb.odd]; decide), hst]
    rcases go_run (H := fun i => (es[i]?.map (·.1)).getD 0) (h := hsh prog w k) h0 hl (10 * turns t.mask) n h1 (by unfold turns; omega) with ⟨k1, i, b1, b2, b3, b4, b5, b6, b7⟩ | ⟨b1, b2⟩
    · have hi := (getD_of b4).1
      rw [S.tb.sz] at hi
      have hei : es[i]? = some es[i] := Array.getElem?_eq_getElem hi
      have hm : es[i] ∈ es.toList := by simp
      obtain ⟨k', hk', p', e1, e2, e3⟩ := S.ent _ hm
      generalize hX : t.probe _ (hsh prog w k) (pa t.mask (bits (hsh prog w k)) n) = X
      have hX : X = some (.candidate (pa t.mask (bits (hsh prog w k)) k1).j i (pa t.mask (bits (hsh prog w k)) (k1 + 1))) := hX.symm.trans b7
      subst hX
      dsimp only
      have seen : ∀ v ∈ (es.filter (·.1 == hsh prog w k)).toList.map (·.2), ∃ k' q, v = Value.ref q ∧ TK prog w s.heap k' q := by
        intro v hv
        obtain ⟨e, he, rfl⟩ := List.mem_map.mp hv
        have he : e ∈ es.toList := by simp at he; simpa using he.1
        obtain ⟨k2, _, p2, f1, f2, _⟩ := S.ent _ he
        exact ⟨k2, p2, f1, f2⟩
      refine led_wp (fun _ => wp_seen hk seen ⟨rfl, rfl⟩) ?_
      obtain ⟨ei, hei'⟩ : ∃ ei, es[i]? = some ei := ⟨_, hei⟩
      have : es[i] = ei := Option.some.inj (hei.symm.trans hei')
      rw [this] at e1 e3
      rw [hei']
      obtain ⟨hh, y⟩ := ei
      dsimp only at e1 e3
      subst e1
      dsimp only
      refine wpAny_bind (wpAny_holding (wpAny_eqBool_tuple hu e2 hk ?_))
      refine wpAny_bind (wpAny_setState_of ho hd hf ?_)
      dsimp only
      by_cases kk : k' = k
      · subst kk
        rw [decide_eq_true rfl]
        cases adding with
        | true => exact wpAny_pure (q1 hk' rfl)
        | false =>
          rw [if_neg (by decide)]
          rw [show t.sameMemory t.moves t.mask = some true from by unfold SetTable.sameMemory; rw [if_pos (beq_iff_eq.mpr rfl)]]
          dsimp only
          rw [if_pos rfl, b3]
          dsimp only
          rw [hei']
          dsimp only
          refine wpAny_bind (wpAny_isSame_ref_self (wpAny_bind (wpAny_pure ?_)))
          rw [if_pos rfl]
          dsimp only
          rw [if_pos rfl]
          exact wpAny_pure (q2 hk' rfl i)
      · rw [decide_eq_false kk, Bool.and_false, if_neg (by decide)]
        rw [show t.sameMemory t.moves t.mask = some true from by unfold SetTable.sameMemory; rw [if_pos (beq_iff_eq.mpr rfl)]]
        dsimp only
        rw [if_pos rfl, b3]
        dsimp only
        rw [hei']
        dsimp only
        refine wpAny_bind (wpAny_isSame_ref_self (wpAny_bind (wpAny_pure ?_)))
        rw [if_pos rfl]
        dsimp only
        rw [if_neg (by decide)]
        refine ih (k1 + 1) _ (by omega) (by omega) rfl fun d hd i2 ee q g1 g2 g3 g4 => ?_
        by_cases z1 : d < n
        · exact hpast d z1 i2 ee q g1 g2 g3 g4
        · by_cases z2 : d = k1
          · subst z2
            have : i2 = i := by rw [← below_of S.tb.rise g1, below_of S.tb.rise b4]
            subst this
            rw [hei'] at g2
            cases g2
            cases g3
            exact kk (e2.inj g4)
          · have hs : t.slot (pa t.mask (bits (hsh prog w k)) d).j = .live i2 := by
              rcases S.tb.slot (pa t.mask (bits (hsh prog w k)) d).j with ⟨i3, f1, f2⟩ | ⟨_, f2⟩
              · have : i3 = i2 := by rw [← below_of S.tb.rise f2, below_of S.tb.rise g1]
                rw [← this]; exact f1
              · exact absurd g1 (f2 i2)
            refine b6 d i2 (by omega) (by omega) hs ?_
            have hme : ee ∈ es.toList := by
              obtain ⟨hlt, e⟩ := Array.getElem?_eq_some_iff.mp g2
              rw [← e]; simp
            obtain ⟨k2, _, p2, f1, f2, f3⟩ := S.ent ee hme
            rw [g3] at f1
            cases f1
            have := g4.inj f2
            subst this
            simp only [g2]
            exact f3
    · generalize hX : t.probe _ (hsh prog w k) (pa t.mask (bits (hsh prog w k)) n) = X
      have hX : X = some (.empty (pa t.mask (bits (hsh prog w k)) n0).j none) := hX.symm.trans b2
      subst hX
      dsimp only
      refine wpAny_pure (q3 fun hin => ?_)
      obtain ⟨e, he, q, f1, f2⟩ := S.all k hin
      obtain ⟨k2, _, p2, g1, g2, g3⟩ := S.ent e he
      rw [f1] at g1
      cases g1
      have := f2.inj g2
      subst this
      obtain ⟨c, c1, c2⟩ := S.way e he
      rw [g3] at c1 c2
      have hc : c < n0 := by
        rcases Nat.lt_or_ge c n0 with z | z
        · exact z
        · exfalso
          rcases Nat.lt_or_eq_of_le z with z | z
          · have := c2 n0 z
            rcases S.tb.at_ (pa t.mask (bits (hsh prog w k)) n0).j with ⟨i, e, w1, _⟩ | ⟨_, w2⟩
            · rw [h0] at w1; cases w1
            · exact this w2
          · subst z
            rcases S.tb.at_ (pa t.mask (bits (hsh prog w k)) n0).j with ⟨i, e, w1, _⟩ | ⟨_, w2⟩
            · rw [h0] at w1; cases w1
            · rw [w2] at c1; cases c1
      rcases S.tb.at_ (pa t.mask (bits (hsh prog w k)) c).j with ⟨i, e', w1, w2, w3, w4⟩ | ⟨_, w2⟩
      · rw [w4] at c1
        cases c1
        by_cases z : n ≤ c
        · exact b1 c i z hc w1 (by simp only [w3]; exact g3)
        · exact hpast c (by omega) i e q w2 w3 f1 f2
      · rw [w2] at c1; cases c1
theorem find_ok (S : TS prog w s.heap a es ep t ks) (hk : TK prog w s.heap k p) (hu : A.units < cLine) {Q : Option Nat → Shared → Prop} (q1 : k ∈ ks → ∀ i, Q (some i) s) (q2 : k ∉ ks → Q none s) :
    wpAny (model prog w) A (setFind a (.ref p) (hsh prog w k)) Q E s := by
  obtain ⟨o, ho, hex, hd⟩ := S.obj
  obtain ⟨n0, h1, h2, h3⟩ := S.tb.first (bits_lt (hsh prog w k))
  unfold setFind
  rw [show (100000 : Nat) = 99999 + 1 from rfl]
  unfold setFindIn
  refine wpAny_bind (wpAny_setState_of ho hd S.tb.fits ?_)
  dsimp only
  rw [if_neg (by simp [byScan, Value.scannable])]
  have hm : t.mask ≤ 511 := by rcases S.tb.msk with e | e | e | e <;> rw [e] <;> decide
  refine wpAny_bind (search_ok (adding := false) S hk hu h1 h2 h3 (fun _ z => by cases z) (fun hin _ i => ?_) (fun hin => ?_) 100000 0 none (Nat.zero_le _) (by omega) rfl fun d hd => by omega)
  · exact wpAny_pure (q1 hin i)
  · exact wpAny_pure (q2 hin)
end
end ST
namespace ST
open PySem PySem.SetTable
theorem mem_arr {α : Type} {xs : Array α} {x : α} : x ∈ xs.toList ↔ ∃ i : Nat, xs[i]? = some x := by
  rw [List.mem_iff_getElem?]
  simp
theorem ins_mem {α : Type} {xs : Array α} {p : Nat} (hp : p ≤ xs.size) {x y : α} : y ∈ (insertAt xs p x).toList ↔ y = x ∨ y ∈ xs.toList := by
  rw [mem_arr, mem_arr]
  constructor
  · rintro ⟨i, e⟩
    rw [ins_get hp] at e
    by_cases c : i < p
    · rw [if_pos c] at e; exact .inr ⟨i, e⟩
    · by_cases c2 : i = p
      · rw [if_neg c, if_pos c2] at e; cases e; exact .inl rfl
      · rw [if_neg c, if_neg c2] at e; exact .inr ⟨_, e⟩
  · rintro (rfl | ⟨i, e⟩)
    · exact ⟨p, by rw [ins_get hp, if_neg (Nat.lt_irrefl _), if_pos rfl]⟩
    · by_cases c : i < p
      · exact ⟨i, by rw [ins_get hp, if_pos c]; exact e⟩
      · exact ⟨i + 1, by rw [ins_get hp, if_neg (by omega), if_neg (by omega)]; exact e⟩
theorem tk_keep {prog : Program} {w : World} {h h' : Heap} {k : List Int} {a q : Addr} {o : Obj} {es : Array (Int × Value)} {ep : Nat} {t : SetTable} (x : TK prog w h k q) (ho : h.get? a = some o) (hd : o.data = .set es ep t) (hs : Heap.SameBut a h h') : TK prog w h' k q := by
  obtain ⟨o', items, n, ho', hc, hd', hi⟩ := x
  have hne : q ≠ a := by
    rintro rfl
    obtain rfl : o' = o := Option.some.inj (ho'.symm.trans ho)
    rw [hd] at hd'; exact nomatch hd'
  exact ⟨o', items, n, (hs.2 q hne).trans ho', hc, hd', hi⟩
structure TP (prog : Program) (w : World) (h : Heap) (es : Array (Int × Value)) (t : SetTable) (ks : List (List Int)) : Prop where
  tb : Tb t es.size
  ent : ∀ e ∈ es.toList, ∃ k ∈ ks, ∃ p, e.2 = .ref p ∧ TK prog w h k p ∧ e.1 = hsh prog w k
  way : ∀ e ∈ es.toList, ∃ n, at_ t.place es (pa t.mask (bits e.1) n).j = some e ∧ ∀ d < n, at_ t.place es (pa t.mask (bits e.1) d).j ≠ none
  all : ∀ k ∈ ks, ∃ e ∈ es.toList, ∃ p, e.2 = .ref p ∧ TK prog w h k p
  nd : ks.Nodup
  len : ks.length = es.size
  ld : t.led = ldOf w
  pl : t.plain = true
theorem TS.put {prog : Program} {w : World} {h : Heap} {a : Addr} {es : Array (Int × Value)} {ep : Nat} {t : SetTable} {ks : List (List Int)} {k : List Int} {p : Addr} (S : TS prog w h a es ep t ks) (hk : TK prog w h k p) (hn : k ∉ ks) {n0 : Nat}
    (h0 : t.slot (pa t.mask (bits (hsh prog w k)) n0).j = .empty) (hl : ∀ d < n0, ∃ i, t.slot (pa t.mask (bits (hsh prog w k)) d).j = .live i ∧ t.place[i]? = some (pa t.mask (bits (hsh prog w k)) d).j) :
    TP prog w h (insertAt es (t.put (pa t.mask (bits (hsh prog w k)) n0).j).2 (hsh prog w k, .ref p)) (t.put (pa t.mask (bits (hsh prog w k)) n0).j).1 (ks ++ [k]) := by
  obtain ⟨j, hj⟩ : ∃ j, (pa t.mask (bits (hsh prog w k)) n0).j = j := ⟨_, rfl⟩
  have jle : j ≤ t.mask := by have := pa_lt t.mask (bits (hsh prog w k)) n0; omega
  rw [hj] at h0 ⊢
  have hno : ∀ i : Nat, t.place[i]? ≠ some j := by
    rcases S.tb.slot j with ⟨i, e1, _⟩ | ⟨_, e2⟩
    · rw [h0] at e1; cases e1
    · exact e2
  have hb1 := (below_spec S.tb.rise j).1
  have hb2 : below t.place j ≤ es.size := by rw [← S.tb.sz]; exact hb1
  have ep1 : (t.put j).1.place = insertAt t.place (below t.place j) j := rfl
  have ep2 : (t.put j).2 = below t.place j := rfl
  have ep3 : (t.put j).1.mask = t.mask := rfl
  have ep4 : (t.put j).1.dummies = #[] := by
    show (if has t.dummies j then _ else t.dummies) = #[]
    rw [S.tb.dm, if_neg (by simp [SetTable.has])]
  have ia := fun j' => ins_at (x := (hsh prog w k, Value.ref p)) S.tb.rise S.tb.sz hno j'
  have mem : ∀ {y}, y ∈ (insertAt es (below t.place j) (hsh prog w k, Value.ref p)).toList ↔ y = (hsh prog w k, Value.ref p) ∨ y ∈ es.toList := ins_mem hb2
  have atj : at_ t.place es j = none := (at_none S.tb.rise S.tb.sz).mpr hno
  rw [ep2]
  refine ⟨⟨by rw [ep1]; exact ins_rise S.tb.rise hno, by rw [ep1, ins_size hb1, ins_size hb2, S.tb.sz], by rw [ep3, ins_size hb2]; have := S.nf; omega, fun i j' e => ?_, by rw [ep3]; exact S.tb.msk, ep4⟩, fun e he => ?_, fun e he => ?_, fun k' hk' => ?_, ?_, ?_, ?_, ?_⟩
  · rw [ep1, ins_get hb1] at e
    rw [ep3]
    by_cases c : i < below t.place j
    · rw [if_pos c] at e; exact S.tb.le _ _ e
    · by_cases c2 : i = below t.place j
      · rw [if_neg c, if_pos c2] at e; cases e; exact jle
      · rw [if_neg c, if_neg c2] at e; exact S.tb.le _ _ e
  · rcases mem.mp he with rfl | he
    · exact ⟨k, by simp, p, rfl, hk, rfl⟩
    · obtain ⟨k', h1, r⟩ := S.ent e he
      exact ⟨k', by simp [h1], r⟩
  · rw [ep1, ep3]
    rcases mem.mp he with rfl | he
    · refine ⟨n0, by rw [hj, ia, if_pos rfl], fun d hd => ?_⟩
      rw [ia]
      split
      · simp
      · obtain ⟨i, e1, e2⟩ := hl d hd
        intro z
        exact (at_none S.tb.rise S.tb.sz).mp z i e2
    · obtain ⟨n, e1, e2⟩ := S.way e he
      refine ⟨n, ?_, fun d hd => ?_⟩
      · rw [ia, if_neg (fun z => by rw [z, atj] at e1; cases e1)]; exact e1
      · rw [ia]
        split
        · simp
        · exact e2 d hd
  · rcases List.mem_append.mp hk' with h1 | h1
    · obtain ⟨e, he, r⟩ := S.all k' h1
      exact ⟨e, mem.mpr (.inr he), r⟩
    · cases List.mem_singleton.mp h1
      exact ⟨_, mem.mpr (.inl rfl), p, rfl, hk⟩
  · refine List.nodup_append.mpr ⟨S.nd, by simp, fun x hx y hy z => ?_⟩
    cases List.mem_singleton.mp hy
    exact hn (z ▸ hx)
  · rw [List.length_append, ins_size hb2, S.len]; rfl
  · exact S.ld
  · exact S.pl
theorem TP.move {prog : Program} {w : World} {h h' : Heap} {es : Array (Int × Value)} {t : SetTable} {ks : List (List Int)} (P : TP prog w h es t ks) (kp : ∀ k q, TK prog w h k q → TK prog w h' k q) : TP prog w h' es t ks :=
  ⟨P.tb, fun e he => by obtain ⟨k, a, p, b, c, d⟩ := P.ent e he; exact ⟨k, a, p, b, kp _ _ c, d⟩, P.way, fun k hk => by obtain ⟨e, a, p, b, c⟩ := P.all k hk; exact ⟨e, a, p, b, kp _ _ c⟩, P.nd, P.len, P.ld, P.pl⟩
theorem TP.relay {prog : Program} {w : World} {h : Heap} {es : Array (Int × Value)} {t t' : SetTable} {m : Nat} {order : Array Nat} {ks : List (List Int)} (P : TP prog w h es t ks) (L : Laid (α := Int × Value) m (es.map (·.1)) t' order) (l1 : t'.led = t.led) (l2 : t'.plain = t.plain) :
    (order.filterMap (fun i => es[i]?)).size = es.size ∧ (∀ e, e ∈ (order.filterMap (fun i => es[i]?)).toList ↔ e ∈ es.toList) ∧ TP prog w h (order.filterMap (fun i => es[i]?)) t' ks := by
  have hsz : es.size = (es.map (·.1)).size := by simp
  have pr := L.per es hsz
  have sz : (order.filterMap (fun i => es[i]?)).size = es.size := by
    have := pr.length_eq
    rw [Array.length_toList, Array.length_toList] at this
    exact this
  have mem : ∀ {e}, e ∈ (order.filterMap (fun i => es[i]?)).toList ↔ e ∈ es.toList := pr.mem_iff
  refine ⟨sz, fun e => mem, by rw [sz, hsz]; exact L.tb, fun e he => P.ent e (mem.mp he), fun e he => ?_, fun k hk => ?_, P.nd, by rw [sz]; exact P.len, by rw [l1]; exact P.ld, by rw [l2]; exact P.pl⟩
  · obtain ⟨i, ei⟩ := mem_arr.mp (mem.mp he)
    rw [L.mask]
    exact L.way es hsz i e.1 e (by simp [ei]) ei
  · obtain ⟨e, he, r⟩ := P.all k hk
    exact ⟨e, mem.mpr he, r⟩
section
variable {prog : Program} {w : World} {A : Around} {E : Value → Shared → Prop} {s : Shared} {a : Addr} {es : Array (Int × Value)} {ep : Nat} {t : SetTable} {ks : List (List Int)} {k : List Int} {p : Addr}
theorem grown_ok {m n : Nat} (M : Msk m) (h1 : n * 5 < m * 3) (h2 : m * 3 ≤ (n + 1) * 5) (hn : n ≤ 300) : ∃ m', SetTable.sizeAbove (SetTable.grown (n + 1)) = m' + 1 ∧ Msk m' ∧ n + 1 ≤ m' ∧ (n + 1) * 5 < m' * 3 := by
  rcases M with rfl | rfl | rfl | rfl
  · have : n = 4 := by omega
    subst this
    exact ⟨31, by decide, .inr (.inl rfl), by decide, by decide⟩
  · have : n = 18 := by omega
    subst this
    exact ⟨127, by decide, .inr (.inr (.inl rfl)), by decide, by decide⟩
  · have : n = 76 := by omega
    subst this
    exact ⟨511, by decide, .inr (.inr (.inr rfl)), by decide, by decide⟩
  · omega
theorem relay_ok {o : Obj} (ho : s.heap.get? a = some o) (hex : o.ExactSet) (hd : o.data = .set es ep t) (P : TP prog w s.heap es t ks) {wanted m : Nat} (hn : es.size ≤ 301) (hw : SetTable.sizeAbove wanted = m + 1) (M : Msk m) (hm : es.size ≤ m) (hf : es.size * 5 < m * 3) {Q : Unit → Shared → Prop}
    (h : ∀ h' es' ep' t', Heap.SameBut a s.heap h' → (∀ e, e ∈ es'.toList ↔ e ∈ es.toList) → TS prog w h' a es' ep' t' ks → Q () { s with heap := h' }) : wpAny (model prog w) A (setRelay a wanted) Q E s := by
  obtain ⟨t', order, e1, l1, l2, _, L⟩ := laid_ok (α := Int × Value) (finger := t.finger) (moves := t.movedTo m) (led := t.led) (plain := t.plain) M (hs := es.map (·.1)) (by simpa using hm)
  obtain ⟨sz, mm, P'⟩ := P.relay L l1 l2
  unfold setRelay
  refine wpAny_bind (wpAny_setState_of ho hd P.tb.fits ?_)
  dsimp only
  have m5 : m ≤ 511 := by rcases M with e | e | e | e <;> rw [e] <;> decide
  rw [hw, if_neg (by rw [PySem.sizeLine_eq]; omega)]
  have er : t.relaid (es.map (·.1)) wanted = some (t', order) := by
    unfold SetTable.relaid
    rw [hw]
    exact e1
  rw [er]
  refine wpAny_bind ?_
  change wpAny _ _ (do
    if (order.filterMap (es[·]?)).size != es.size then unsupported "internal:set-table-lost-an-element"
    pure (order.filterMap (es[·]?), t')) _ _ _
  rw [if_neg (by simp [sz])]
  refine wpAny_pure ?_
  dsimp only
  refine wpAny_storeSet_of ho hd ?_ (by rw [sz, PySem.sizeLine_eq]; omega)
  have hg : (s.heap.update a (Obj.putSet (order.filterMap (es[·]?)) t')).get? a = some { o with data := .set (order.filterMap (es[·]?)) (ep + 1) t' } := by
    have := Heap.get?_update_self (Obj.putSet (order.filterMap (es[·]?)) t') ho (by rw [putSet_of _ t' hd]; rfl)
    rw [putSet_of _ t' hd] at this; exact this
  have sb := Heap.SameBut.update s.heap a (Obj.putSet (order.filterMap (es[·]?)) t')
  have P2 := P'.move (h' := s.heap.update a (Obj.putSet (order.filterMap (es[·]?)) t')) fun k q x => tk_keep x ho hd sb
  refine h _ _ (ep + 1) t' sb mm ⟨⟨_, hg, hex, rfl⟩, P2.tb, ?_, P2.ent, P2.way, P2.all, P2.nd, P2.len, P2.ld, P2.pl⟩
  rw [sz, L.mask]; exact hf
theorem add_ok (S : TS prog w s.heap a es ep t ks) (hk : TK prog w s.heap k p) (hu : A.units < cLine) (hn : es.size ≤ 300) {Q : Bool → Shared → Prop} (q1 : k ∈ ks → Q false s)
    (q2 : k ∉ ks → ∀ h' es' ep' t', Heap.SameBut a s.heap h' → (∀ e ∈ es'.toList, e = (hsh prog w k, .ref p) ∨ e ∈ es.toList) → TS prog w h' a es' ep' t' (ks ++ [k]) → Q true { s with heap := h' }) : wpAny (model prog w) A (setAddHashed a (.ref p) (hsh prog w k)) Q E s := by
  obtain ⟨o, ho, hex, hd⟩ := S.obj
  obtain ⟨n0, h1, h2, h3⟩ := S.tb.first (bits_lt (hsh prog w k))
  have hm : t.mask ≤ 511 := by rcases S.tb.msk with e | e | e | e <;> rw [e] <;> decide
  unfold setAddHashed
  refine wpAny_holding ?_
  rw [show (100000 : Nat) = 99999 + 1 from rfl]
  unfold setAddHashedIn
  refine wpAny_bind (wpAny_setState_of ho hd S.tb.fits ?_)
  dsimp only
  rw [if_neg (by simp [byScan, Value.scannable])]
  refine wpAny_bind (search_ok (adding := true) S hk hu h1 h2 h3 (fun hin _ => wpAny_pure (q1 hin)) (fun _ z => by cases z) (fun hin => ?_) 100000 0 none (Nat.zero_le _) (by omega) rfl fun d hd => by omega)
  dsimp only
  refine wpAny_bind (wpAny_setState_of ho hd S.tb.fits ?_)
  dsimp only
  have P := S.put hk hin h2 h3
  obtain ⟨t1, et1⟩ : ∃ t1, (t.put (pa t.mask (bits (hsh prog w k)) n0).j).1 = t1 := ⟨_, rfl⟩
  obtain ⟨es1, ees1⟩ : ∃ es1, insertAt es (t.put (pa t.mask (bits (hsh prog w k)) n0).j).2 (hsh prog w k, Value.ref p) = es1 := ⟨_, rfl⟩
  have m1 : ∀ e ∈ es1.toList, e = (hsh prog w k, .ref p) ∨ e ∈ es.toList := fun e he => by
    rw [← ees1] at he
    exact (ins_mem (by show below t.place _ ≤ es.size; rw [← S.tb.sz]; exact (below_spec S.tb.rise _).1)).mp he
  rw [et1, ees1] at P
  have mk : t1.mask = t.mask := by rw [← et1]; rfl
  have sz1 : es1.size = es.size + 1 := by have a := P.len; have b := S.len; rw [List.length_append] at a; simp at a; omega
  have go : ∀ t2, TP prog w s.heap es1 t2 (ks ++ [k]) → t2.mask = t.mask → wpAny (model prog w) A (do
      storeSet a es1 t2
      if (!false && t2.tooFull) = true then do
          setRelay a (SetTable.grown (es.size + 1))
          pure true
        else pure true) Q E s := by
    intro t2 P2 mk2
    refine wpAny_bind (wpAny_storeSet_of ho hd ?_ (by rw [sz1, PySem.sizeLine_eq]; omega))
    have hg : (s.heap.update a (Obj.putSet es1 t2)).get? a = some { o with data := .set es1 (ep + 1) t2 } := by
      have := Heap.get?_update_self (Obj.putSet es1 t2) ho (by rw [putSet_of _ t2 hd]; rfl)
      rw [putSet_of _ t2 hd] at this; exact this
    have sb := Heap.SameBut.update s.heap a (Obj.putSet es1 t2)
    have P3 := P2.move (h' := s.heap.update a (Obj.putSet es1 t2)) fun k q x => tk_keep x ho hd sb
    have fl : t2.fill = es.size + 1 := by unfold SetTable.fill; rw [P2.tb.dm, P2.tb.sz, sz1]; rfl
    by_cases full : t2.tooFull = true
    · rw [if_pos (by rw [full]; rfl)]
      have fu : t.mask * 3 ≤ (es.size + 1) * 5 := by
        unfold SetTable.tooFull at full
        rw [fl, mk2] at full
        simpa using full
      obtain ⟨m, g1, g2, g3, g4⟩ := grown_ok S.tb.msk S.nf fu hn
      refine wpAny_bind (relay_ok (s := { s with heap := s.heap.update a (Obj.putSet es1 t2) }) hg hex rfl P3 (by omega) g1 g2 (by omega) (by rw [sz1]; exact g4) fun h' es' ep' t' sb' mm S' => wpAny_pure ?_)
      exact q2 hin h' es' ep' t' (sb.trans sb') (fun e he => m1 e ((mm e).mp he)) S'
    · rw [if_neg (by simp [full])]
      refine wpAny_pure (q2 hin _ es1 (ep + 1) t2 sb m1 ⟨⟨_, hg, hex, rfl⟩, P3.tb, ?_, P3.ent, P3.way, P3.all, P3.nd, P3.len, P3.ld, P3.pl⟩)
      unfold SetTable.tooFull at full
      rw [fl] at full
      simp at full
      rw [sz1]; exact full
  rw [et1, ees1]
  split
  · refine wpAny_bind (wp_byValue hk ?_)
    rw [if_pos rfl]
    exact go t1 P mk
  · refine wpAny_bind (wpAny_pure ?_)
    rw [if_pos rfl]
    exact go t1 P mk
theorem setAdd_ok (S : TS prog w s.heap a es ep t ks) (hk : TK prog w s.heap k p) (hu : A.units < cLine) (hn : es.size ≤ 300) {Q : Bool → Shared → Prop} (q1 : k ∈ ks → ∀ tk, s.toks ≤ tk → Q false { s with toks := tk })
    (q2 : k ∉ ks → ∀ h' es' ep' t' tk, s.toks ≤ tk → Heap.SameBut a s.heap h' → (∀ e ∈ es'.toList, e = (hsh prog w k, .ref p) ∨ e ∈ es.toList) → TS prog w h' a es' ep' t' (ks ++ [k]) → Q true { s with heap := h', toks := tk }) : wpAny (model prog w) A (setAdd a (.ref p)) Q E s := by
  unfold setAdd
  refine wpAny_holding (wpAny_bind (wpAny_pyHash_tuple hu hk ?_))
  exact add_ok (s := { s with toks := s.toks + (k.length + 1) }) S hk hu hn (fun h => q1 h _ (Nat.le_add_right _ _)) fun h h' es' ep' t' sb mm S' => q2 h h' es' ep' t' _ (Nat.le_add_right _ _) sb mm S'
end
end ST
namespace ST
open PySem PySem.SetTable PySem.Spec PyProof.Rows
def adT (l : List (List Int)) (k : List Int) : List (List Int) := if k ∈ l then l else l ++ [k]
def uqT (ks : List (List Int)) : List (List Int) := ks.foldl adT []
theorem uqT_snoc (ks : List (List Int)) (k : List Int) : uqT (ks ++ [k]) = adT (uqT ks) k := by unfold uqT; rw [List.foldl_append]; rfl
theorem adT_len (l : List (List Int)) (k : List Int) : (adT l k).length ≤ l.length + 1 := by unfold adT; split <;> simp
theorem adT_mem (l : List (List Int)) (k x : List Int) : x ∈ adT l k ↔ x ∈ l ∨ x = k := by
  unfold adT
  split
  · rename_i h
    constructor
    · exact .inl
    · rintro (z | rfl)
      · exact z
      · exact h
  · simp
theorem uqT_mem (ks : List (List Int)) : ∀ x, x ∈ uqT ks ↔ x ∈ ks := by
  have : ∀ (ks acc : List (List Int)) x, x ∈ ks.foldl adT acc ↔ x ∈ acc ∨ x ∈ ks := by
    intro ks
    induction ks with
    | nil => intro acc x; simp
    | cons k ks ih => intro acc x; rw [List.foldl_cons, ih, adT_mem, List.mem_cons, or_assoc]
  intro x
  have := this ks [] x
  rw [show uqT ks = ks.foldl adT [] from rfl, this]; simp
theorem uqT_len (ks : List (List Int)) : (uqT ks).length ≤ ks.length := by
  have : ∀ (ks acc : List (List Int)), (ks.foldl adT acc).length ≤ acc.length + ks.length := by
    intro ks
    induction ks with
    | nil => intro acc; simp
    | cons k ks ih => intro acc; rw [List.foldl_cons]; have := ih (adT acc k); have := adT_len acc k; rw [List.length_cons]; omega
  have := this ks []
  rw [List.length_nil, Nat.zero_add] at this
  exact this
theorem TK.at' {prog : Program} {w : World} {h h' : Heap} {k : List Int} {q : Addr} (x : TK prog w h k q) (e : ∀ o, h.get? q = some o → h'.get? q = some o) : TK prog w h' k q := by
  obtain ⟨o, items, n, ho, r⟩ := x
  exact ⟨o, items, n, e o ho, r⟩
theorem TS.at' {prog : Program} {w : World} {h h' : Heap} {a Lo : Addr} {es : Array (Int × Value)} {ep : Nat} {t : SetTable} {ks : List (List Int)} (S : TS prog w h a es ep t ks) (B : ∀ e ∈ es.toList, ∀ p, e.2 = .ref p → p < Lo) (e : ∀ o, h.get? a = some o → h'.get? a = some o) (kp : ∀ b o, b < Lo → h.get? b = some o → h'.get? b = some o) : TS prog w h' a es ep t ks := by
  obtain ⟨o, ho, r⟩ := S.obj
  exact ⟨⟨o, e o ho, r⟩, S.tb, S.nf, fun x hx => by obtain ⟨k, b, p, c, d, f⟩ := S.ent x hx; exact ⟨k, b, p, c, TK.at' d fun o g => kp _ o (B x hx p c) g, f⟩, S.way, fun k hk => by obtain ⟨x, b, p, c, d⟩ := S.all k hk; exact ⟨x, b, p, c, TK.at' d fun o g => kp _ o (B x b p c) g⟩, S.nd, S.len, S.ld, S.pl⟩
def TL (prog : Program) (w : World) (h : Heap) (a : Addr) (B : Addr → Prop) (ks : List (List Int)) : Prop := ∃ es ep t, TS prog w h a es ep t ks ∧ ∀ e ∈ es.toList, ∀ p, e.2 = .ref p → B p
section
variable {prog : Program} {w : World} {A : Around} {R : Result → Shared → Prop} {I : Addr} {fp wr : List Addr} {G : Array GenState → Array GenState → Prop} {n : Nat} {P : Nat → Value → Prop} {St : Nat → Shared → Prop}
theorem loopT (W : WalksS prog w A.in1 I fp wr G n P St) {a Lo : Addr} (haf : a ∉ fp) (hu : A.in1.units < cLine) (keys : List (List Int)) (hn : keys.length = n) (h3 : n ≤ 300) (hLo : Lo ≤ a) (hwr : ∀ b ∈ wr, Lo ≤ b) {Bp : Addr → Prop} (hB : ∀ q, Bp q → q < Lo) {h0 : Heap}
    (hval : ∀ i v, P i v → ∃ q, Bp q ∧ v = .ref q ∧ TK prog w h0 (keys.getD i []) q) :
    ∀ (m i : Nat) (s : Shared), n - i = m → i ≤ n → St i s → (∀ b o, b < Lo → h0.get? b = some o → s.heap.get? b = some o) → TL prog w s.heap a Bp (uqT (keys.take i)) →
      (∀ s', Moved (a :: wr) G s s' → TL prog w s'.heap a Bp (uqT keys) → R (.ok (.ret .none)) s') →
      codeAny (model prog w) A (.builtin "set.update.loop" ⟨[.ref a, .ref I], []⟩) R s := by
  have haw : a ∉ wr := fun h => haf (W.sub _ h)
  have wsub : ∀ b ∈ wr, b ∈ a :: wr := fun b hb => List.mem_cons_of_mem _ hb
  have low : ∀ b, b < Lo → b ∉ a :: wr := fun b hb hm => by
    rcases List.mem_cons.mp hm with rfl | hm
    · exact Nat.lt_irrefl _ (Nat.lt_of_lt_of_le hb hLo)
    · exact Nat.lt_irrefl _ (Nat.lt_of_lt_of_le hb (hwr b hm))
  intro m
  induction m with
  | zero =>
    intro i s hm hi hst h0k hS hR
    cases (show i = n by omega)
    refine codeAny_builtin F.entry_set_update_loop ?_
    rw [Around.under_plainId F.plain_set_update_loop _]; show wpAny _ A.in1 (pyNext (.ref I) >>= _) _ _ s
    refine wpAny_bind (W.done s _ _ hst fun s' mv => ?_); show wpAny _ A.in1 (ret Value.none) _ _ s'
    have mv2 := mv.mono wsub
    refine wpAny_pure (hR s' mv2 ?_)
    obtain ⟨es, ep, t, S, B⟩ := hS
    rw [← hn, List.take_length] at S
    exact ⟨es, ep, t, S.at' (fun e he p hp => hB p (B e he p hp)) (fun o e => mv.heap a o haw e) fun b o hb e => mv2.heap b o (low b hb) e, B⟩
  | succ m ih =>
    intro i s hm hi hst h0k hS hR
    have hlt : i < n := by omega
    refine codeAny_builtin F.entry_set_update_loop ?_
    rw [Around.under_plainId F.plain_set_update_loop _]; show wpAny _ A.in1 (pyNext (.ref I) >>= _) _ _ s
    refine wpAny_bind (W.item i s _ _ hlt hst fun v s' hP hst' mv => ?_)
    have mv2 := mv.mono wsub
    obtain ⟨q, ql, rfl, hq0⟩ := hval i v hP
    have h0k' : ∀ b o, b < Lo → h0.get? b = some o → s'.heap.get? b = some o := fun b o hb e => mv2.heap b o (low b hb) (h0k b o hb e)
    have hq : TK prog w s'.heap (keys.getD i []) q := TK.at' hq0 fun o e => h0k' q o (hB q ql) e
    obtain ⟨es, ep, t, S, B⟩ := hS
    have S' := S.at' (h' := s'.heap) (fun e he p hp => hB p (B e he p hp)) (fun o e => mv.heap a o haw e) fun b o hb e => mv2.heap b o (low b hb) e
    have el : keys.take (i + 1) = keys.take i ++ [keys.getD i []] := by
      rw [List.take_succ, List.getElem?_eq_getElem (by omega)]
      simp [List.getD, List.getElem?_eq_getElem (show i < keys.length by omega)]
    have hsz : es.size ≤ 300 := by
      have h1 := S'.len
      have h2 := uqT_len (keys.take i)
      rw [List.length_take] at h2
      omega
    show wpAny _ A.in1 (holding [Value.ref q] (setAdd a (.ref q)) >>= _) _ _ s'
    refine wpAny_bind (wpAny_holding (setAdd_ok S' hq hu hsz (fun hin tk hle => ?_) (fun hin h' es' ep' t' tk hle sb mm S2 => ?_)))
    · have S3 : TS prog w s'.heap a es ep t (uqT (keys.take (i + 1))) := by
        rw [el, uqT_snoc]; unfold adT; rw [if_pos hin]; exact S'
      refine wpAny_pure ⟨plainId_quiet F.plain_set_update_loop _, ih (i + 1) _ (by omega) hlt (W.frame _ s' _ tk hst' hle fun b hb o e => e) h0k' ⟨es, ep, t, S3, B⟩ fun s'' mv3 hT => ?_⟩
      exact hR s'' (Moved.trans W.gtrans (mv2.then_heap (h' := s'.heap) hle fun b o _ e => e) mv3) hT
    · have S3 : TS prog w h' a es' ep' t' (uqT (keys.take (i + 1))) := by
        rw [el, uqT_snoc]; unfold adT; rw [if_neg hin]; exact S2
      have B' : ∀ e ∈ es'.toList, ∀ p, e.2 = .ref p → Bp p := fun e he p hp => by
        rcases mm e he with rfl | he
        · cases hp; exact ql
        · exact B e he p hp
      refine wpAny_pure ⟨plainId_quiet F.plain_set_update_loop _, ih (i + 1) _ (by omega) hlt (W.frame _ s' h' tk hst' hle fun b hb o e => ?_) (fun b o hb e => ?_) ⟨es', ep', t', S3, B'⟩ fun s'' mv3 hT => ?_⟩
      · rw [sb.2 b (fun z : b = a => haf (z ▸ hb))]; exact e
      · show h'.get? b = some o
        rw [sb.2 b (fun z : b = a => low b hb (z ▸ List.mem_cons_self))]; exact h0k' b o hb e
      · refine hR s'' (Moved.trans W.gtrans (mv2.then_heap (h' := h') hle fun b o hb e => ?_) mv3) hT
        rw [sb.2 b (fun z : b = a => hb (z ▸ List.mem_cons_self))]; exact e
end
end ST
namespace ST
open PySem PySem.SetTable PySem.Spec PyProof.Rows
abbrev nSet (led : Bool) : Obj := { cls := .type "set", dict := none, data := .set #[] 0 (.fresh 0 0 led) }
theorem fresh_TS {prog : Program} {w : World} {h : Heap} {a : Addr} {led : Bool} (e : h.get? a = some (nSet led)) (hled : led = ldOf w) (B : Addr → Prop) : TL prog w h a B [] :=
  ⟨#[], 0, .fresh 0 0 led, ⟨⟨_, e, ⟨rfl, rfl, rfl⟩, rfl⟩, ⟨fun i k _ hk => absurd hk (Nat.not_lt_zero _), rfl, Nat.zero_le _, fun i j z => by simp [SetTable.fresh] at z, .inl rfl, rfl⟩, (show 0 * 5 < 7 * 3 by decide), (fun e he => by cases he), (fun e he => by cases he), (fun k hk => by cases hk), List.nodup_nil, rfl, hled, rfl⟩, fun e he => by cases he⟩
section
variable {prog : Program} {w : World} {A : Around} {E : Value → Shared → Prop} {s : Shared}
theorem new_set (v : Value) {Q₁ : Value → Shared → Prop} (h : Q₁ (.ref s.heap.objs.size) { s with heap := s.heap.push (nSet (ldOf w)) }) : codeAny (model prog w) A (.call (.builtin "set.__new__") ⟨[.type "set", v], []⟩) (wants Q₁ E) s := by
  refine codeAny_of_tree ?_; show wpAny _ A.in1 (do checkBuiltinCall "set.__new__" ⟨[.type "set", v], []⟩; again (.builtin "set.__new__" ⟨[.type "set", v], []⟩)) _ _ s
  refine wpAny_bind (wpAny_of_eq (PySem.F.newCall_set_1 v) (wpAny_pure ⟨plainId_quiet PySem.F.plain_set_new _, codeAny_builtin PySem.F.entry_set_new ?_⟩)); rw [Around.under_plainId PySem.F.plain_set_new _]
  unfold Builtin.«set.__new__» Builtin.Frozenset.newClass; have k1 := sub_set_self; obtain ⟨hp, g, d, tk, os⟩ := s
  dsimp only
  wp_walk
  refine wpAny_askSetting (wpAny_pure ?_); dsimp only; simp only [newObj]
  refine wpAny_bind (wpAny_alloc (wpAny_pure (wpAny_pure ?_)))
  exact h
set_option maxHeartbeats 3200000 in
theorem call_setT {l : Addr} {items : Array Value} {keys : List (List Int)} {Bp : Addr → Prop} {Q : Value → Shared → Prop} (hh : A.handled = none) (hu : A.units + 64 < cLine) (hl : s.heap.IsList l items) (hn : keys.length = items.size) (h3 : items.size ≤ 300) (hB : ∀ q, Bp q → q < s.heap.objs.size)
    (hi : ∀ (i : Nat) v, items[i]? = some v → ∃ q, Bp q ∧ v = .ref q ∧ TK prog w s.heap (keys.getD i []) q)
    (h : ∀ (h' : Heap) (tk : Nat), TL prog w h' s.heap.objs.size Bp (uqT keys) → (∀ b o, b < s.heap.objs.size → s.heap.get? b = some o → h'.get? b = some o) → Q (.ref s.heap.objs.size) { s with heap := h', toks := tk }) :
    wpAny (model prog w) A (call (.type "set") [.ref l]) Q E s := by
  obtain ⟨c, tl, hmro⟩ := PySem.F.called_set.mro; have hmade := PySem.F.called_set.made; have hsub := PySem.F.called_set.sub
  refine wpAny_call (codeAny_of_tree ?_); show wpAny _ _ (callAny (.type "set") _) _ _ _
  refine wpAny_pure ⟨Code.quiet_builtin _ (by decide +kernel), codeAny_builtin PySem.F.entry_type_call ?_⟩; rw [Around.under_plain (weight_type_call_type "set" [.ref l] []) rfl]
  have k1 := PySem.F.called_set.notType; have k2 := PySem.F.called_set.canCreate; have k3 := PySem.F.typeCall_set_1 (.ref l)
  repeat (any_goals (first | assumption | wp_step))
  refine codeAny_mono (new_set (.ref l) (E := E) (Q₁ := fun ob s₁ => ∃ led : Bool, led = ldOf w ∧ ob = .ref s.heap.objs.size ∧ s₁ = { s with heap := s.heap.push (nSet led) }) ⟨_, rfl, rfl, rfl⟩) fun r s₁ hr => ?_
  cases r with
  | error e => exact hr
  | ok fl =>
    cases fl with
    | ret ob =>
      obtain ⟨led, hled, rfl, rfl⟩ := hr
      have gS : (s.heap.push (nSet led)).get? s.heap.objs.size = some (nSet led) := Heap.get?_push_size _ rfl
      have gT : Shared.TypeIs { s with heap := s.heap.push (nSet led) } (.ref s.heap.objs.size) "set" := ⟨_, gS, rfl⟩
      have k4 := PySem.F.called_set.init.lookup; have k5 := PySem.F.called_set.init.bind (.ref s.heap.objs.size)
      repeat (any_goals (first | assumption | wp_step))
      refine codeAny_mono (codeAny_call_builtin (R := wants (fun r s₂ => r = .none ∧ ∃ h' tk, s₂ = { s with heap := h', toks := tk } ∧ TL prog w h' s.heap.objs.size Bp (uqT keys) ∧ (∀ b o, b < s.heap.objs.size → s.heap.get? b = some o → h'.get? b = some o)) E)
        PySem.F.called_set.init.plain PySem.F.entry_set_init (check_set_init_1 gT ?_)) fun r₂ s₂ hr₂ => ?_
      · obtain ⟨ol, hol, hcl, nl, hdl⟩ := hl
        obtain ⟨ocls, odict, odata, oslots⟩ := ol
        dsimp only at hcl hdl; subst hcl hdl
        have g2 : (s.heap.push (nSet led)).get? l = some { cls := .type "list", dict := odict, data := .seq items nl, slots := oslots } := Heap.get?_push_of_some _ hol
        have k6 := PySem.F.sub_list_set; have k7 := PySem.F.sub_list_frozenset; have k8 : (Value.type "list" == Value.type "dict") = false := by decide
        have g3 : (s.heap.push (nSet led)).IsList l items := ⟨_, g2, rfl, nl, rfl⟩
        unfold Builtin.«set.__init__» noKeywords Builtin.Frozenset.updateFrom
        generalize hPI : pyIter = PI
        wp_walk
        subst hPI
        refine wpAny_pyIter_list g3 (wpAny_bind (wpAny_runValue ?_))
        have ll : l < s.heap.objs.size := Heap.lt_size hol
        have sz2 : (s.heap.push (nSet led)).objs.size = s.heap.objs.size + 1 := Heap.size_push _ _
        have k9 : l ≠ (s.heap.push (nSet led)).objs.size := by rw [sz2]; exact Nat.ne_of_lt (Nat.lt_succ_of_lt ll)
        have hf : s.heap.objs.size ∉ [(s.heap.push (nSet led)).objs.size, l] := by
          rw [sz2]; simp only [List.mem_cons, List.not_mem_nil, or_false, not_or]; exact ⟨Nat.ne_of_lt (Nat.lt_succ_self _), Nat.ne_of_gt ll⟩
        refine loopT ((Walks.list (by simp [hh]) _ l k9 items).toS) (a := s.heap.objs.size) (Lo := s.heap.objs.size) (h0 := s.heap) hf ?units keys hn h3 (Nat.le_refl _) (fun b hb => ?wr) hB (fun i v hv => hi i v hv) (items.size - 0) 0 _ (by omega) (Nat.zero_le _) ⟨⟨_, Heap.get?_push_size _ rfl, rfl, rfl⟩, (g3.push _)⟩ (fun b o hb e => Heap.get?_push_of_some _ (Heap.get?_push_of_some _ e)) (fresh_TS (Heap.get?_push_of_some _ gS) hled _) fun s' mv hS => ?fin
        case units => show A.units + 1 + 1 + 1 < cLine; omega
        case wr => rw [List.mem_singleton.mp hb, sz2]; exact Nat.le_succ _
        case fin =>
          obtain ⟨h', g', d', tk', os'⟩ := s'
          have eg : g' = s.gens := mv.gens
          have ed : d' = s.drawn := mv.drawn
          have eo : os' = s.os := mv.os
          subst eg ed eo
          show wpAny _ _ _ _ _ _
          refine wpAny_pure ?_
          show wpAny _ _ (ret Value.none) _ _ _
          refine wpAny_pure ⟨rfl, h', tk', rfl, hS, fun b o hb e => mv.heap b o ?_ (Heap.get?_push_of_some _ (Heap.get?_push_of_some _ e))⟩
          rw [sz2]; simp only [List.mem_cons, List.not_mem_nil, or_false, not_or]; exact ⟨Nat.ne_of_lt hb, Nat.ne_of_lt (Nat.lt_succ_of_lt hb)⟩
      · cases r₂ with
        | error e => exact hr₂
        | ok fl₂ =>
          cases fl₂ with
          | ret r =>
            obtain ⟨rfl, h', tk, rfl, hS', hk'⟩ := hr₂
            repeat (any_goals (first | assumption | wp_step))
            exact h _ _ hS' hk'
          | _ => exact hr₂.elim
    | _ => exact hr.elim
end
end ST
namespace ST
open PySem PySem.SetTable PySem.Spec PyProof.Rows
theorem er_perm {α : Type} : ∀ (l : List α) (i : Nat) (h : i < l.length), (l[i] :: l.eraseIdx i).Perm l := by
  intro l
  induction l with
  | nil => intro i h; cases h
  | cons x l ih =>
    intro i h
    cases i with
    | zero => exact List.Perm.refl _
    | succ i =>
      simp only [List.getElem_cons_succ, List.eraseIdx_cons_succ]
      exact (List.Perm.swap x _ _).trans (List.Perm.cons x (ih i (by simpa using h)))
theorem pick_go {α : Type} (next : Nat → Nat) : ∀ (n k : Nat) (left : List α) (out : Array α), left.length = n → (pickOrder.go next n k left out).toList.Perm (out.toList ++ left) := by
  intro n
  induction n with
  | zero => intro k left out h; cases left with | nil => simp [pickOrder.go] | cons _ _ => cases h
  | succ n ih =>
    intro k left out h
    simp only [pickOrder.go]
    have hi : next k % left.length < left.length := Nat.mod_lt _ (by omega)
    rw [List.getElem?_eq_getElem hi]
    dsimp only
    refine (ih (k + 1) _ _ (by rw [List.length_eraseIdx_of_lt hi]; omega)).trans ?_
    rw [Array.toList_push, List.append_assoc]
    exact (List.Perm.append_left _ (er_perm _ _ hi))
theorem pick_perm {α : Type} (next : Nat → Nat) (xs : Array α) : (pickOrder next xs).toList.Perm xs.toList := by
  unfold pickOrder
  exact pick_go next _ _ _ _ (by simp)
section
variable {prog : Program} {w : World} {A : Around} {E : Value → Shared → Prop} {s : Shared} {a b : Addr} {es es2 : Array (Int × Value)} {ep ep2 : Nat} {t t2 : SetTable} {ks ks2 : List (List Int)}
theorem walk_ok (S : TS prog w s.heap a es ep t ks) {Q : Array (Int × Value) → Shared → Prop} (q : ∀ l, l.toList.Perm es.toList → Q l s) : wpAny (model prog w) A (setWalk a) Q E s := by
  obtain ⟨o, ho, hex, hd⟩ := S.obj
  unfold setWalk setsByText
  refine wpAny_bind (wpAny_setState_of ho hd S.tb.fits ?_)
  dsimp only
  refine wpAny_bind (wpAny_bind (wpAny_askSetting (wpAny_pure ?_)))
  by_cases hb : w.params.followText "set-order" = true
  · show wpAny _ _ (if w.params.followText "set-order" = true then _ else _) _ _ _
    rw [if_pos hb]
    refine wpAny_bind (wpAny_askSetting (wpAny_pure ?_))
    exact q _ (pick_perm _ _)
  · show wpAny _ _ (if w.params.followText "set-order" = true then _ else _) _ _ _
    rw [if_neg hb]
    have pl := S.pl
    have ld : t.led = true := by rw [S.ld, ldOf, Bool.eq_false_iff.mpr hb]; rfl
    change wpAny _ _ (if (!t.plain && decide (es.size > 1)) = true then _ else _) _ _ _
    rw [pl, if_neg (by simp)]
    refine wpAny_bind ?_
    change wpAny _ _ (if (!t.led && decide (es.size > 1)) = true then _ else _) _ _ _
    rw [ld, if_neg (by simp)]
    exact wpAny_pure (wpAny_pure (q _ (List.Perm.refl _)))
theorem walkU_ok (S : TS prog w s.heap a es ep t ks) (S2 : TS prog w s.heap b es2 ep2 t2 ks2) {Q : List (Int × Value) → Shared → Prop} (q : ∀ l, l.Perm es.toList → Q l s) : wpAny (model prog w) A (Builtin.Frozenset.walkUnseen a b) Q E s := by
  obtain ⟨o, ho, hex, hd⟩ := S.obj
  obtain ⟨o2, ho2, hex2, hd2⟩ := S2.obj
  unfold Builtin.Frozenset.walkUnseen setEntries
  refine wpAny_bind (wpAny_bind (wpAny_setState_of ho hd S.tb.fits (wpAny_pure ?_)))
  refine wpAny_bind (wpAny_bind (wpAny_setState_of ho2 hd2 S2.tb.fits (wpAny_pure (wpAny_bind ?_))))
  dsimp only
  have all : ∀ e ∈ es.toList ++ es2.toList, ∃ k p, e.2 = Value.ref p ∧ TK prog w s.heap k p := by
    intro e he
    rcases List.mem_append.mp he with he | he
    · obtain ⟨k, _, p, e1, e2, _⟩ := S.ent e he; exact ⟨k, p, e1, e2⟩
    · obtain ⟨k, _, p, e1, e2, _⟩ := S2.ent e he; exact ⟨k, p, e1, e2⟩
  refine wpAny_forIn_list _ (fun rest r s' => r.1 = none ∧ s' = s ∧ ∀ e ∈ rest, ∃ k p, e.2 = Value.ref p ∧ TK prog w s.heap k p) (fun r s' => s' = s ∧ ∀ l, r.1 = some l → l.Perm es.toList) ?_ ?_ _ _ ⟨rfl, rfl, all⟩ |> fun z => wpAny_mono z (fun r s' ⟨e1, e2⟩ => ?_) fun _ _ z => z
  · rintro ⟨hh, x⟩ rest r s' ⟨hr, rfl, hall⟩
    obtain ⟨k, p, e1, hk⟩ := hall (hh, x) List.mem_cons_self
    dsimp only at e1
    subst e1
    dsimp only
    unfold Builtin.Frozenset.quietEq
    refine wpAny_bind (wpAny_bind (wpAny_specialOf hk.typeIs PySem.F.slot_tuple_eq.lookup (wpAny_pure ?_)))
    rw [if_pos (by decide)]
    unfold Builtin.Frozenset.walk
    refine wpAny_bind (wpAny_bind (walk_ok S fun l hl => wpAny_pure (wpAny_pure ?_)))
    exact ⟨rfl, fun l' h => by cases h; exact hl⟩
  · rintro r s' ⟨hr, rfl, _⟩
    exact ⟨rfl, fun l h => by rw [hr] at h; cases h⟩
  · subst e1
    cases hr : r.1 with
    | none => exact wpAny_pure (q _ (List.Perm.refl _))
    | some l => exact wpAny_pure (q l (e2 l hr))
theorem subset_ok {id : String} (hu : A.units < cLine) (S : TS prog w s.heap a es ep t ks) (S2 : TS prog w s.heap b es2 ep2 t2 ks2) (hl : ks.length = ks2.length) {Q : Bool → Shared → Prop} (q : Q (decide (∀ k ∈ ks, k ∈ ks2)) s) : wpAny (model prog w) A (Builtin.Frozenset.subsetOf id a b) Q E s := by
  obtain ⟨o, ho, hex, hd⟩ := S.obj
  obtain ⟨o2, ho2, hex2, hd2⟩ := S2.obj
  unfold Builtin.Frozenset.subsetOf Builtin.Frozenset.sizeOf setEntries
  refine wpAny_bind (wpAny_bind (wpAny_bind (wpAny_setState_of ho hd S.tb.fits (wpAny_pure (wpAny_pure ?_)))))
  refine wpAny_bind (wpAny_bind (wpAny_bind (wpAny_setState_of ho2 hd2 S2.tb.fits (wpAny_pure (wpAny_pure ?_)))))
  dsimp only
  rw [if_neg (by rw [← S.len, ← S2.len, hl]; exact Nat.lt_irrefl _)]
  refine wpAny_bind (wpAny_setEpoch_of ho hd S.tb.fits ?_)
  refine wpAny_bind (walkU_ok S S2 fun l hlp => wpAny_bind ?_)
  have mem : ∀ e ∈ l, e ∈ es.toList := fun e he => hlp.mem_iff.mp he
  refine wpAny_forIn_list _ (fun rest r s' => r.1 = none ∧ s' = s ∧ (∀ e ∈ rest, e ∈ es.toList) ∧ ∀ e ∈ es.toList, e ∈ rest ∨ ∃ k ∈ ks2, ∃ p, e.2 = Value.ref p ∧ TK prog w s.heap k p) (fun r s' => s' = s ∧ ((r.1 = none ∧ ∀ k ∈ ks, k ∈ ks2) ∨ (r.1 = some false ∧ ¬ ∀ k ∈ ks, k ∈ ks2))) ?_ ?_ _ _ ⟨rfl, rfl, mem, fun e he => .inl (hlp.mem_iff.mpr he)⟩ |> fun z => wpAny_mono z (fun r s' ⟨e1, e2⟩ => ?_) fun _ _ z => z
  · rintro ⟨hh, x⟩ rest r s' ⟨hr, rfl, h1, h2⟩
    obtain ⟨k, kin, p, e1, hk, e3⟩ := S.ent (hh, x) (h1 _ List.mem_cons_self)
    dsimp only at e1 e3
    subst e1 e3
    dsimp only
    refine wpAny_bind (wpAny_holding (find_ok S2 hk hu (fun hin i => ?_) fun hin => ?_))
    · rw [if_neg (by simp)]
      unfold Builtin.Frozenset.unchanged
      refine wpAny_bind (wpAny_bind (wpAny_setEpoch_of ho hd S.tb.fits ?_))
      rw [if_neg (by simp)]
      refine wpAny_pure (wpAny_pure ⟨rfl, rfl, fun e he => h1 e (List.mem_cons_of_mem _ he), fun e he => ?_⟩)
      rcases h2 e he with z | z
      · rcases List.mem_cons.mp z with rfl | z
        · exact .inr ⟨k, hin, p, rfl, hk⟩
        · exact .inl z
      · exact .inr z
    · rw [if_pos (by simp)]
      exact wpAny_pure ⟨rfl, .inr ⟨rfl, fun z => hin (z k kin)⟩⟩
  · rintro r s' ⟨hr, rfl, _, h2⟩
    refine ⟨rfl, .inl ⟨hr, fun k hk => ?_⟩⟩
    obtain ⟨e, he, p, e1, e2⟩ := S.all k hk
    rcases h2 e he with z | ⟨k', hk', p', f1, f2⟩
    · cases z
    · rw [e1] at f1; cases f1
      rw [e2.inj f2]; exact hk'
  · subst e1
    rcases e2 with ⟨hr, hz⟩ | ⟨hr, hz⟩
    · rw [hr]; rw [decide_eq_true hz] at q; exact wpAny_pure q
    · rw [hr]; rw [decide_eq_false hz] at q; exact wpAny_pure q
end
end ST
namespace ST
open PySem PySem.SetTable PySem.Spec PyProof.Rows
theorem entry_eq : entryFor table "set.__eq__" = some Builtin.«frozenset.__eq__» := entryFor_alias (id' := "frozenset.__eq__") (by kernel_rfl) rfl (by decide +kernel) (by kernel_rfl)
section
variable {prog : Program} {w : World} {A : Around} {E : Value → Shared → Prop} {s : Shared} {a b : Addr} {es es2 : Array (Int × Value)} {ep ep2 : Nat} {t t2 : SetTable} {ks ks2 : List (List Int)}
theorem TS.typeIs (S : TS prog w s.heap a es ep t ks) : s.TypeIs (.ref a) "set" := by
  obtain ⟨o, ho, hex, hd⟩ := S.obj
  exact ⟨o, ho, hex.1⟩
theorem sub_set_set : isSubtype (.type "set") (.type "set") = pure true := by rw [isSubtype_type]; kernel_rfl
theorem sub_set_fro : isSubtype (.type "set") (.type "frozenset") = pure false := by rw [isSubtype_type]; kernel_rfl
theorem tree_eq (hu : A.units < cLine) (S : TS prog w s.heap a es ep t ks) (S2 : TS prog w s.heap b es2 ep2 t2 ks2) {P : Fin → Shared → Prop} (q : P (.done (.ret (.bool (decide (ks.length = ks2.length ∧ ∀ k ∈ ks, k ∈ ks2))))) s) : wpAny (model prog w) A (Builtin.«frozenset.__eq__» ⟨[.ref a, .ref b], []⟩) P E s := by
  obtain ⟨o, ho, hex, hd⟩ := S.obj
  obtain ⟨o2, ho2, hex2, hd2⟩ := S2.obj
  have hT := S.typeIs
  have hT2 := S2.typeIs
  have k1 := sub_set_set
  have k2 := sub_set_fro
  refine wpAny_bind (wpAny_bind (show wpAny _ _ (pure (Value.ref a, [Value.ref b])) _ _ _ from wpAny_pure (wpAny_pure ?_)))
  dsimp only
  have any : ∀ {Q : Bool → Shared → Prop}, Q true s → wpAny (model prog w) A (Builtin.Frozenset.isAnySet (.ref b)) Q E s := by
    intro Q z
    unfold Builtin.Frozenset.isAnySet orM
    refine wpAny_bind (wpAny_isInstance hT2 k1 ?_)
    exact wpAny_pure z
  refine wpAny_bind (any ?_)
  rw [if_neg (by decide)]
  refine wpAny_bind (show wpAny _ _ (pure a) _ _ _ from wpAny_pure (wpAny_bind (show wpAny _ _ (pure b) _ _ _ from wpAny_pure ?_)))
  unfold Builtin.Frozenset.sizeOf setEntries
  refine wpAny_bind (wpAny_bind (wpAny_bind (wpAny_setState_of ho hd S.tb.fits (wpAny_pure (wpAny_pure ?_)))))
  refine wpAny_bind (wpAny_bind (wpAny_bind (wpAny_setState_of ho2 hd2 S2.tb.fits (wpAny_pure (wpAny_pure ?_)))))
  dsimp only
  refine wpAny_bind ?_
  by_cases hl : es.size = es2.size
  · rw [if_neg (by simp [hl])]
    refine wpAny_bind ?_
    have fr : ∀ {Q : Bool → Shared → Prop}, Q false s → wpAny (model prog w) A (isInstance (.ref a) (.type "frozenset") <&&> isInstance (.ref b) (.type "frozenset")) Q E s := by
      intro Q z
      unfold andM
      refine wpAny_bind (wpAny_isInstance hT k2 ?_)
      exact wpAny_pure z
    refine fr ?_
    rw [if_neg (by decide)]
    have hl2 : ks.length = ks2.length := by rw [S.len, S2.len, hl]
    refine subset_ok hu S S2 hl2 (wpAny_pure ?_)
    have e : decide (ks.length = ks2.length ∧ ∀ k ∈ ks, k ∈ ks2) = decide (∀ k ∈ ks, k ∈ ks2) := by simp [hl2]
    rw [e] at q
    exact q
  · rw [if_pos (by simpa using hl)]
    refine wpAny_pure (wpAny_pure ?_)
    have hl2 : ¬ ks.length = ks2.length := by rw [S.len, S2.len]; exact hl
    rw [decide_eq_false (fun z => hl2 z.1)] at q
    exact q
theorem op_eq (hu : A.units + 64 < cLine) (S : TS prog w s.heap a es ep t ks) (S2 : TS prog w s.heap b es2 ep2 t2 ks2) {Q : Value → Shared → Prop} (q : Q (.bool (decide (ks.length = ks2.length ∧ ∀ k ∈ ks, k ∈ ks2))) s) : wpAny (model prog w) A (compareOp .Eq (.ref a) (.ref b)) Q E s := by
  show wpAny _ _ (richCompare .Eq (.ref a) (.ref b)) _ _ _
  exact wpAny_richCompare_same_room S.typeIs S2.typeIs PySem.F.slot_set_eq (wpAny_call_entry PySem.F.slot_set_eq S.typeIs entry_eq (tree_eq (by show A.units + 1 < cLine; omega) S S2 ⟨_, rfl, (fun e => nomatch e), q⟩) (PySem.F.args_set_eq_2 _ _)) (by omega)
end
end ST
namespace L2
open PySem PySem.SetTable PySem.Spec PyProof.Rows ST
def SetAt (P : Program) (w : World) (o : Obj) (prs : List (Addr × List Int)) (ks : List (List Int)) : Prop := ∃ es ep t, o.ExactSet ∧ o.data = .set es ep t ∧ Tb t es.size ∧ es.size * 5 < t.mask * 3 ∧
  (∀ e ∈ es.toList, ∃ k ∈ ks, ∃ p, (p, k) ∈ prs ∧ e.2 = .ref p ∧ e.1 = hsh P w k) ∧ (∀ e ∈ es.toList, ∃ n, at_ t.place es (pa t.mask (bits e.1) n).j = some e ∧ ∀ d < n, at_ t.place es (pa t.mask (bits e.1) d).j ≠ none) ∧
  (∀ k ∈ ks, ∃ e ∈ es.toList, ∃ p, (p, k) ∈ prs ∧ e.2 = .ref p) ∧ ks.Nodup ∧ ks.length = es.size ∧ t.led = ldOf w ∧ t.plain = true
theorem SetAt.ts {P : Program} {w : World} {h : Heap} {a : Addr} {o : Obj} {prs : List (Addr × List Int)} {ks : List (List Int)} (x : SetAt P w o prs ks) (ho : h.get? a = some o) (hp : ∀ pk ∈ prs, TK P w h pk.2 pk.1) : ∃ es ep t, ST.TS P w h a es ep t ks := by
  obtain ⟨es, ep, t, h1, h2, h3, h4, h5, h6, h7, h8, h9, h10, h11⟩ := x
  exact ⟨es, ep, t, ⟨o, ho, h1, h2⟩, h3, h4, fun e he => by obtain ⟨k, a, p, b, c, d⟩ := h5 e he; exact ⟨k, a, p, c, hp _ b, d⟩, h6, fun k hk => by obtain ⟨e, a, p, b, c⟩ := h7 k hk; exact ⟨e, a, p, c, hp _ b⟩, h8, h9, h10, h11⟩
theorem SetAt.of {P : Program} {w : World} {h : Heap} {a : Addr} {prs : List (Addr × List Int)} {ks : List (List Int)} (x : TL P w h a (fun q => ∃ k, (q, k) ∈ prs) ks) (hp : ∀ pk ∈ prs, TK P w h pk.2 pk.1) : ∃ o, h.get? a = some o ∧ SetAt P w o prs ks := by
  obtain ⟨es, ep, t, S, B⟩ := x
  obtain ⟨o, ho, h1, h2⟩ := S.obj
  refine ⟨o, ho, es, ep, t, h1, h2, S.tb, S.nf, fun e he => ?_, S.way, fun k hk => ?_, S.nd, S.len, S.ld, S.pl⟩
  · obtain ⟨k, a, p, b, c, d⟩ := S.ent e he
    obtain ⟨k', hk'⟩ := B e he p b
    have := c.inj (hp _ hk')
    subst this
    exact ⟨k, a, p, hk', b, d⟩
  · obtain ⟨e, he, p, b, c⟩ := S.all k hk
    obtain ⟨k', hk'⟩ := B e he p b
    have := c.inj (hp _ hk')
    subst this
    exact ⟨e, he, p, hk', b⟩
theorem items_of {P : Program} {w : World} : ∀ {ns : List Int} {us : List Value}, Vals (ns.map V.int) us → ItemsAre (intKind P w) ns us := by
  intro ns
  induction ns with
  | nil => intro us r; cases r; exact .nil
  | cons n ns ih =>
    intro us r
    cases r with
    | cons r1 r2 =>
      obtain ⟨t, rfl⟩ := r1
      exact .cons (intKind_is _ _ _ _) (ih r2)
section
variable {X : Cx} {pins : List (Addr × Obj)} {σ : St} {H : Hp} {s : Shared}
theorem tk_of (I : Inv X pins σ H s) {p : Addr} {k : List Int} (h : SqT X.K H p (k.map V.int)) : TK X.prog X.w s.heap k p := by
  obtain ⟨its, r, pl, _⟩ := I.tuple h
  obtain ⟨o, ho, hc, n, hd⟩ := pl
  exact ⟨o, its.toArray, n, ho, hc, hd, items_of r⟩
theorem refs_get : ∀ {prs : List (Addr × List Int)} {us : List Value}, Vals (prs.map fun pk => V.ref pk.1) us → ∀ (i : Nat) v, us[i]? = some v → ∃ q k, (q, k) ∈ prs ∧ v = Value.ref q ∧ (prs.map (·.2)).getD i [] = k := by
  intro prs
  induction prs with
  | nil => intro us r i v h; cases r; cases h
  | cons pk prs ih =>
    intro us r i v h
    cases r with
    | cons r1 r2 =>
      cases i with
      | zero =>
        simp at h
        subst h
        exact ⟨pk.1, pk.2, by simp, r1, rfl⟩
      | succ i =>
        obtain ⟨q, k, a, b, c⟩ := ih r2 i v (by simpa using h)
        exact ⟨q, k, List.mem_cons_of_mem _ a, b, by simpa using c⟩
theorem call_setP (hc : X.calm = true) (hu : X.A.units + 64 < cLine) : CallR X (.type "set") (fun xs H Q => ∃ (q : Addr) (prs : List (Addr × List Int)), xs = [.ref q] ∧ SqL X.K H q (prs.map fun pk => V.ref pk.1) ∧ (∀ pk ∈ prs, SqT X.K H pk.1 (pk.2.map V.int)) ∧ prs.length ≤ 300 ∧
    ∀ p o, H p = none → SetAt X.prog X.w o prs (uqT (prs.map (·.2))) → Q (.ref p) (upd H p (.ext fun h => h.get? p = some o))) := by
  intro pins s σ H xs us Q I r h
  obtain ⟨q, prs, rfl, hq, hp, hl, fin⟩ := h
  obtain ⟨u, rfl, rx⟩ := vals1 r
  cases rx
  obtain ⟨its, rv, pl, hz⟩ := I.list hq
  have len : its.length = prs.length := by have := rv.length; rw [List.length_map] at this; exact this.symm
  have tks : ∀ pk ∈ prs, TK X.prog X.w s.heap pk.2 pk.1 := fun pk hk => tk_of I (hp pk hk)
  refine call_setT (items := its.toArray) (keys := prs.map (·.2)) (Bp := fun q => ∃ k, (q, k) ∈ prs) (I.ok.hd hc) hu pl.isList (by simp [len]) (by simp [len]; exact hl) (fun q ⟨k, hk⟩ => ?_) (fun i v hv => ?_) fun h' tk hS kp => ?_
  · obtain ⟨o, _, _, ho, _⟩ := tks _ hk; exact Heap.lt_size ho
  · obtain ⟨q, k, a, b, c⟩ := refs_get rv i v (by simpa using hv)
    exact ⟨q, ⟨k, a⟩, b, by rw [c]; exact tks _ a⟩
  · have kp2 : ∀ b u, s.heap.get? b = some u → h'.get? b = some u := fun b u g => kp b u (Heap.lt_size g) g
    obtain ⟨o, ho, sa⟩ := SetAt.of hS fun pk hk => TK.at' (tks pk hk) fun o e => kp2 _ o e
    exact ⟨.ref s.heap.objs.size, _, I.laid (a := s.heap.objs.size) (o := .ext fun h => h.get? s.heap.objs.size = some o) (t' := tk) kp2 (Nat.le_refl _) ⟨ho, ⟨_, ho⟩, fun _ _ p k => k _ p⟩, rfl, fin _ o (I.hok.fresh (Nat.le_refl _)) sa⟩
theorem op_seteq (hu : X.A.units + 64 < cLine) : OpR X (compareOp .Eq) (fun x y H Q => ∃ (a b : Addr) (o o2 : Obj) (prs prs2 : List (Addr × List Int)) (ks ks2 : List (List Int)), x = .ref a ∧ y = .ref b ∧ H a = some (.ext fun h => h.get? a = some o) ∧ H b = some (.ext fun h => h.get? b = some o2) ∧ SetAt X.prog X.w o prs ks ∧ SetAt X.prog X.w o2 prs2 ks2 ∧
    (∀ pk ∈ prs, SqT X.K H pk.1 (pk.2.map V.int)) ∧ (∀ pk ∈ prs2, SqT X.K H pk.1 (pk.2.map V.int)) ∧ Q (.bl (decide (ks.length = ks2.length ∧ ∀ k ∈ ks, k ∈ ks2))) H) := by
  intro pins s σ H x y v u Q I rx ry ⟨a, b, o, o2, prs, prs2, ks, ks2, e1, e2, h1, h2, s1, s2, t1, t2, q⟩
  subst e1 e2
  cases rx
  cases ry
  obtain ⟨es, ep, t, S⟩ := s1.ts (I.hok a _ h1).1 fun pk hk => tk_of I (t1 pk hk)
  obtain ⟨es2, ep2, t', S2⟩ := s2.ts (I.hok b _ h2).1 fun pk hk => tk_of I (t2 pk hk)
  exact ST.op_eq hu S S2 ⟨.bl _, H, I, rfl, q⟩
end
end L2
namespace SM
open PySem PySem.Spec PyProof.Rows L2
def tupsOf : List Dt → Option (List (List Int))
  | [] => some []
  | .tup xs :: r => (intsOf xs).bind fun k => (tupsOf r).map fun ks => k :: ks
  | _ :: _ => none
theorem tups_rel {K : PySem.W.Frag} {H : Hp} {ρ : Rg} : ∀ {ds : List Dt} {ks : List (List Int)} {vs : List V}, tupsOf ds = some ks → RelDs K H ρ ds vs → ∃ prs : List (Addr × List Int), vs = prs.map (fun pk => V.ref pk.1) ∧ prs.map (·.2) = ks ∧ ∀ pk ∈ prs, TupAt K H ρ pk.1 (pk.2.map V.int) := by
  intro ds
  induction ds with
  | nil => intro ks vs e r; cases e; cases r.unnil; exact ⟨[], rfl, rfl, fun pk h => by cases h⟩
  | cons d ds ih =>
    intro ks vs e r
    obtain ⟨v, w, rfl, r1, r2⟩ := RelDs.uncons r
    cases d with
    | tup xs =>
      simp only [tupsOf] at e
      obtain ⟨k, e1, e⟩ := bindE e
      obtain ⟨ks', e2, e⟩ := Option.map_eq_some_iff.mp e
      cases e
      obtain ⟨prs, p1, p2, p3⟩ := ih e2 r2
      obtain ⟨a, vs', z, t, rs⟩ := rel_tup.mp r1
      rw [intsOf_eq e1] at rs
      rw [rs.unints] at t
      subst z p1
      refine ⟨(a, k) :: prs, rfl, by rw [List.map_cons, p2], fun pk h => ?_⟩
      rcases List.mem_cons.mp h with rfl | h
      · exact t
      · exact p3 pk h
    | _ => simp [tupsOf] at e
def eSetEq (f1 f2 : RE) : RE := fun l h => (f1 l h).bind fun r => (seqL r.2 r.1).bind fun xs => (tupsOf xs).bind fun k1 => if k1.length ≤ 300 then (f2 l r.2).bind fun q => (seqL q.2 q.1).bind fun ys => (tupsOf ys).bind fun k2 =>
  if k2.length ≤ 300 then some (.bl (decide ((ST.uqT k1).length = (ST.uqT k2).length ∧ ∀ k ∈ ST.uqT k1, k ∈ ST.uqT k2)), q.2) else none else none
section
variable {X : Cx} {e1 e2 : Expr} {f1 f2 : RE} {p1 p2 q1 q2 pos : Pos}
theorem em_seteq (hc : X.calm = true) (hu : X.A.units + 64 < cLine) (hg : Gl X "set") (hm : X.mg "set" = none) (ha : EM X e1 f1) (hb : EM X e2 f2) (s1 : notStar e1 = true := by rfl) (s2 : notStar e2 = true := by rfl) :
    EM X (.Compare (.Call (.Name "set" p1) [e1] [] q1) [.Eq] [.Call (.Name "set" p2) [e2] [] q2] pos) (eSetEq f1 f2) := by
  with_unfolding_all
    exact PE.imp (pe_cmpR (op_seteq hu) (pe_callTy (call_setP hc hu) hg hm boot_set (pa_cons ha pa_nil (star_of s1 _ _)) (he := star_of s1 _ _)) (pe_callTy (call_setP hc hu) hg hm boot_set (pa_cons hb pa_nil (star_of s2 _ _)) (he := star_of s2 _ _)) (nobehind _ (by decide) (by decide))) fun σ H Q ⟨ρ, l, h, d, h', S, L, e, k⟩ => by
      obtain ⟨⟨d1, h1⟩, g1, e⟩ := bindE e
      obtain ⟨xs, g2, e⟩ := bindE e
      obtain ⟨k1, g3, e⟩ := bindE e
      obtain ⟨g4, e⟩ := ifE2 e
      obtain ⟨⟨d2, h2⟩, g5, e⟩ := bindE e
      obtain ⟨ys, g6, e⟩ := bindE e
      obtain ⟨k2, g7, e⟩ := bindE e
      obtain ⟨g8, e⟩ := ifE2 e
      cases e
      refine ⟨ρ, l, h, d1, h1, S, L, g1, fun ρ1 v H1 R1 S1 E1 => ?_⟩
      obtain ⟨a, vs, z, sq, rr⟩ := seqL_at S1 R1 g2
      obtain ⟨prs, w1, w2, w3⟩ := tups_rel g3 rr
      subst w1
      refine ⟨a, prs, by rw [z], sq, fun pk hk => (w3 pk hk).sq, by have := congrArg List.length w2; rw [List.length_map] at this; omega, fun p o hp so => ?_⟩
      have E2 : Ext ρ1 ρ1 H1 (upd H1 p (.ext fun h => h.get? p = some o)) := Ext.fresh hp
      refine ⟨ρ1, l, h1, d2, h2, S1.fresh hp, L.ext (E1.trans E2), g5, fun ρ2 v2 H2 R2 S2 E3 => ?_⟩
      obtain ⟨b, ws, z2, sq2, rr2⟩ := seqL_at S2 R2 g6
      obtain ⟨prs2, x1, x2, x3⟩ := tups_rel g7 rr2
      subst x1
      refine ⟨b, prs2, by rw [z2], sq2, fun pk hk => (x3 pk hk).sq, by have := congrArg List.length x2; rw [List.length_map] at this; omega, fun p' o' hp' so' => ?_⟩
      have E4 : Ext ρ2 ρ2 H2 (upd H2 p' (.ext fun h => h.get? p' = some o')) := Ext.fresh hp'
      have hpa : H2 p = some (.ext fun h => h.get? p = some o) := E3.keep _ _ upd_same (S1.out hp).1
      have hne : p ≠ p' := ne_of_none hpa hp'
      refine ⟨p, p', o, o', prs, prs2, _, _, rfl, rfl, by rw [upd_ne hne]; exact hpa, upd_same, so, so', fun pk hk => ((w3 pk hk).same ((E2.trans E3).trans E4).same).sq, fun pk hk => ((x3 pk hk).same E4.same).sq, ?_⟩
      rw [w2, x2]
      exact k ρ2 _ _ (rel_bl.mpr rfl) (S2.fresh hp') (E1.trans (E2.trans (E3.trans E4)))
end
end SM
namespace SM
open PySem PySem.Spec PyProof.Rows L2
def bnd {α β : Type} (o : Option α) (f : α → Option β) : Option β := o.bind f
@[simp] theorem bnd_some {α β : Type} (a : α) (f : α → Option β) : bnd (some a) f = f a := by rfl
@[simp] theorem bnd_none {α β : Type} (f : α → Option β) : bnd none f = none := by rfl
@[simp] theorem bnd_ite {α β : Type} {c : Prop} [Decidable c] (a b : Option α) (k : α → Option β) : bnd (if c then a else b) k = if c then bnd a k else bnd b k := by split <;> rfl
section
variable {l : LI} {h : HI} {f g fa fb fc : RE}
@[simp] theorem q_eC (d : Dt) : eC d l h = some (d, h) := by rfl
def getV (h : HI) : Option (Option Dt) → Option (Dt × HI)
  | some (some d) => some (d, h)
  | _ => none
@[simp] theorem getV_some (d : Dt) : getV h (some (some d)) = some (d, h) := by rfl
@[simp] theorem q_eV (i : Nat) : eV i l h = getV h l[i]? := by unfold eV getV; rfl
@[simp] theorem q_e2 (op : Op2) : e2 op fa fb l h = bnd (fa l h) fun r => bnd (fb l r.2) fun q => op r.1 q.1 q.2 := by rfl
@[simp] theorem q_aNil : aNil l h = some ([], h) := by rfl
@[simp] theorem q_aCons (r : RA) : aCons f r l h = bnd (f l h) fun r' => bnd (r l r'.2) fun q => some (r'.1 :: q.1, q.2) := by rfl
def tbK : Dt × HI → Option (Bool × HI)
  | (.bl b, h) => some (b, h)
  | _ => none
@[simp] theorem tbK_bl (b : Bool) : tbK (.bl b, h) = some (b, h) := by rfl
@[simp] theorem q_tB : tB' f l h = bnd (f l h) tbK := by
  unfold bnd
  unfold tB'
  congr 1
  funext r
  obtain ⟨d, h⟩ := r
  cases d <;> rfl
@[simp] theorem q_tAnd (t u : RT) : tAnd' t u l h = bnd (t l h) fun r => if r.1 = true then u l r.2 else some (false, r.2) := by rfl
@[simp] theorem q_tOr (t u : RT) : tOr' t u l h = bnd (t l h) fun r => if r.1 = true then some (true, r.2) else u l r.2 := by rfl
@[simp] theorem q_tNot (t : RT) : tNot' t l h = bnd (t l h) fun r => some (!r.1, r.2) := by rfl
def vAndK (u : RE) (l : LI) : Dt × HI → Option (Dt × HI)
  | (.bl true, h) => u l h
  | (.bl false, h) => some (.bl false, h)
  | _ => none
@[simp] theorem vAndK_bl (u : RE) (b : Bool) : vAndK u l (.bl b, h) = if b = true then u l h else some (.bl false, h) := by cases b <;> rfl
@[simp] theorem q_vAnd (u : RE) : vAnd f u l h = bnd (f l h) (vAndK u l) := by
  unfold bnd
  unfold vAnd
  congr 1
  funext r
  obtain ⟨d, h⟩ := r
  cases d <;> (try rfl)
  rename_i b
  cases b <;> rfl
def vNotK : Dt × HI → Option (Dt × HI)
  | (.bl b, h) => some (.bl (!b), h)
  | _ => none
@[simp] theorem vNotK_bl (b : Bool) : vNotK (.bl b, h) = some (.bl (!b), h) := by rfl
@[simp] theorem q_vNot : vNot f l h = bnd (f l h) vNotK := by
  unfold bnd
  unfold vNot
  congr 1
  funext r
  obtain ⟨d, h⟩ := r
  cases d <;> rfl
@[simp] theorem q_vIf (t : RT) : vIf t f g l h = bnd (t l h) fun r => if r.1 = true then f l r.2 else g l r.2 := by rfl
@[simp] theorem q_eTup (r : RA) : eTup r l h = bnd (r l h) fun r => if r.1.length ≤ sizeLine then some (.tup r.1, r.2) else none := by rfl
@[simp] theorem q_eLst (r : RA) : eLst r l h = bnd (r l h) fun r => if r.1.length ≤ sizeLine then some (.lst r.1, r.2) else none := by rfl
@[simp] theorem q_eNew (r : RA) : eNew r l h = bnd (r l h) fun r => if r.1.length ≤ sizeLine then some (.ref r.2.length, r.2 ++ [.lst r.1]) else none := by rfl
def negK : Dt × HI → Option (Dt × HI)
  | (.int b, h) => some (.int (-b), h)
  | _ => none
@[simp] theorem negK_int (b : Int) : negK (.int b, h) = some (.int (-b), h) := by rfl
@[simp] theorem q_neg : uNeg f l h = bnd (f l h) negK := by
  unfold bnd
  unfold uNeg
  congr 1
  funext r
  obtain ⟨d, h⟩ := r
  cases d <;> rfl
@[simp] theorem o_add (i j : Int) : oAdd (.int i) (.int j) h = some (.int (i + j), h) := by rfl
@[simp] theorem o_sub (i j : Int) : oSub (.int i) (.int j) h = some (.int (i - j), h) := by rfl
@[simp] theorem o_band (i j : Int) : oBand (.int i) (.int j) h = some (.int (Builtin.bitAnd i j), h) := by rfl
@[simp] theorem o_bor (i j : Int) : oBor (.int i) (.int j) h = some (.int (Builtin.bitOr i j), h) := by rfl
@[simp] theorem o_lt (i j : Int) : oLt (.int i) (.int j) h = some (.bl (decide (i < j)), h) := by rfl
@[simp] theorem o_le (i j : Int) : oLe (.int i) (.int j) h = some (.bl (decide (i ≤ j)), h) := by rfl
@[simp] theorem o_gt (i j : Int) : oGt (.int i) (.int j) h = some (.bl (decide (j < i)), h) := by rfl
@[simp] theorem o_ge (i j : Int) : oGe (.int i) (.int j) h = some (.bl (decide (j ≤ i)), h) := by rfl
theorem o_mul {i j : Int} (c : CMul i j) : oMul (.int i) (.int j) h = some (.int (i * j), h) := by simp only [oMul, oI, if_pos c]
theorem o_div {i j : Int} (c : CDiv i j) : oDiv (.int i) (.int j) h = some (.int (i / j), h) := by simp only [oDiv, oI, if_pos c]
theorem o_mod {i j : Int} (c : 0 < j) : oMod (.int i) (.int j) h = some (.int (i % j), h) := by simp only [oMod, oI, if_pos c]
theorem o_pow {i j : Int} (c : CPow i j) : oPow (.int i) (.int j) h = some (.int (i ^ j.toNat), h) := by simp only [oPow, oI, if_pos c]
theorem o_shl {i j : Int} (c : CPow i j) : oShl (.int i) (.int j) h = some (.int (i * 2 ^ j.toNat), h) := by simp only [oShl, oI, if_pos c]
theorem o_shr {i j : Int} (c : 0 ≤ j) : oShr (.int i) (.int j) h = some (.int (i / 2 ^ j.toNat), h) := by simp only [oShr, oI, if_pos c]
@[simp] theorem o_eq (i j : Int) : oEqD (.int i) (.int j) h = some (.bl (decide (i = j)), h) := by
  show some (Dt.bl (decide (V.int i = V.int j)), h) = _
  simp
@[simp] theorem o_ne (i j : Int) : oNeD (.int i) (.int j) h = some (.bl (!decide (i = j)), h) := by
  show some (Dt.bl (!decide (V.int i = V.int j)), h) = _
  simp
theorem o_nel {xs ys : List Dt} (c : deepOk xs ys = true) : oNeD (.lst xs) (.lst ys) h = some (.bl (!eqDs xs ys), h) := by simp only [oNeD, if_pos c]
@[simp] theorem atI_nat {α : Type} (xs : List α) (k : Nat) : atI xs (k : Int) = xs[k]? := by
  unfold atI ixN
  rw [if_pos (by omega)]
  by_cases hk : k < xs.length
  · rw [if_pos (by omega)]
    simp
  · rw [if_neg (by omega)]
    simp
    omega
@[simp] theorem atI_0 {α : Type} (xs : List α) : atI xs 0 = xs[0]? := atI_nat xs 0
@[simp] theorem atI_1 {α : Type} (xs : List α) : atI xs 1 = xs[1]? := atI_nat xs 1
@[simp] theorem atI_2 {α : Type} (xs : List α) : atI xs 2 = xs[2]? := atI_nat xs 2
@[simp] theorem o_ixT (xs : List Dt) (i : Int) : oIx (.tup xs) (.int i) h = (atI xs i).map fun d => (d, h) := by rfl
@[simp] theorem o_ixL (xs : List Dt) (i : Int) : oIx (.lst xs) (.int i) h = (atI xs i).map fun d => (d, h) := by rfl
theorem o_ixR {n : Nat} {xs : List Dt} (e : h[n]? = some (.lst xs)) (i : Int) : oIx (.ref n) (.int i) h = (atI xs i).map fun d => (d, h) := by simp only [oIx, seqA, seqL, e, Option.bind_some]
def sqK (g : RS) : Rs → Option Rs
  | .nx l h => g l h
  | r => some r
@[simp] theorem sqK_nx (g : RS) : sqK g (.nx l h) = g l h := by rfl
@[simp] theorem sqK_rt (g : RS) (d : Dt) : sqK g (.rt d h) = some (.rt d h) := by rfl
@[simp] theorem q_sSeq (f g : RS) : sSeq f g l h = bnd (f l h) (sqK g) := by
  unfold bnd
  unfold sSeq
  congr 1
@[simp] theorem q_sNil : sNil l h = some (.nx l h) := by rfl
@[simp] theorem q_sSet (i : Nat) : sSet i f l h = bnd (f l h) fun r => some (.nx (l.set i (some r.1)) r.2) := by rfl
@[simp] theorem q_sDrop : sDrop f l h = bnd (f l h) fun r => some (.nx l r.2) := by rfl
@[simp] theorem q_sRet : sRet f l h = bnd (f l h) fun r => some (.rt r.1 r.2) := by rfl
@[simp] theorem q_sIf (t : RT) (f g : RS) : sIf t f g l h = bnd (t l h) fun r => if r.1 = true then f l r.2 else g l r.2 := by rfl
def finK : Option Rs → Option (Dt × HI)
  | some (.rt d h') => some (d, h')
  | some (.nx _ h') => some (.non, h')
  | _ => none
@[simp] theorem finK_rt (d : Dt) : finK (some (.rt d h)) = some (d, h) := by rfl
@[simp] theorem finK_ite {c : Prop} [Decidable c] (a b : Option Rs) : finK (if c then a else b) = if c then finK a else finK b := by split <;> rfl
@[simp] theorem q_fn (n N : Nat) (body : RS) (ds : List Dt) : fnI n N body ds h = if ds.length = n then finK (body (ds.map some ++ List.replicate (N - n) none) h) else none := by
  unfold fnI finK
  rfl
@[simp] theorem q_call (F : FnI) (dds : List Dt) (g : RA) : eCall F dds g l h = bnd (g l h) fun r => F (r.1 ++ dds) r.2 := by rfl
@[simp] theorem q_call0 (F : FnI) (dds : List Dt) : eCall0 F dds l h = F dds h := by rfl
def stK (go : LI → HI → Option Rs) : Rs → Option Rs
  | .nx l h => go l h
  | .ct l h => go l h
  | .bk l h => some (.nx l h)
  | .rt d h => some (.rt d h)
@[simp] theorem stK_nx (go : LI → HI → Option Rs) : stK go (.nx l h) = go l h := by rfl
@[simp] theorem stK_ct (go : LI → HI → Option Rs) : stK go (.ct l h) = go l h := by rfl
def walkL (bd : RG) (body : RS) : List Dt → LI → HI → Option Rs
  | [], l, h => some (.nx l h)
  | x :: xs, l, h => (bd x l).bind fun l1 => (body l1 h).bind (stK (walkL bd body xs))
theorem forL_vals (bd : RG) (body : RS) (xs : List Dt) : ∀ (n k : Nat) (l : LI) (h : HI), n = (xs.length - k) + 1 → k ≤ xs.length → forL bd body (.vals xs) n k l h = walkL bd body (xs.drop k) l h := by
  intro n
  induction n with
  | zero => intro k l h e; omega
  | succ n ih =>
    intro k l h e hk
    unfold forL
    simp only [Src.at]
    by_cases hl : k < xs.length
    · rw [List.getElem?_eq_getElem hl, List.drop_eq_getElem_cons hl]
      simp only [walkL]
      congr 1
      funext l1
      congr 1
      funext r
      cases r with
      | nx l' h' => exact ih (k + 1) l' h' (by omega) (by omega)
      | ct l' h' => exact ih (k + 1) l' h' (by omega) (by omega)
      | bk l' h' => rfl
      | rt d h' => rfl
    · rw [List.getElem?_eq_none (by omega), List.drop_eq_nil_of_le (by omega)]
      rfl
theorem for_vals {g : RI} {xs : List Dt} {h' : HI} (e : g l h = some (.vals xs, h')) (bd : RG) (body : RS) : sFor g bd body l h = walkL bd body xs l h' := by
  unfold sFor
  rw [e]
  simp only [Option.bind_some, Src.fuel]
  exact forL_vals bd body xs _ 0 _ _ (by omega) (by omega)
@[simp] theorem q_gSet (i : Nat) (d : Dt) : gSet i d l = some (l.set i (some d)) := by rfl
def forK (bd : RG) (body : RS) (l : LI) : Src × HI → Option Rs := fun r => forL bd body r.1 (r.1.fuel r.2) 0 l r.2
@[simp] theorem q_sFor (g : RI) (bd : RG) (body : RS) : sFor g bd body l h = bnd (g l h) (forK bd body l) := by rfl
@[simp] theorem forK_vals (bd : RG) (body : RS) (xs : List Dt) : forK bd body l (.vals xs, h) = walkL bd body xs l h := by
  unfold forK
  simp only [Src.fuel]
  exact forL_vals bd body xs _ 0 _ _ (by omega) (by omega)
def r1K : Dt × HI → Option (Src × HI)
  | (.int j, h) => if -(2 ^ 62) ≤ j ∧ j < 2 ^ 62 then some (.vals ((List.range j.toNat).map fun (k : Nat) => Dt.int (k : Int)), h) else none
  | _ => none
@[simp] theorem q_iR1 : iR1 f l h = bnd (f l h) r1K := by
  unfold bnd
  unfold iR1
  congr 1
  funext r
  obtain ⟨d, h⟩ := r
  cases d <;> rfl
theorem r1K_int {j : Int} (a : -(2 ^ 62) ≤ j) (b : j < 2 ^ 62) : r1K (.int j, h) = some (.vals ((List.range j.toNat).map fun (k : Nat) => Dt.int (k : Int)), h) := if_pos ⟨a, b⟩
def r2K : Dt → Dt × HI → Option (Src × HI)
  | .int i, (.int j, h) => if -(2 ^ 62) ≤ i ∧ i < 2 ^ 62 ∧ -(2 ^ 62) ≤ j ∧ j < 2 ^ 62 then some (.vals ((List.range (j - i).toNat).map fun (k : Nat) => Dt.int (i + (k : Int))), h) else none
  | _, _ => none
@[simp] theorem q_iR2 : iR2 f g l h = bnd (f l h) fun r => bnd (g l r.2) (r2K r.1) := by
  unfold bnd
  unfold iR2
  congr 1
  funext r
  obtain ⟨d, h⟩ := r
  congr 1
  funext q
  obtain ⟨d', h'⟩ := q
  cases d <;> cases d' <;> rfl
theorem r2K_int {i j : Int} (a : -(2 ^ 62) ≤ i) (a' : i < 2 ^ 62) (b : -(2 ^ 62) ≤ j) (b' : j < 2 ^ 62) : r2K (.int i) (.int j, h) = some (.vals ((List.range (j - i).toNat).map fun (k : Nat) => Dt.int (i + (k : Int))), h) := if_pos ⟨a, a', b, b'⟩
def seqK : Dt × HI → Option (Src × HI)
  | (.lst xs, h) => some (.vals xs, h)
  | (.ref n, h) => if 0 < Src.fuel (.rf n) h then some (.rf n, h) else none
  | _ => none
@[simp] theorem seqK_lst (xs : List Dt) : seqK (.lst xs, h) = some (.vals xs, h) := by rfl
@[simp] theorem q_iLst : iLst f l h = bnd (f l h) seqK := by
  unfold bnd
  unfold iLst iSeq
  cases f l h with
  | none => rfl
  | some r =>
    obtain ⟨d, h⟩ := r
    cases d <;> first | rfl | (simp [seqK, Src.fuel]; done)
def compV (bd : RG) (tc : RT) (te : RE) : List Dt → LI → HI → Option (List Dt × HI)
  | [], _, h => some ([], h)
  | x :: xs, l, h => (bd x l).bind fun l1 => (tc l1 h).bind fun b => if b.1 = true then (te l1 b.2).bind fun r => (compV bd tc te xs l1 r.2).bind fun q => some (r.1 :: q.1, q.2)
      else compV bd tc te xs l1 b.2
theorem compL_vals (bd : RG) (tc : RT) (te : RE) (xs : List Dt) (hx : xs.length < sizeLine) : ∀ (n k : Nat) (l : LI) (h : HI) (ys : List Dt), n = (xs.length - k) + 1 → k ≤ xs.length → ys.length ≤ k →
    compL bd tc te (.vals xs) n k l h ys = (compV bd tc te (xs.drop k) l h).bind fun q => some (ys ++ q.1, q.2) := by
  intro n
  induction n with
  | zero => intro k l h ys e; omega
  | succ n ih =>
    intro k l h ys e hk hy
    unfold compL
    simp only [Src.at]
    by_cases hl : k < xs.length
    · rw [List.getElem?_eq_getElem hl, List.drop_eq_getElem_cons hl]
      simp only [compV]
      cases bd xs[k] l with
      | none => rfl
      | some l1 =>
        simp only [Option.bind_some]
        cases tc l1 h with
        | none => rfl
        | some b =>
          simp only [Option.bind_some]
          by_cases hb : b.1 = true
          · simp only [if_pos hb]
            cases te l1 b.2 with
            | none => rfl
            | some r =>
              simp only [Option.bind_some]
              rw [if_pos (by omega), ih (k + 1) l1 r.2 _ (by omega) (by omega) (by simp; omega)]
              cases compV bd tc te (xs.drop (k + 1)) l1 r.2 with
              | none => rfl
              | some q => simp
          · simp only [if_neg hb]
            exact ih (k + 1) l1 b.2 ys (by omega) (by omega) (by omega)
    · rw [List.getElem?_eq_none (by omega), List.drop_eq_nil_of_le (by omega)]
      simp [compV]
def compK (bd : RG) (tc : RT) (te : RE) (l : LI) : Src × HI → Option (List Dt × HI) := fun r => compL bd tc te r.1 (r.1.fuel r.2) 0 l r.2 []
theorem compK_vals (bd : RG) (tc : RT) (te : RE) {xs : List Dt} (hx : xs.length < sizeLine) : compK bd tc te l (.vals xs, h) = compV bd tc te xs l h := by
  unfold compK
  simp only [Src.fuel]
  rw [compL_vals bd tc te xs hx _ 0 _ _ _ (by omega) (by omega) (by simp)]
  rw [List.drop_zero]
  cases compV bd tc te xs l h <;> simp
@[simp] theorem q_eComp (g : RI) (bd : RG) (tc : RT) (te : RE) (cap : List (Option Nat)) : eComp g bd tc te cap l h = bnd (bnd (g l h) (compK bd tc te (capI l cap))) fun q => some (.lst q.1, q.2) := by
  unfold bnd
  unfold eComp compK
  rw [Option.bind_assoc]
@[simp] theorem q_eCompN (g : RI) (bd : RG) (tc : RT) (te : RE) (cap : List (Option Nat)) : eCompN g bd tc te cap l h = bnd (bnd (g l h) (compK bd tc te (capI l cap))) fun q => some (.ref q.2.length, q.2 ++ [.lst q.1]) := by
  unfold bnd
  unfold eCompN compK
  rw [Option.bind_assoc]
@[simp] theorem q_tTrue : tTrue l h = some (true, h) := by rfl
@[simp] theorem cap_nil : capI l [] = [] := by rfl
@[simp] theorem cap_none (cap : List (Option Nat)) : capI l (none :: cap) = none :: capI l cap := by rfl
@[simp] theorem cap_some (j : Nat) (cap : List (Option Nat)) : capI l (some j :: cap) = (l[j]?).join :: capI l cap := by rfl
theorem compV_on {α : Type} {te : RE} {i : Nat} {tc : RT} (D : α → Dt) (p : α → Bool) (F : α → Dt) (h : HI) : ∀ (xs : List α) (l : LI), (∀ x ∈ xs, tc (l.set i (some (D x))) h = some (p x, h) ∧ (p x = true → te (l.set i (some (D x))) h = some (F x, h))) →
    compV (gSet i) tc te (xs.map D) l h = some ((xs.filter p).map F, h)
  | [], _, _ => rfl
  | x :: xs, l, H => by
    have hx := H x (by simp)
    have ih := compV_on D p F h xs (l.set i (some (D x))) (te := te) (tc := tc) (i := i) (fun y hy => by
      rw [List.set_set]
      exact H y (by simp [hy]))
    simp only [List.map_cons, compV, q_gSet, Option.bind_some, hx.1]
    by_cases hp : p x = true
    · simp only [hp, if_true, hx.2 hp, Option.bind_some, ih]
      simp [hp]
    · simp only [hp]
      rw [if_neg (by simp), ih]
      simp [hp]
theorem compV_all {α : Type} {te : RE} {i : Nat} {tc : RT} (D : α → Dt) (F : α → Dt) (h : HI) (xs : List α) (l : LI) (H : ∀ x ∈ xs, tc (l.set i (some (D x))) h = some (true, h) ∧ te (l.set i (some (D x))) h = some (F x, h)) :
    compV (gSet i) tc te (xs.map D) l h = some (xs.map F, h) := by
  rw [compV_on D (fun _ => true) F h xs l fun x hx => ⟨(H x hx).1, fun _ => (H x hx).2⟩, List.filter_eq_self.mpr (by simp)]
@[simp] theorem q_F1 (F : Dt → HI → Option (Dt × HI)) : eF1 F f l h = bnd (f l h) fun r => F r.1 r.2 := by rfl
@[simp] theorem f_lenL (xs : List Dt) : fLen (.lst xs) h = some (.int xs.length, h) := by rfl
theorem f_lenR {n : Nat} {xs : List Dt} (e : h[n]? = some (.lst xs)) : fLen (.ref n) h = some (.int xs.length, h) := by simp only [fLen, seqA, seqL, e, Option.map_some]
@[simp] theorem f_intB (b : Bool) : fInt (.bl b) h = some (.int (if b = true then 1 else 0), h) := by rfl
@[simp] theorem ints_map (ns : List Int) : intsOf (ns.map Dt.int) = some ns := by
  induction ns with
  | nil => rfl
  | cons n ns ih => simp [intsOf, ih]
theorem f_max {ns : List Int} (c : ns ≠ []) : fMax (.lst (ns.map Dt.int)) h = some (.int (maxL ns), h) := by simp [fMax, seqL, c]
theorem f_min {ns : List Int} (c : ns ≠ []) : fMin (.lst (ns.map Dt.int)) h = some (.int (minL ns), h) := by simp [fMin, seqL, c]
@[simp] theorem q_isi (T : String) : eIsi T f l h = bnd (f l h) fun r => (tyN r.2 r.1).map fun t => (.bl (isT t T), r.2) := by rfl
@[simp] theorem ty_int (b : Int) : tyN h (.int b) = some "int" := by rfl
@[simp] theorem isT_ii : isT "int" "int" = true := by decide +kernel
@[simp] theorem isT_ib : isT "int" "bool" = false := by decide +kernel
@[simp] theorem q_pNo : pNo l h = some (none, h) := by rfl
def atK : Dt × HI → Option (Option Int × HI)
  | (.int i, h) => some (some i, h)
  | _ => none
@[simp] theorem atK_int (i : Int) : atK (.int i, h) = some (some i, h) := by rfl
@[simp] theorem q_pAt : pAt f l h = bnd (f l h) atK := by
  unfold bnd
  unfold pAt
  congr 1
  funext r
  obtain ⟨d, h⟩ := r
  cases d <;> rfl
@[simp] theorem q_eSl (lo hi : RO) : eSl f lo hi l h = bnd (f l h) fun r => bnd (lo l r.2) fun o => bnd (hi l o.2) fun u => (seqL u.2 r.1).map fun xs => (.lst (cutD xs o.1 u.1), u.2) := by rfl
@[simp] theorem seqL_lst (xs : List Dt) : seqL h (.lst xs) = some xs := by rfl
def idxK (q : Dt × HI) : Dt → Option (Dt × HI)
  | .lst xs => if idxOk xs q.1 = true then (idxD xs q.1).map fun j => (.int (j : Nat), q.2) else none
  | _ => none
@[simp] theorem size_lit : sizeLine = 16777216 := by rfl
def appK (g : RE) (l : LI) : Dt × HI → Option (Dt × HI)
  | (.ref n, h) => (match h[n]? with
    | some (.lst _) => (g l h).bind fun q => match q.2[n]? with
      | some (.lst xs) => if xs.length < sizeLine then some (.non, q.2.set n (.lst (xs ++ [q.1]))) else none
      | _ => none
    | _ => none)
  | _ => none
@[simp] theorem q_append : eAppend f g l h = bnd (f l h) (appK g l) := by
  unfold bnd
  unfold eAppend
  congr 1
  funext r
  obtain ⟨d, h⟩ := r
  cases d <;> (try rfl)
theorem appK_ref {n : Nat} {xs ys : List Dt} {d : Dt} {h' : HI} (e : h[n]? = some (.lst ys)) (eg : g l h = some (d, h')) (e' : h'[n]? = some (.lst xs)) (c : xs.length < sizeLine) : appK g l (.ref n, h) = some (.non, h'.set n (.lst (xs ++ [d]))) := by
  simp only [appK, e, eg, Option.bind_some, e', if_pos c]
end
def Pass (I : LI → HI → Prop) : Rs → Prop
  | .nx l h => I l h
  | .ct l h => I l h
  | _ => False
theorem walk_fold {α β : Type} {i : Nat} {body : RS} (D : α → Dt) (S : β → LI → HI → Prop) (f : β → α → β) (xs : List α) (H : ∀ x ∈ xs, ∀ b l h, S b l h → ∃ r, body (l.set i (some (D x))) h = some r ∧ Pass (S (f b x)) r) :
    ∀ b l h, S b l h → ∃ l' h', walkL (gSet i) body (xs.map D) l h = some (.nx l' h') ∧ S (xs.foldl f b) l' h' := by
  induction xs with
  | nil => intro b l h i; exact ⟨l, h, rfl, i⟩
  | cons x xs ih =>
    intro b l h i
    obtain ⟨r, e, p⟩ := H x (by simp) b l h i
    cases r with
    | nx l2 h2 =>
      obtain ⟨l', h', e', i'⟩ := ih (fun y hy => H y (by simp [hy])) _ l2 h2 p
      exact ⟨l', h', by simp [walkL, e, e'], i'⟩
    | ct l2 h2 =>
      obtain ⟨l', h', e', i'⟩ := ih (fun y hy => H y (by simp [hy])) _ l2 h2 p
      exact ⟨l', h', by simp [walkL, e, e'], i'⟩
    | bk l2 h2 => exact p.elim
    | rt d h2 => exact p.elim
section
variable {l : LI} {h : HI} {f g : RE}
def enumK : Dt × HI → Option (Src × HI)
  | (.lst xs, h) => some (.vals (enumD 0 xs), h)
  | _ => none
@[simp] theorem enumK_lst (xs : List Dt) : enumK (.lst xs, h) = some (.vals (enumD 0 xs), h) := by rfl
@[simp] theorem q_iEnum : iEnum f l h = bnd (f l h) enumK := by
  unfold bnd
  unfold iEnum
  congr 1
  funext r
  obtain ⟨d, h⟩ := r
  cases d <;> rfl
end
theorem seqK_ref {h : HI} {n : Nat} {xs : List Dt} (e : h[n]? = some (.lst xs)) : seqK (.ref n, h) = some (.rf n, h) := by
  have : 0 < Src.fuel (.rf n) h := by simp only [Src.fuel, e]; omega
  simp only [seqK, if_pos this]
end SM
namespace SM
open PySem PySem.Spec PyProof.Rows L2
section
variable {l : LI} {h : HI} {f g fe fo fi fa fb : RE}
def six3 (l : LI) (v o : Dt) : Dt × HI → Option Rs
  | (.int k, h) => (match o with
    | .ref n => (match h[n]? with
      | some (.lst xs) => (ixN xs.length k).bind fun j => some (.nx l (h.set n (.lst (xs.set j v))))
      | _ => none)
    | _ => none)
  | _ => none
@[simp] theorem q_setIx : sSetIx fe fo fi l h = bnd (fe l h) fun v => bnd (fo l v.2) fun o => bnd (fi l o.2) (six3 l v.1 o.1) := by
  unfold bnd sSetIx
  congr 1
  funext v
  congr 1
  funext o
  congr 1
  funext i
  obtain ⟨d, h⟩ := o
  obtain ⟨k, h⟩ := i
  cases k <;> cases d <;> rfl
theorem ixN_nat {n k : Nat} (hk : k < n) : ixN n (k : Int) = some k := by
  unfold ixN
  rw [if_pos (by omega), if_pos (by omega)]
  simp
theorem six3_ref {n k : Nat} {xs : List Dt} {v : Dt} (e : h[n]? = some (.lst xs)) (hk : k < xs.length) : six3 l v (.ref n) (.int (k : Int), h) = some (.nx l (h.set n (.lst (xs.set k v)))) := by
  simp only [six3, e, ixN_nat hk, Option.bind_some]
@[simp] theorem x_ne (i j : Int) : oNeX (.int i) (.int j) h = some (.bl (!decide (i = j)), h) := by
  have r : ∀ k : Int, resD h 8 (.int k) = some (.int k) := fun _ => by simp [resD]
  simp only [oNeX, r, Option.bind_some, o_ne, Option.map_some]
theorem x_nev {a b : Dt} {xs ys : List Dt} (e1 : resD h 8 a = some (.lst xs)) (e2 : resD h 8 b = some (.lst ys)) (c : deepOk xs ys = true) : oNeX a b h = some (.bl (!eqDs xs ys), h) := by
  simp only [oNeX, e1, e2, Option.bind_some, o_nel c, Option.map_some]
def extK (fa : RE) (l : LI) : Dt × HI → Option (Dt × HI)
  | (.ref n, h) => (match h[n]? with
    | some (.lst _) => (fa l h).bind fun q => match q.1 with
      | .ref m => (match q.2[n]?, q.2[m]? with
        | some (.lst xs), some (.lst ys) => if xs.length + ys.length ≤ sizeLine then some (.non, q.2.set n (.lst (xs ++ ys))) else none
        | _, _ => none)
      | _ => none
    | _ => none)
  | _ => none
@[simp] theorem q_extend : eExtend fo fa l h = bnd (fo l h) (extK fa l) := by
  unfold bnd eExtend
  congr 1
  funext r
  obtain ⟨d, h⟩ := r
  cases d <;> (try rfl)
theorem extK_ref {n m : Nat} {xs ys zs : List Dt} {h' : HI} (e : h[n]? = some (.lst zs)) (eg : fa l h = some (.ref m, h')) (e1 : h'[n]? = some (.lst xs)) (e2 : h'[m]? = some (.lst ys)) (c : xs.length + ys.length ≤ sizeLine) : extK fa l (.ref n, h) = some (.non, h'.set n (.lst (xs ++ ys))) := by
  simp only [extK, e, eg, Option.bind_some, e1, e2, if_pos c]
@[simp] theorem q_F2 (F : Dt → Dt → Option Dt) : eF2 F fa fb l h = bnd (fa l h) fun r => bnd (fb l r.2) fun q => (F r.1 q.1).map fun d => (d, q.2) := by rfl
@[simp] theorem f_max2 (i j : Int) : fMax2 (.int i) (.int j) = some (.int (max i j)) := by
  unfold fMax2
  simp only
  congr 2
  split <;> omega
end
theorem compL_rf {bd : RG} {tc : RT} {te : RE} {n : Nat} {xs : List Dt} (p1 : ∀ l h b h', tc l h = some (b, h') → h[n]? = some (.lst xs) → h'[n]? = some (.lst xs)) (p2 : ∀ l h b h', te l h = some (b, h') → h[n]? = some (.lst xs) → h'[n]? = some (.lst xs)) :
    ∀ (m k : Nat) (l : LI) (h : HI) (ys : List Dt), h[n]? = some (.lst xs) → compL bd tc te (.rf n) m k l h ys = compL bd tc te (.vals xs) m k l h ys := by
  intro m
  induction m with
  | zero => intros; rfl
  | succ m ih =>
    intro k l h ys e
    unfold compL
    simp only [Src.at, e]
    cases xs[k]? with
    | none => rfl
    | some d =>
      simp only
      cases bd d l with
      | none => rfl
      | some l1 =>
        simp only [Option.bind_some]
        cases q : tc l1 h with
        | none => rfl
        | some b =>
          obtain ⟨b, h1⟩ := b
          have e1 := p1 _ _ _ _ q e
          simp only [Option.bind_some]
          split
          · cases q2 : te l1 h1 with
            | none => rfl
            | some r =>
              obtain ⟨r, h2⟩ := r
              have e2 := p2 _ _ _ _ q2 e1
              simp only [Option.bind_some]
              split
              · exact ih _ _ _ _ e2
              · rfl
          · exact ih _ _ _ _ e1
theorem compK_rf {bd : RG} {tc : RT} {te : RE} {n : Nat} {xs : List Dt} {l : LI} {h : HI} (e : h[n]? = some (.lst xs)) (hx : xs.length < sizeLine) (p1 : ∀ l h b h', tc l h = some (b, h') → h[n]? = some (.lst xs) → h'[n]? = some (.lst xs)) (p2 : ∀ l h b h', te l h = some (b, h') → h[n]? = some (.lst xs) → h'[n]? = some (.lst xs)) :
    compK bd tc te l (.rf n, h) = compV bd tc te xs l h := by
  rw [← compK_vals bd tc te hx]
  unfold compK
  have e1 : Src.fuel (.rf n) h = xs.length + 1 := by simp only [Src.fuel, e]
  have e2 : Src.fuel (.vals xs) h = xs.length + 1 := by simp only [Src.fuel]
  simp only [e1, e2]
  exact compL_rf p1 p2 _ _ _ _ _ e
theorem compV_new {α : Type} {te : RE} {i : Nat} (D : α → Dt) (O : α → Ob) (h0 : HI) : ∀ (xs : List α) (l : LI) (e : HI), (∀ x ∈ xs, ∀ e, te (l.set i (some (D x))) (h0 ++ e) = some (.ref (h0 ++ e).length, h0 ++ e ++ [O x])) →
    compV (gSet i) tTrue te (xs.map D) l (h0 ++ e) = some ((List.range xs.length).map (fun (k : Nat) => Dt.ref ((h0 ++ e).length + k)), h0 ++ e ++ xs.map O)
  | [], _, e, _ => by simp [compV]
  | x :: xs, l, e, H => by
    have hx := H x (by simp) e
    have ih := compV_new D O h0 xs (l.set i (some (D x))) (e ++ [O x]) (te := te) (i := i) (fun y hy e => by
      rw [List.set_set]
      exact H y (by simp [hy]) e)
    simp only [List.map_cons, compV, q_gSet, Option.bind_some, q_tTrue, hx, if_true]
    rw [← List.append_assoc] at ih
    rw [ih]
    simp only [Option.bind_some, List.length_cons, List.range_succ_eq_map, List.map_cons, List.map_map, List.append_assoc, List.cons_append, List.nil_append]
    congr 2
    rw [Nat.add_zero]
    congr 1
    refine List.map_congr_left fun k _ => ?_
    simp
    omega
theorem walk_at {α : Type} {i : Nat} {body : RS} (D : α → Dt) (S : Nat → LI → HI → Prop) : ∀ (xs : List α) (k0 : Nat) (_ : ∀ (k : Nat) x, xs[k]? = some x → ∀ l h, S (k0 + k) l h → ∃ r, body (l.set i (some (D x))) h = some r ∧ Pass (S (k0 + k + 1)) r) (l : LI) (h : HI), S k0 l h →
    ∃ l' h', walkL (gSet i) body (xs.map D) l h = some (.nx l' h') ∧ S (k0 + xs.length) l' h'
  | [], k0, _, l, h, s => ⟨l, h, rfl, s⟩
  | x :: xs, k0, H, l, h, s => by
    obtain ⟨r, e, p⟩ := H 0 x rfl l h s
    have H' : ∀ (k : Nat) y, xs[k]? = some y → ∀ l h, S (k0 + 1 + k) l h → ∃ r, body (l.set i (some (D y))) h = some r ∧ Pass (S (k0 + 1 + k + 1)) r := by
      intro k y hy l h s
      have := H (k + 1) y (by simpa using hy) l h (by rw [show k0 + (k + 1) = k0 + 1 + k by omega]; exact s)
      rw [show k0 + (k + 1) + 1 = k0 + 1 + k + 1 by omega] at this
      exact this
    cases r with
    | nx l2 h2 =>
      obtain ⟨l', h', e', i'⟩ := walk_at D S xs (k0 + 1) H' l2 h2 p
      exact ⟨l', h', by simp [walkL, e, e'], by rw [List.length_cons, show k0 + (xs.length + 1) = k0 + 1 + xs.length by omega]; exact i'⟩
    | ct l2 h2 =>
      obtain ⟨l', h', e', i'⟩ := walk_at D S xs (k0 + 1) H' l2 h2 p
      exact ⟨l', h', by simp [walkL, e, e'], by rw [List.length_cons, show k0 + (xs.length + 1) = k0 + 1 + xs.length by omega]; exact i'⟩
    | bk l2 h2 => exact p.elim
    | rt d h2 => exact p.elim
theorem walk_range {i : Nat} {body : RS} (D : Nat → Dt) (S : Nat → LI → HI → Prop) (n : Nat) (H : ∀ k < n, ∀ l h, S k l h → ∃ r, body (l.set i (some (D k))) h = some r ∧ Pass (S (k + 1)) r) (l : LI) (h : HI) (s : S 0 l h) :
    ∃ l' h', walkL (gSet i) body ((List.range n).map D) l h = some (.nx l' h') ∧ S n l' h' := by
  obtain ⟨l', h', e, i'⟩ := walk_at (i := i) (body := body) D S (List.range n) 0 (fun k x hx l h s => by
    obtain ⟨h1, h2⟩ := List.getElem?_eq_some_iff.mp hx
    simp at h1 h2
    subst h2
    rw [Nat.zero_add] at s ⊢
    exact H k h1 l h s) l h s
  exact ⟨l', h', e, by simpa using i'⟩
theorem rf_at {α : Type} {i n : Nat} {body : RS} (D : α → Dt) (S : Nat → LI → HI → Prop) (xs : List α) (hS : ∀ k l h, S k l h → h[n]? = some (.lst (xs.map D))) (H : ∀ (k : Nat) x, xs[k]? = some x → ∀ l h, S k l h → ∃ r, body (l.set i (some (D x))) h = some r ∧ Pass (S (k + 1)) r)
    (l : LI) (h : HI) (h0 : S 0 l h) : ∃ l' h', forK (gSet i) body l (.rf n, h) = some (.nx l' h') ∧ S xs.length l' h' := by
  have go : ∀ (f k : Nat) (l : LI) (h : HI), S k l h → f = xs.length - k + 1 → k ≤ xs.length → ∃ l' h', forL (gSet i) body (.rf n) f k l h = some (.nx l' h') ∧ S xs.length l' h' := by
    intro f
    induction f with
    | zero => intro k l h _ e; omega
    | succ f ih =>
      intro k l h i0 e hk
      unfold forL
      simp only [Src.at, hS k l h i0, List.getElem?_map]
      by_cases hl : k < xs.length
      · rw [List.getElem?_eq_getElem hl]
        obtain ⟨r, e1, p1⟩ := H k xs[k] (List.getElem?_eq_getElem hl) l h i0
        simp only [Option.map_some, q_gSet, Option.bind_some, e1]
        cases r with
        | nx l2 h2 => exact ih (k + 1) l2 h2 p1 (by omega) (by omega)
        | ct l2 h2 => exact ih (k + 1) l2 h2 p1 (by omega) (by omega)
        | bk l2 h2 => exact p1.elim
        | rt d h2 => exact p1.elim
      · rw [List.getElem?_eq_none (by omega)]
        have : k = xs.length := by omega
        subst this
        exact ⟨l, h, rfl, i0⟩
  have hf : Src.fuel (.rf n) h = xs.length - 0 + 1 := by simp only [Src.fuel, hS 0 l h h0, List.length_map]; omega
  unfold forK
  exact go _ 0 l h h0 hf (Nat.zero_le _)
section
variable {l : LI} {h : HI} {fo fi fe f fa : RE}
end
end SM
namespace SM
open PySem PySem.Spec PyProof.Rows L2
section
variable {l : LI} {h : HI} {f g fo fe : RE} {ga : RA}
end
end SM
namespace G
open PySem PySem.Spec PyProof.Rows L2 SM
def top (i : Nat) : Stmt := PySem.Challenge.pw_spanways_k13_bounds.main.body.getD i (.Pass ⟨0, 0, 0, 0⟩)
def T_ZONES : List Dt := [(.tup [(.int 0), (.int 0)]), (.tup [(.int 0), (.int 1)]), (.tup [(.int 0), (.int 2)]), (.tup [(.int 0), (.int 3)]), (.tup [(.int 0), (.int 4)]), (.tup [(.int 1), (.int 2)]), (.tup [(.int 1), (.int 3)]), (.tup [(.int 1), (.int 4)]), (.tup [(.int 2), (.int 2)]), (.tup [(.int 2), (.int 3)]), (.tup [(.int 2), (.int 4)]), (.tup [(.int 3), (.int 4)]), (.tup [(.int 4), (.int 4)])]
abbrev C_ZONES : Dt := .tup T_ZONES
abbrev s_zones : Stmt := top 2
def B_zones : RS := sRet (e2 oIx (eC C_ZONES) (eV 0))
def F_zones : FnI := fnI 1 1 B_zones
abbrev s_ways_in : Stmt := top 3
def E_ways_in_0 : RE := eV 0
def K_ways_in_1 : RT := tB' (e2 oEqD (e2 oBand (e2 oShr (eV 1) (eV 0)) (eC (.int 1))) (eC (.int 1)))
def B_ways_in : RS := sRet (eComp (iR1 (eC (.int 13))) (gSet 0) K_ways_in_1 E_ways_in_0 [none, some 0])
def F_ways_in : FnI := fnI 1 1 B_ways_in
abbrev s_pairs_of : Stmt := top 5
def L_pairs_of_0 : RS := sDrop (eAppend (eV 1) (eTup (aCons (eV 2) (aCons (eV 3) aNil))))
def L_pairs_of_1 : RS := sFor (iR2 (e2 oAdd (eV 2) (eC (.int 1))) (eV 0)) (gSet 3) L_pairs_of_0
def B_pairs_of : RS := sSeq (sSet 1 (eNew aNil)) (sSeq (sFor (iR1 (eV 0)) (gSet 2) L_pairs_of_1) (sRet (eV 1)))
def F_pairs_of : FnI := fnI 1 4 B_pairs_of
abbrev s_grain : Stmt := top 7
def B_grain : RS := sRet (e2 oAdd (e2 oMul (eC (.int 2)) (eV 0)) (eC (.int 1)))
def F_grain : FnI := fnI 1 1 B_grain
abbrev s_length_bounds : Stmt := top 8
def B_length_bounds : RS := sSeq (sSet 2 (e2 oMul (eC (.int 2)) (e2 oIx (eV 0) (eC (.int 0))))) (sRet (eNew (aCons (eTup (aCons (eV 2) (aCons (e2 oAdd (eV 2) (eC (.int 1))) (aCons (e2 oMul (uNeg (e2 oIx (eV 0) (eC (.int 1)))) (eV 1)) aNil)))) (aCons (eTup (aCons (e2 oAdd (eV 2) (eC (.int 1))) (aCons (eV 2) (aCons (e2 oMul (e2 oIx (eV 0) (eC (.int 2))) (eV 1)) aNil)))) aNil))))
def F_length_bounds : FnI := fnI 2 3 B_length_bounds
abbrev s_point_bounds : Stmt := top 9
def B_point_bounds : RS := sSeq (sSet 4 (eNew aNil)) (sSeq (sIf (tB' (e2 oLe (eF1 fMax (eV 3)) (eV 2))) (sDrop (eAppend (eV 4) (eTup (aCons (eV 0) (aCons (eV 1) (aCons (vIf (tB' (e2 oLt (eF1 fMax (eV 3)) (eV 2))) (uNeg (eC (.int 1))) (eC (.int 0))) aNil)))))) sNil) (sSeq (sIf (tB' (e2 oGe (eF1 fMin (eV 3)) (eV 2))) (sDrop (eAppend (eV 4) (eTup (aCons (eV 1) (aCons (eV 0) (aCons (vIf (tB' (e2 oGt (eF1 fMin (eV 3)) (eV 2))) (uNeg (eC (.int 1))) (eC (.int 0))) aNil)))))) sNil) (sRet (eV 4))))
def F_point_bounds : FnI := fnI 4 5 B_point_bounds
abbrev s_set_bounds : Stmt := top 10
def E_set_bounds_0 : RE := e2 oIx (eCall F_zones [] (aCons (eV 0) aNil)) (eV 1)
def L_set_bounds_1 : RS := sSeq (sSet 5 (eComp (iLst (eCall F_ways_in [] (aCons (eV 1) aNil))) (gSet 0) tTrue E_set_bounds_0 [none, some 4])) (sSeq (sDrop (eExtend (eV 3) (eCall F_point_bounds [] (aCons (e2 oAdd (e2 oMul (eC (.int 2)) (eV 0)) (eV 4)) (aCons (e2 oMul (eC (.int 2)) (eV 2)) (aCons (eC (.int 1)) (aCons (eV 5) aNil))))))) (sDrop (eExtend (eV 3) (eCall F_point_bounds [] (aCons (e2 oAdd (e2 oMul (eC (.int 2)) (eV 0)) (eV 4)) (aCons (e2 oAdd (e2 oMul (eC (.int 2)) (eV 2)) (eC (.int 1))) (aCons (eC (.int 3)) (aCons (eV 5) aNil))))))))
def B_set_bounds : RS := sSeq (sSet 3 (eNew aNil)) (sSeq (sFor (iR1 (eC (.int 2))) (gSet 4) L_set_bounds_1) (sRet (eV 3)))
def F_set_bounds : FnI := fnI 3 6 B_set_bounds
abbrev s_bounds : Stmt := top 11
def E_bounds_0 : RE := eTup (aCons (e2 oMul (eC (.int 2)) (eV 0)) (aCons (e2 oAdd (e2 oMul (eC (.int 2)) (eV 0)) (eC (.int 1))) (aCons (uNeg (eC (.int 1))) aNil)))
def L_bounds_1 : RS := sDrop (eExtend (eV 2) (eCall F_length_bounds [] (aCons (eV 3) (aCons (eCall F_grain [] (aCons (eF1 fLen (eV 0)) aNil)) aNil))))
def L_bounds_2 : RS := sDrop (eExtend (eV 2) (eCall F_set_bounds [] (aCons (e2 oIx (eV 4) (eC (.int 0))) (aCons (e2 oIx (e2 oIx (eV 0) (e2 oIx (eV 4) (eC (.int 0)))) (e2 oIx (eV 4) (eC (.int 1)))) (aCons (e2 oIx (eV 4) (eC (.int 1))) aNil)))))
def B_bounds : RS := sSeq (sSet 2 (eCompN (iR1 (eF1 fLen (eV 0))) (gSet 0) tTrue E_bounds_0 [none])) (sSeq (sFor (iLst (eV 1)) (gSet 3) L_bounds_1) (sSeq (sFor (iLst (eCall F_pairs_of [] (aCons (eF1 fLen (eV 0)) aNil))) (gSet 4) L_bounds_2) (sRet (eV 2))))
def F_bounds : FnI := fnI 2 5 B_bounds
abbrev s__law_cell_at : Stmt := top 13
def B__law_cell_at : RS := sSeq (sIf (tB' (e2 oLt (eV 1) (eF1 fLen (eV 0)))) (sRet (e2 oIx (eV 0) (eV 1))) sNil) (sRet (eC (.int 0)))
def F__law_cell_at : FnI := fnI 2 2 B__law_cell_at
abbrev s__law_whole : Stmt := top 14
def B__law_whole : RS := sRet (vAnd (eIsi "int" (eV 0)) (vNot (eIsi "bool" (eV 0))))
def F__law_whole : FnI := fnI 1 1 B__law_whole
abbrev s__law_mixed : Stmt := top 15
def B__law_mixed : RS := sRet (e2 oMod (e2 oMul (e2 oAdd (e2 oMod (eV 0) (eC (.int 2147483647))) (eC (.int 11))) (eV 1)) (eC (.int 2147483629)))
def F__law_mixed : FnI := fnI 2 2 B__law_mixed
abbrev s__law_zones : Stmt := top 16
def B__law_zones : RS := sSeq (sSet 0 (eLst (aCons (eTup (aCons (eC (.int 0)) (aCons (eC (.int 0)) aNil))) (aCons (eTup (aCons (eC (.int 0)) (aCons (eC (.int 1)) aNil))) (aCons (eTup (aCons (eC (.int 0)) (aCons (eC (.int 2)) aNil))) (aCons (eTup (aCons (eC (.int 0)) (aCons (eC (.int 3)) aNil))) (aCons (eTup (aCons (eC (.int 0)) (aCons (eC (.int 4)) aNil))) (aCons (eTup (aCons (eC (.int 1)) (aCons (eC (.int 2)) aNil))) (aCons (eTup (aCons (eC (.int 1)) (aCons (eC (.int 3)) aNil))) aNil))))))))) (sRet (e2 oCat (eV 0) (eLst (aCons (eTup (aCons (eC (.int 1)) (aCons (eC (.int 4)) aNil))) (aCons (eTup (aCons (eC (.int 2)) (aCons (eC (.int 2)) aNil))) (aCons (eTup (aCons (eC (.int 2)) (aCons (eC (.int 3)) aNil))) (aCons (eTup (aCons (eC (.int 2)) (aCons (eC (.int 4)) aNil))) (aCons (eTup (aCons (eC (.int 3)) (aCons (eC (.int 4)) aNil))) (aCons (eTup (aCons (eC (.int 4)) (aCons (eC (.int 4)) aNil))) aNil)))))))))
def F__law_zones : FnI := fnI 0 1 B__law_zones
abbrev s__law_turned : Stmt := top 17
def L__law_turned_0 : RS := sIf (tB' (e2 oEqD (e2 oBand (e2 oShr (eV 0) (eV 2)) (eC (.int 1))) (eC (.int 1)))) (sSet 1 (e2 oAdd (eV 1) (e2 oShl (eC (.int 1)) (e2 oSub (eC (.int 12)) (eV 2))))) sNil
def B__law_turned : RS := sSeq (sSet 1 (eC (.int 0))) (sSeq (sFor (iR1 (eC (.int 13))) (gSet 2) L__law_turned_0) (sRet (eV 1)))
def F__law_turned : FnI := fnI 1 3 B__law_turned
abbrev s__law_side : Stmt := top 18
def L__law_side_0 : RS := sIf (tB' (e2 oEqD (e2 oBand (e2 oShr (eV 0) (eV 4)) (eC (.int 1))) (eC (.int 1)))) (sSet 3 (eF2 fMax2 (eV 3) (e2 oIx (e2 oIx (eCall0 F__law_zones []) (eV 4)) (eV 1)))) sNil
def B__law_side : RS := sSeq (sSet 3 (eC (.int 0))) (sSeq (sFor (iR1 (eC (.int 13))) (gSet 4) L__law_side_0) (sRet (e2 oSub (e2 oSub (eV 3) (eC (.int 1))) (e2 oMul (eC (.int 2)) (eV 2)))))
def F__law_side : FnI := fnI 3 5 B__law_side
abbrev s__law_due : Stmt := top 19
def E__law_due_0 : RE := eTup (aCons (e2 oMul (eC (.int 2)) (eV 0)) (aCons (e2 oAdd (e2 oMul (eC (.int 2)) (eV 0)) (eC (.int 1))) (aCons (uNeg (eC (.int 1))) aNil)))
def L__law_due_1 : RS := sSeq (sDrop (eAppend (eV 3) (eTup (aCons (e2 oMul (eC (.int 2)) (eV 4)) (aCons (e2 oAdd (e2 oMul (eC (.int 2)) (eV 4)) (eC (.int 1))) (aCons (e2 oMul (uNeg (eV 5)) (e2 oAdd (e2 oMul (eC (.int 2)) (eV 2)) (eC (.int 1)))) aNil)))))) (sDrop (eAppend (eV 3) (eTup (aCons (e2 oAdd (e2 oMul (eC (.int 2)) (eV 4)) (eC (.int 1))) (aCons (e2 oMul (eC (.int 2)) (eV 4)) (aCons (e2 oMul (eV 6) (e2 oAdd (e2 oMul (eC (.int 2)) (eV 2)) (eC (.int 1)))) aNil))))))
def L__law_due_2 : RS := sSeq (sSet 9 (eCall F__law_side [] (aCons (e2 oIx (e2 oIx (eV 0) (eV 4)) (eV 7)) (aCons (e2 oDiv (eV 8) (eC (.int 2))) (aCons (e2 oMod (eV 8) (eC (.int 2))) aNil))))) (sIf (tAnd' (tB' (e2 oNeD (eV 4) (eV 7))) (tB' (e2 oLe (eV 9) (eC (.int 0))))) (sDrop (eAppend (eV 3) (eTup (aCons (e2 oAdd (e2 oMul (eC (.int 2)) (eV 4)) (e2 oDiv (eV 8) (eC (.int 2)))) (aCons (e2 oAdd (e2 oMul (eC (.int 2)) (eV 7)) (e2 oMod (eV 8) (eC (.int 2)))) (aCons (uNeg (eF1 fInt (e2 oLt (eV 9) (eC (.int 0))))) aNil)))))) sNil)
def L__law_due_3 : RS := sFor (iR1 (eC (.int 4))) (gSet 8) L__law_due_2
def L__law_due_4 : RS := sFor (iR1 (eV 2)) (gSet 7) L__law_due_3
def B__law_due : RS := sSeq (sSet 2 (eF1 fLen (eV 0))) (sSeq (sSet 3 (eCompN (iR1 (eV 2)) (gSet 0) tTrue E__law_due_0 [none])) (sSeq (sFor (iLst (eV 1)) (gSet3 4 5 6) L__law_due_1) (sSeq (sFor (iR1 (eV 2)) (gSet 4) L__law_due_4) (sRet (eV 3)))))
def F__law_due : FnI := fnI 2 10 B__law_due
abbrev s__law_sets : Stmt := top 20
def L__law_sets_0 : RS := sSeq (sSet 5 (eCall F__law_mixed [] (aCons (eCall F__law_cell_at [] (aCons (eV 0) (aCons (eC (.int 0)) aNil))) (aCons (e2 oAdd (eC (.int 16807)) (e2 oMul (e2 oMul (eC (.int 2)) (eV 4)) (eV 4))) aNil)))) (sDrop (eAppend (eV 3) (e2 oShl (eC (.int 1)) (e2 oMod (e2 oDiv (eV 5) (eC (.int 64))) (eC (.int 13))))))
def L__law_sets_1 : RS := sSetIx (e2 oBor (e2 oIx (eV 3) (e2 oMod (eV 4) (eV 2))) (e2 oShl (eC (.int 1)) (e2 oMod (e2 oDiv (eCall F__law_mixed [] (aCons (eV 6) (aCons (eC (.int 48271)) aNil))) (eC (.int 32))) (eC (.int 13))))) (eV 3) (e2 oMod (eV 4) (eV 2))
def B__law_sets : RS := sSeq (sSet 2 (e2 oDiv (e2 oMul (eV 1) (e2 oSub (eV 1) (eC (.int 1)))) (eC (.int 2)))) (sSeq (sSet 3 (eNew aNil)) (sSeq (sFor (iR1 (eV 2)) (gSet 4) L__law_sets_0) (sSeq (sIf (tB' (e2 oGt (eV 2) (eC (.int 0)))) (sFor (iEnum (eSl (eV 0) (pAt (eC (.int 1))) pNo)) (gSet2 4 6) L__law_sets_1) sNil) (sRet (eV 3)))))
def F__law_sets : FnI := fnI 2 7 B__law_sets
abbrev s__law_net : Stmt := top 21
def E__law_net_0 : RE := eC (.int 64)
def E__law_net_1 : RE := eCompN (iR1 (eV 1)) (gSet 0) tTrue E__law_net_0 [none]
def L__law_net_2 : RS := sSeq (sSetIx (e2 oIx (eV 0) (eV 3)) (e2 oIx (eV 2) (eV 4)) (eV 5)) (sSeq (sSetIx (eCall F__law_turned [] (aCons (e2 oIx (eV 0) (eV 3)) aNil)) (e2 oIx (eV 2) (eV 5)) (eV 4)) (sSet 3 (e2 oAdd (eV 3) (eC (.int 1)))))
def L__law_net_3 : RS := sFor (iR2 (e2 oAdd (eV 4) (eC (.int 1))) (eV 1)) (gSet 5) L__law_net_2
def B__law_net : RS := sSeq (sSet 2 (eCompN (iR1 (eV 1)) (gSet 0) tTrue E__law_net_1 [none, some 1])) (sSeq (sSet 3 (eC (.int 0))) (sSeq (sFor (iR1 (eV 1)) (gSet 4) L__law_net_3) (sRet (eV 2))))
def F__law_net : FnI := fnI 2 6 B__law_net
abbrev s__law_lengths : Stmt := top 22
def L__law_lengths_0 : RS := sSeq (sSet 4 (eCall F__law_mixed [] (aCons (eV 3) (aCons (eC (.int 69621)) aNil)))) (sIf (tB' (e2 oGt (e2 oMod (eV 4) (eC (.int 3))) (eC (.int 0)))) (sSeq (sSet 5 (e2 oIx (eLst (aCons (e2 oMod (eV 3) (e2 oAdd (e2 oPow (eC (.int 10)) (eC (.int 18))) (eC (.int 1)))) (aCons (e2 oMod (e2 oDiv (eV 4) (eC (.int 3))) (eC (.int 5))) aNil))) (e2 oMod (eV 4) (eC (.int 2))))) (sSeq (sSet 6 (e2 oAdd (eV 5) (e2 oMod (e2 oMul (e2 oMul (eV 4) (eV 4)) (eC (.int 69621))) (e2 oSub (e2 oAdd (e2 oPow (eC (.int 10)) (eC (.int 18))) (eC (.int 1))) (eV 5))))) (sDrop (eAppend (eV 2) (eTup (aCons (e2 oMod (e2 oDiv (eV 4) (eC (.int 15))) (eV 1)) (aCons (eV 5) (aCons (eV 6) aNil)))))))) sNil)
def B__law_lengths : RS := sSeq (sSet 2 (eNew aNil)) (sSeq (sFor (iLst (eSl (eV 0) (pAt (eC (.int 1))) (pAt (eC (.int 31))))) (gSet 3) L__law_lengths_0) (sRet (eV 2)))
def F__law_lengths : FnI := fnI 2 7 B__law_lengths
abbrev s_law : Stmt := top 23
def E_law_0 : RE := eF1 fList (eV 0)
def L_law_1 : RS := sSeq (sIf (tOr' (tNot' (tB' (eIsi "tuple" (eV 7)))) (tB' (e2 oNeX (eF1 fLen (eV 7)) (eC (.int 3))))) (sRet (eC (.bl false))) sNil) (sIf (tOr' (tNot' (tB' (eCall F__law_whole [] (aCons (e2 oIx (eV 7) (eC (.int 0))) aNil)))) (tOr' (tNot' (tB' (eCall F__law_whole [] (aCons (e2 oIx (eV 7) (eC (.int 1))) aNil)))) (tNot' (tB' (eCall F__law_whole [] (aCons (e2 oIx (eV 7) (eC (.int 2))) aNil)))))) (sRet (eC (.bl false))) sNil)
def B_law : RS := sSeq (sSet 1 (e2 oAdd (eC (.int 1)) (e2 oMod (eCall F__law_cell_at [] (aCons (eV 0) (aCons (eC (.int 0)) aNil))) (eC (.int 8))))) (sSeq (sSet 2 (eCall F__law_net [] (aCons (eCall F__law_sets [] (aCons (eV 0) (aCons (eV 1) aNil))) (aCons (eV 1) aNil)))) (sSeq (sSet 3 (eCall F__law_lengths [] (aCons (eV 0) (aCons (eV 1) aNil)))) (sSeq (sSet 4 (eLst (aCons (eComp (iLst (eV 2)) (gSet 0) tTrue E_law_0 [none]) (aCons (eF1 fList (eV 3)) aNil)))) (sSeq (sSet 5 (eCall F_grain [] (aCons (eV 1) aNil))) (sSeq (sIf (tOr' (tNot' (tB' (eCall F__law_whole [] (aCons (eV 5) aNil)))) (tB' (e2 oNeX (eV 5) (e2 oAdd (e2 oMul (eC (.int 2)) (eV 1)) (eC (.int 1)))))) (sRet (eC (.bl false))) sNil) (sSeq (sSet 6 (eCall F_bounds [] (aCons (e2 oIx (eV 4) (eC (.int 0))) (aCons (e2 oIx (eV 4) (eC (.int 1))) aNil)))) (sSeq (sIf (tOr' (tB' (e2 oNeX (eV 4) (eLst (aCons (eV 2) (aCons (eV 3) aNil))))) (tNot' (tB' (eIsi "list" (eV 6))))) (sRet (eC (.bl false))) sNil) (sSeq (sFor (iLst (eV 6)) (gSet 7) L_law_1) (sRet (eSetEq (eV 6) (eCall F__law_due [] (aCons (eV 2) (aCons (eV 3) aNil)))))))))))))
def F_law : FnI := fnI 1 8 B_law
structure Txt (K : PySem.W.Frag) (mg : Str → Option Value) : Prop where
  d_zones : DefAt K mg "zones" s_zones ["way"]
  d_ways_in : DefAt K mg "ways_in" s_ways_in ["mask"]
  d_pairs_of : DefAt K mg "pairs_of" s_pairs_of ["count"]
  d_grain : DefAt K mg "grain" s_grain ["count"]
  d_length_bounds : DefAt K mg "length_bounds" s_length_bounds ["length", "one"]
  d_point_bounds : DefAt K mg "point_bounds" s_point_bounds ["p", "q", "at", "seen"]
  d_set_bounds : DefAt K mg "set_bounds" s_set_bounds ["i", "mask", "j"]
  d_bounds : DefAt K mg "bounds" s_bounds ["net", "lengths"]
  d__law_cell_at : DefAt K mg "_law_cell_at" s__law_cell_at ["_law_script", "_law_k"]
  d__law_whole : DefAt K mg "_law_whole" s__law_whole ["_law_found"]
  d__law_mixed : DefAt K mg "_law_mixed" s__law_mixed ["_law_cell", "_law_factor"]
  d__law_zones : DefAt K mg "_law_zones" s__law_zones []
  d__law_turned : DefAt K mg "_law_turned" s__law_turned ["_law_mask"]
  d__law_side : DefAt K mg "_law_side" s__law_side ["_law_mask", "_law_side_here", "_law_other"]
  d__law_due : DefAt K mg "_law_due" s__law_due ["_law_net_here", "_law_lengths_here"]
  d__law_sets : DefAt K mg "_law_sets" s__law_sets ["_law_script", "_law_count"]
  d__law_net : DefAt K mg "_law_net" s__law_net ["_law_sets_here", "_law_count"]
  d__law_lengths : DefAt K mg "_law_lengths" s__law_lengths ["_law_script", "_law_count"]
  z_bool : mg "bool" = none
  z_enumerate : mg "enumerate" = none
  z_int : mg "int" = none
  z_isinstance : mg "isinstance" = none
  z_len : mg "len" = none
  z_list : mg "list" = none
  z_max : mg "max" = none
  z_min : mg "min" = none
  z_range : mg "range" = none
  z_set : mg "set" = none
  z_tuple : mg "tuple" = none
  c_ZONES : Con1 K mg "ZONES" C_ZONES
section
variable {P : Program} {w : World} {K : PySem.W.Frag} {mg : Str → Option Value}
theorem sc_zones : FnScope ["way"] ["way"] (defScope s_zones) := mkSc
theorem sc_ways_in : FnScope ["mask"] ["mask"] (defScope s_ways_in) := mkSc
theorem sc_pairs_of : FnScope ["count", "found", "i", "j"] ["count"] (defScope s_pairs_of) := mkSc
theorem sc_grain : FnScope ["count"] ["count"] (defScope s_grain) := mkSc
theorem sc_length_bounds : FnScope ["length", "one", "start"] ["length", "one"] (defScope s_length_bounds) := mkSc
theorem sc_point_bounds : FnScope ["p", "q", "at", "seen", "found"] ["p", "q", "at", "seen"] (defScope s_point_bounds) := mkSc
theorem sc_set_bounds : FnScope ["i", "mask", "j", "found", "side", "seen"] ["i", "mask", "j"] (defScope s_set_bounds) := mkSc
theorem sc_bounds : FnScope ["net", "lengths", "found", "length", "pair"] ["net", "lengths"] (defScope s_bounds) := mkSc
theorem sc__law_cell_at : FnScope ["_law_script", "_law_k"] ["_law_script", "_law_k"] (defScope s__law_cell_at) := mkSc
theorem sc__law_whole : FnScope ["_law_found"] ["_law_found"] (defScope s__law_whole) := mkSc
theorem sc__law_mixed : FnScope ["_law_cell", "_law_factor"] ["_law_cell", "_law_factor"] (defScope s__law_mixed) := mkSc
theorem sc__law_zones : FnScope ["_law_low"] [] (defScope s__law_zones) := mkSc
theorem sc__law_turned : FnScope ["_law_mask", "_law_found", "_law_way"] ["_law_mask"] (defScope s__law_turned) := mkSc
theorem sc__law_side : FnScope ["_law_mask", "_law_side_here", "_law_other", "_law_latest", "_law_way"] ["_law_mask", "_law_side_here", "_law_other"] (defScope s__law_side) := mkSc
theorem sc__law_due : FnScope ["_law_net_here", "_law_lengths_here", "_law_count", "_law_due_here", "_law_i", "_law_low", "_law_high", "_law_j", "_law_k", "_law_off"] ["_law_net_here", "_law_lengths_here"] (defScope s__law_due) := mkSc
theorem sc__law_sets : FnScope ["_law_script", "_law_count", "_law_pairs", "_law_sets_here", "_law_k", "_law_number", "_law_cell"] ["_law_script", "_law_count"] (defScope s__law_sets) := mkSc
theorem sc__law_net : FnScope ["_law_sets_here", "_law_count", "_law_net_here", "_law_at", "_law_i", "_law_j"] ["_law_sets_here", "_law_count"] (defScope s__law_net) := mkSc
theorem sc__law_lengths : FnScope ["_law_script", "_law_count", "_law_found", "_law_cell", "_law_number", "_law_low", "_law_high"] ["_law_script", "_law_count"] (defScope s__law_lengths) := mkSc
theorem sc_law : FnScope ["_law_script", "_law_count", "_law_net_here", "_law_lengths_here", "_law_handed", "_law_size", "_law_found", "_law_one"] ["_law_script"] (defScope s_law) := mkSc
variable (T : Txt K mg) (b : Heap)
include T
theorem cal_zones : Cal P w K mg b 1 1 "zones" F_zones :=
  cal_of (k := 0) (body := B_zones) T.d_zones sc_zones rfl rfl fun _ _ _ _ _ _ _ hr => zms_one (zm_ret (em_ix (em_con rfl T.c_ZONES) (em_var 0)))
theorem cal_ways_in : Cal P w K mg b 1 1 "ways_in" F_ways_in :=
  cal_of (k := 0) (body := B_ways_in) T.d_ways_in sc_ways_in rfl rfl fun _ _ _ _ _ _ _ hr => zms_one (zm_ret (em_comp (Nc := ["way", "mask"]) rfl (im_range1 rfl T.z_range em_int) (by decide +kernel) rfl (by decide +kernel) (by rfl) (by exact ⟨⟨rfl, .inl rfl, .inl rfl, rfl⟩, trivial⟩) (fun _ _ _ _ => gm_name 0 (show (["way", "mask"] : List Str).Nodup by decide +kernel)) (fun _ _ _ _ => cm_one (tm_cmp (om_eqD hr.units) (em_op om_band (em_op om_shr (em_var 1) (em_var 0)) em_int) em_int)) (fun _ _ _ _ => em_var 0)))
theorem cal_pairs_of : Cal P w K mg b 1 1 "pairs_of" F_pairs_of :=
  cal_of (k := 0) (body := B_pairs_of) T.d_pairs_of sc_pairs_of rfl rfl fun _ _ _ _ _ _ _ hr => zms_cons (zm_set 1 sc_pairs_of.nd (em_new am_nil)) (zms_cons (zm_for PassesOwn.never rfl (im_range1 rfl T.z_range (em_var 0)) (gm_name 2 sc_pairs_of.nd) (zms_one (zm_for PassesOwn.never rfl (im_range2 rfl T.z_range (em_op om_add (em_var 2) em_int) (em_var 0)) (gm_name 3 sc_pairs_of.nd) (zms_one (zm_expr (em_append (em_var 1) (em_tup (am_cons (em_var 2) (am_cons (em_var 3) am_nil))))))))) (zms_one (zm_ret (em_var 1))))
theorem cal_grain : Cal P w K mg b 1 1 "grain" F_grain :=
  cal_of (k := 0) (body := B_grain) T.d_grain sc_grain rfl rfl fun _ _ _ _ _ _ _ hr => zms_one (zm_ret (em_op om_add (em_op om_mul em_int (em_var 0)) em_int))
theorem cal_length_bounds : Cal P w K mg b 1 2 "length_bounds" F_length_bounds :=
  cal_of (k := 0) (body := B_length_bounds) T.d_length_bounds sc_length_bounds rfl rfl fun _ _ _ _ _ _ _ hr => zms_cons (zm_set 2 sc_length_bounds.nd (em_op om_mul em_int (em_ix (em_var 0) em_int))) (zms_one (zm_ret (em_new (am_cons (em_tup (am_cons (em_var 2) (am_cons (em_op om_add (em_var 2) em_int) (am_cons (em_op om_mul (em_neg (em_ix (em_var 0) em_int)) (em_var 1)) am_nil)))) (am_cons (em_tup (am_cons (em_op om_add (em_var 2) em_int) (am_cons (em_var 2) (am_cons (em_op om_mul (em_ix (em_var 0) em_int) (em_var 1)) am_nil)))) am_nil)))))
theorem cal_point_bounds : Cal P w K mg b 1 4 "point_bounds" F_point_bounds :=
  cal_of (k := 0) (body := B_point_bounds) T.d_point_bounds sc_point_bounds rfl rfl fun _ _ _ _ _ _ _ hr => zms_cons (zm_set 4 sc_point_bounds.nd (em_new am_nil)) (zms_cons (zm_if (tm_cmp om_le (em_max rfl rfl T.z_max (em_var 3)) (em_var 2)) (zms_one (zm_expr (em_append (em_var 4) (em_tup (am_cons (em_var 0) (am_cons (em_var 1) (am_cons (em_if (tm_cmp om_lt (em_max rfl rfl T.z_max (em_var 3)) (em_var 2)) (em_neg em_int) em_int) am_nil))))))) zms_nil) (zms_cons (zm_if (tm_cmp om_ge (em_min rfl rfl T.z_min (em_var 3)) (em_var 2)) (zms_one (zm_expr (em_append (em_var 4) (em_tup (am_cons (em_var 1) (am_cons (em_var 0) (am_cons (em_if (tm_cmp om_gt (em_min rfl rfl T.z_min (em_var 3)) (em_var 2)) (em_neg em_int) em_int) am_nil))))))) zms_nil) (zms_one (zm_ret (em_var 4)))))
theorem cal_set_bounds : Cal P w K mg b 2 3 "set_bounds" F_set_bounds :=
  cal_of (k := 1) (body := B_set_bounds) T.d_set_bounds sc_set_bounds rfl rfl fun _ _ _ _ _ _ _ hr => zms_cons (zm_set 3 sc_set_bounds.nd (em_new am_nil)) (zms_cons (zm_for PassesOwn.never rfl (im_range1 rfl T.z_range em_int) (gm_name 4 sc_set_bounds.nd) (zms_cons (zm_setComp (Nc := ["way", "side"]) 5 rfl sc_set_bounds.nd (im_list (em_c (cal_ways_in T b) hr (am_cons (em_var 1) am_nil))) (by decide +kernel) rfl (by decide +kernel) (by rfl) (by exact ⟨⟨rfl, .inl rfl, .inl rfl, rfl⟩, trivial⟩) (fun _ _ _ _ => gm_name 0 (show (["way", "side"] : List Str).Nodup by decide +kernel)) (fun _ _ _ _ => cm_nil) (fun _ _ _ _ => em_ix (em_c (cal_zones T b) hr (am_cons (em_var 0) am_nil)) (em_var 1)) (by rfl)) (zms_cons (zm_expr (em_extend (em_var 3) (em_c (cal_point_bounds T b) hr (am_cons (em_op om_add (em_op om_mul em_int (em_var 0)) (em_var 4)) (am_cons (em_op om_mul em_int (em_var 2)) (am_cons em_int (am_cons (em_var 5) am_nil))))))) (zms_one (zm_expr (em_extend (em_var 3) (em_c (cal_point_bounds T b) hr (am_cons (em_op om_add (em_op om_mul em_int (em_var 0)) (em_var 4)) (am_cons (em_op om_add (em_op om_mul em_int (em_var 2)) em_int) (am_cons em_int (am_cons (em_var 5) am_nil))))))))))) (zms_one (zm_ret (em_var 3))))
theorem cal_bounds : Cal P w K mg b 3 2 "bounds" F_bounds :=
  cal_of (k := 2) (body := B_bounds) T.d_bounds sc_bounds rfl rfl fun _ _ _ _ _ _ _ hr => zms_cons (zm_setCompN (Nc := ["i"]) 2 rfl sc_bounds.nd (im_range1 rfl T.z_range (em_len rfl T.z_len (em_var 0))) (by decide +kernel) rfl (by decide +kernel) (by rfl) (by exact trivial) (fun _ _ _ _ => gm_name 0 (show (["i"] : List Str).Nodup by decide +kernel)) (fun _ _ _ _ => cm_nil) (fun _ _ _ _ => em_tup (am_cons (em_op om_mul em_int (em_var 0)) (am_cons (em_op om_add (em_op om_mul em_int (em_var 0)) em_int) (am_cons (em_neg em_int) am_nil)))) (by rfl)) (zms_cons (zm_for PassesOwn.never rfl (im_list (em_var 1)) (gm_name 3 sc_bounds.nd) (zms_one (zm_expr (em_extend (em_var 2) (em_c (cal_length_bounds T b) hr (am_cons (em_var 3) (am_cons (em_c (cal_grain T b) hr (am_cons (em_len rfl T.z_len (em_var 0)) am_nil)) am_nil))))))) (zms_cons (zm_for PassesOwn.never rfl (im_list (em_c (cal_pairs_of T b) hr (am_cons (em_len rfl T.z_len (em_var 0)) am_nil))) (gm_name 4 sc_bounds.nd) (zms_one (zm_expr (em_extend (em_var 2) (em_c (cal_set_bounds T b) hr (am_cons (em_ix (em_var 4) em_int) (am_cons (em_ix (em_ix (em_var 0) (em_ix (em_var 4) em_int)) (em_ix (em_var 4) em_int)) (am_cons (em_ix (em_var 4) em_int) am_nil)))))))) (zms_one (zm_ret (em_var 2)))))
theorem cal__law_cell_at : Cal P w K mg b 1 2 "_law_cell_at" F__law_cell_at :=
  cal_of (k := 0) (body := B__law_cell_at) T.d__law_cell_at sc__law_cell_at rfl rfl fun _ _ _ _ _ _ _ hr => zms_cons (zm_if (tm_cmp om_lt (em_var 1) (em_len rfl T.z_len (em_var 0))) (zms_one (zm_ret (em_ix (em_var 0) (em_var 1)))) zms_nil) (zms_one (zm_ret em_int))
theorem cal__law_whole : Cal P w K mg b 1 1 "_law_whole" F__law_whole :=
  cal_of (k := 0) (body := B__law_whole) T.d__law_whole sc__law_whole rfl rfl fun _ _ _ _ _ _ _ hr => zms_one (zm_ret (em_and (em_isi rfl T.z_isinstance rfl T.z_int PyProof.Rows.boot_int (by decide) (em_var 0)) (em_one (em_not (em_isi rfl T.z_isinstance rfl T.z_bool PyProof.Rows.boot_bool (by decide) (em_var 0))))))
theorem cal__law_mixed : Cal P w K mg b 1 2 "_law_mixed" F__law_mixed :=
  cal_of (k := 0) (body := B__law_mixed) T.d__law_mixed sc__law_mixed rfl rfl fun _ _ _ _ _ _ _ hr => zms_one (zm_ret (em_op om_mod (em_op om_mul (em_op om_add (em_op om_mod (em_var 0) em_int) em_int) (em_var 1)) em_int))
theorem cal__law_zones : Cal P w K mg b 1 0 "_law_zones" F__law_zones :=
  cal_of (k := 0) (body := B__law_zones) T.d__law_zones sc__law_zones rfl rfl fun _ _ _ _ _ _ _ hr => zms_cons (zm_set 0 sc__law_zones.nd (em_lst (am_cons (em_tup (am_cons em_int (am_cons em_int am_nil))) (am_cons (em_tup (am_cons em_int (am_cons em_int am_nil))) (am_cons (em_tup (am_cons em_int (am_cons em_int am_nil))) (am_cons (em_tup (am_cons em_int (am_cons em_int am_nil))) (am_cons (em_tup (am_cons em_int (am_cons em_int am_nil))) (am_cons (em_tup (am_cons em_int (am_cons em_int am_nil))) (am_cons (em_tup (am_cons em_int (am_cons em_int am_nil))) am_nil))))))))) (zms_one (zm_ret (em_op om_cat (em_var 0) (em_lst (am_cons (em_tup (am_cons em_int (am_cons em_int am_nil))) (am_cons (em_tup (am_cons em_int (am_cons em_int am_nil))) (am_cons (em_tup (am_cons em_int (am_cons em_int am_nil))) (am_cons (em_tup (am_cons em_int (am_cons em_int am_nil))) (am_cons (em_tup (am_cons em_int (am_cons em_int am_nil))) (am_cons (em_tup (am_cons em_int (am_cons em_int am_nil))) am_nil))))))))))
theorem cal__law_turned : Cal P w K mg b 1 1 "_law_turned" F__law_turned :=
  cal_of (k := 0) (body := B__law_turned) T.d__law_turned sc__law_turned rfl rfl fun _ _ _ _ _ _ _ hr => zms_cons (zm_set 1 sc__law_turned.nd em_int) (zms_cons (zm_for PassesOwn.never rfl (im_range1 rfl T.z_range em_int) (gm_name 2 sc__law_turned.nd) (zms_one (zm_if (tm_cmp (om_eqD hr.units) (em_op om_band (em_op om_shr (em_var 0) (em_var 2)) em_int) em_int) (zms_one (zm_set 1 sc__law_turned.nd (em_op om_add (em_var 1) (em_op om_shl em_int (em_op om_sub em_int (em_var 2)))))) zms_nil))) (zms_one (zm_ret (em_var 1))))
theorem cal__law_side : Cal P w K mg b 2 3 "_law_side" F__law_side :=
  cal_of (k := 1) (body := B__law_side) T.d__law_side sc__law_side rfl rfl fun _ _ _ _ _ _ _ hr => zms_cons (zm_set 3 sc__law_side.nd em_int) (zms_cons (zm_for PassesOwn.never rfl (im_range1 rfl T.z_range em_int) (gm_name 4 sc__law_side.nd) (zms_one (zm_if (tm_cmp (om_eqD hr.units) (em_op om_band (em_op om_shr (em_var 0) (em_var 4)) em_int) em_int) (zms_one (zm_set 3 sc__law_side.nd (em_max2 rfl rfl T.z_max (em_var 3) (em_ix (em_ix (em_call0 (cal__law_zones T b) hr (by decide) rfl) (em_var 4)) (em_var 1))))) zms_nil))) (zms_one (zm_ret (em_op om_sub (em_op om_sub (em_var 3) em_int) (em_op om_mul em_int (em_var 2))))))
theorem cal__law_due : Cal P w K mg b 3 2 "_law_due" F__law_due :=
  cal_of (k := 2) (body := B__law_due) T.d__law_due sc__law_due rfl rfl fun _ _ _ _ _ _ _ hr => zms_cons (zm_set 2 sc__law_due.nd (em_len rfl T.z_len (em_var 0))) (zms_cons (zm_setCompN (Nc := ["_law_i"]) 3 rfl sc__law_due.nd (im_range1 rfl T.z_range (em_var 2)) (by decide +kernel) rfl (by decide +kernel) (by rfl) (by exact trivial) (fun _ _ _ _ => gm_name 0 (show (["_law_i"] : List Str).Nodup by decide +kernel)) (fun _ _ _ _ => cm_nil) (fun _ _ _ _ => em_tup (am_cons (em_op om_mul em_int (em_var 0)) (am_cons (em_op om_add (em_op om_mul em_int (em_var 0)) em_int) (am_cons (em_neg em_int) am_nil)))) (by rfl)) (zms_cons (zm_for PassesOwn.never rfl (im_list (em_var 1)) (gm_three 4 5 6 rfl sc__law_due.nd) (zms_cons (zm_expr (em_append (em_var 3) (em_tup (am_cons (em_op om_mul em_int (em_var 4)) (am_cons (em_op om_add (em_op om_mul em_int (em_var 4)) em_int) (am_cons (em_op om_mul (em_neg (em_var 5)) (em_op om_add (em_op om_mul em_int (em_var 2)) em_int)) am_nil)))))) (zms_one (zm_expr (em_append (em_var 3) (em_tup (am_cons (em_op om_add (em_op om_mul em_int (em_var 4)) em_int) (am_cons (em_op om_mul em_int (em_var 4)) (am_cons (em_op om_mul (em_var 6) (em_op om_add (em_op om_mul em_int (em_var 2)) em_int)) am_nil))))))))) (zms_cons (zm_for PassesOwn.never rfl (im_range1 rfl T.z_range (em_var 2)) (gm_name 4 sc__law_due.nd) (zms_one (zm_for PassesOwn.never rfl (im_range1 rfl T.z_range (em_var 2)) (gm_name 7 sc__law_due.nd) (zms_one (zm_for PassesOwn.never rfl (im_range1 rfl T.z_range em_int) (gm_name 8 sc__law_due.nd) (zms_cons (zm_set 9 sc__law_due.nd (em_c (cal__law_side T b) hr (am_cons (em_ix (em_ix (em_var 0) (em_var 4)) (em_var 7)) (am_cons (em_op om_div (em_var 8) em_int) (am_cons (em_op om_mod (em_var 8) em_int) am_nil))))) (zms_one (zm_if (WM.tm (wm_and (tm_cmp (om_neD hr.units) (em_var 4) (em_var 7)) (wm_and1 (tm_cmp om_le (em_var 9) em_int)))) (zms_one (zm_expr (em_append (em_var 3) (em_tup (am_cons (em_op om_add (em_op om_mul em_int (em_var 4)) (em_op om_div (em_var 8) em_int)) (am_cons (em_op om_add (em_op om_mul em_int (em_var 7)) (em_op om_mod (em_var 8) em_int)) (am_cons (em_neg (em_int1 rfl T.z_int (em_cmp om_lt (em_var 9) em_int))) am_nil))))))) zms_nil)))))))) (zms_one (zm_ret (em_var 3))))))
theorem cal__law_sets : Cal P w K mg b 2 2 "_law_sets" F__law_sets :=
  cal_of (k := 1) (body := B__law_sets) T.d__law_sets sc__law_sets rfl rfl fun _ _ _ _ _ _ _ hr => zms_cons (zm_set 2 sc__law_sets.nd (em_op om_div (em_op om_mul (em_var 1) (em_op om_sub (em_var 1) em_int)) em_int)) (zms_cons (zm_set 3 sc__law_sets.nd (em_new am_nil)) (zms_cons (zm_for PassesOwn.never rfl (im_range1 rfl T.z_range (em_var 2)) (gm_name 4 sc__law_sets.nd) (zms_cons (zm_set 5 sc__law_sets.nd (em_c (cal__law_mixed T b) hr (am_cons (em_c (cal__law_cell_at T b) hr (am_cons (em_var 0) (am_cons em_int am_nil))) (am_cons (em_op om_add em_int (em_op om_mul (em_op om_mul em_int (em_var 4)) (em_var 4))) am_nil)))) (zms_one (zm_expr (em_append (em_var 3) (em_op om_shl em_int (em_op om_mod (em_op om_div (em_var 5) em_int) em_int))))))) (zms_cons (zm_if (tm_cmp om_gt (em_var 2) em_int) (zms_one (zm_for PassesOwn.never rfl (im_enum rfl T.z_enumerate (em_slice (em_var 0) (om_some em_int) om_none)) (gm_two 4 6 rfl sc__law_sets.nd) (zms_one (zm_setIx (em_op om_bor (em_ix (em_var 3) (em_op om_mod (em_var 4) (em_var 2))) (em_op om_shl em_int (em_op om_mod (em_op om_div (em_c (cal__law_mixed T b) hr (am_cons (em_var 6) (am_cons em_int am_nil))) em_int) em_int))) (em_var 3) (em_op om_mod (em_var 4) (em_var 2)))))) zms_nil) (zms_one (zm_ret (em_var 3))))))
theorem cal__law_net : Cal P w K mg b 2 2 "_law_net" F__law_net :=
  cal_of (k := 1) (body := B__law_net) T.d__law_net sc__law_net rfl rfl fun _ _ _ _ _ _ _ hr => zms_cons (zm_setCompN (Nc := ["_law_i", "_law_count"]) 2 rfl sc__law_net.nd (im_range1 rfl T.z_range (em_var 1)) (by decide +kernel) rfl (by decide +kernel) (by rfl) (by exact ⟨⟨rfl, .inl rfl, .inl rfl, rfl⟩, trivial⟩) (fun _ _ _ _ => gm_name 0 (show (["_law_i", "_law_count"] : List Str).Nodup by decide +kernel)) (fun _ _ _ _ => cm_nil) (fun _ _ _ _ => em_compN (Nc := ["_law_j"]) rfl (im_range1 rfl T.z_range (em_var 1)) (by decide +kernel) rfl (by decide +kernel) (by rfl) (by exact trivial) (fun _ _ _ _ => gm_name 0 (show (["_law_j"] : List Str).Nodup by decide +kernel)) (fun _ _ _ _ => cm_nil) (fun _ _ _ _ => em_int)) (by rfl)) (zms_cons (zm_set 3 sc__law_net.nd em_int) (zms_cons (zm_for PassesOwn.never rfl (im_range1 rfl T.z_range (em_var 1)) (gm_name 4 sc__law_net.nd) (zms_one (zm_for PassesOwn.never rfl (im_range2 rfl T.z_range (em_op om_add (em_var 4) em_int) (em_var 1)) (gm_name 5 sc__law_net.nd) (zms_cons (zm_setIx (em_ix (em_var 0) (em_var 3)) (em_ix (em_var 2) (em_var 4)) (em_var 5)) (zms_cons (zm_setIx (em_c (cal__law_turned T b) hr (am_cons (em_ix (em_var 0) (em_var 3)) am_nil)) (em_ix (em_var 2) (em_var 5)) (em_var 4)) (zms_one (zm_set 3 sc__law_net.nd (em_op om_add (em_var 3) em_int)))))))) (zms_one (zm_ret (em_var 2)))))
theorem cal__law_lengths : Cal P w K mg b 2 2 "_law_lengths" F__law_lengths :=
  cal_of (k := 1) (body := B__law_lengths) T.d__law_lengths sc__law_lengths rfl rfl fun _ _ _ _ _ _ _ hr => zms_cons (zm_set 2 sc__law_lengths.nd (em_new am_nil)) (zms_cons (zm_for PassesOwn.never rfl (im_list (em_slice (em_var 0) (om_some em_int) (om_some em_int))) (gm_name 3 sc__law_lengths.nd) (zms_cons (zm_set 4 sc__law_lengths.nd (em_c (cal__law_mixed T b) hr (am_cons (em_var 3) (am_cons em_int am_nil)))) (zms_one (zm_if (tm_cmp om_gt (em_op om_mod (em_var 4) em_int) em_int) (zms_cons (zm_set 5 sc__law_lengths.nd (em_ix (em_lst (am_cons (em_op om_mod (em_var 3) (em_op om_add (em_op om_pow em_int em_int) em_int)) (am_cons (em_op om_mod (em_op om_div (em_var 4) em_int) em_int) am_nil))) (em_op om_mod (em_var 4) em_int))) (zms_cons (zm_set 6 sc__law_lengths.nd (em_op om_add (em_var 5) (em_op om_mod (em_op om_mul (em_op om_mul (em_var 4) (em_var 4)) em_int) (em_op om_sub (em_op om_add (em_op om_pow em_int em_int) em_int) (em_var 5))))) (zms_one (zm_expr (em_append (em_var 2) (em_tup (am_cons (em_op om_mod (em_op om_div (em_var 4) em_int) (em_var 1)) (am_cons (em_var 5) (am_cons (em_var 6) am_nil))))))))) zms_nil)))) (zms_one (zm_ret (em_var 2))))
theorem fn_law {f : Addr} {fd : FuncData} (F : Fun K "law" "law" s_law f fd) : FnOk P w K mg b CX0 4 f fd ["_law_script"] (spM K 1 F_law) := by
  unfold F_law; exact fn_okN (k := 3) (body := B_law) F sc_law rfl rfl fun cdv A outer s H E hr => by (unfold B_law L_law_1 E_law_0; exact zms_cons (zm_set 1 sc_law.nd (em_op om_add em_int (em_op om_mod (em_c (cal__law_cell_at T b) hr (am_cons (em_var 0) (am_cons em_int am_nil))) em_int))) (zms_cons (zm_set 2 sc_law.nd (em_c (cal__law_net T b) hr (am_cons (em_c (cal__law_sets T b) hr (am_cons (em_var 0) (am_cons (em_var 1) am_nil))) (am_cons (em_var 1) am_nil)))) (zms_cons (zm_set 3 sc_law.nd (em_c (cal__law_lengths T b) hr (am_cons (em_var 0) (am_cons (em_var 1) am_nil)))) (zms_cons (zm_set 4 sc_law.nd (em_lst (am_cons (em_comp (Nc := ["_law_row"]) rfl (im_list (em_var 2)) (by decide +kernel) rfl (by decide +kernel) (by rfl) (by exact trivial) (fun _ _ _ _ => gm_name 0 (show (["_law_row"] : List Str).Nodup by decide +kernel)) (fun _ _ _ _ => cm_nil) (fun _ _ _ _ => em_list1 rfl T.z_list (em_var 0))) (am_cons (em_list1 rfl T.z_list (em_var 3)) am_nil)))) (zms_cons (zm_set 5 sc_law.nd (em_c (cal_grain T b) hr (am_cons (em_var 1) am_nil))) (zms_cons (zm_if (WM.tm (wm_or (tm_not (tm_val (em_c (cal__law_whole T b) hr (am_cons (em_var 5) am_nil)))) (wm_or1 (tm_cmp (om_neX hr.units) (em_var 5) (em_op om_add (em_op om_mul em_int (em_var 1)) em_int))))) (zms_one (zm_ret em_bl)) zms_nil) (zms_cons (zm_set 6 sc_law.nd (em_c (cal_bounds T b) hr (am_cons (em_ix (em_var 4) em_int) (am_cons (em_ix (em_var 4) em_int) am_nil)))) (zms_cons (zm_if (WM.tm (wm_or (tm_cmp (om_neX hr.units) (em_var 4) (em_lst (am_cons (em_var 2) (am_cons (em_var 3) am_nil)))) (wm_or1 (tm_not (tm_val (em_isi rfl T.z_isinstance rfl T.z_list PyProof.Rows.boot_list (by decide) (em_var 6))))))) (zms_one (zm_ret em_bl)) zms_nil) (zms_cons (zm_for PassesOwn.never rfl (im_list (em_var 6)) (gm_name 7 sc_law.nd) (zms_cons (zm_if (WM.tm (wm_or (tm_not (tm_val (em_isi rfl T.z_isinstance rfl T.z_tuple PyProof.Rows.boot_tuple (by decide) (em_var 7)))) (wm_or1 (tm_cmp (om_neX hr.units) (em_len rfl T.z_len (em_var 7)) em_int)))) (zms_one (zm_ret em_bl)) zms_nil) (zms_one (zm_if (WM.tm (wm_or (tm_not (tm_val (em_c (cal__law_whole T b) hr (am_cons (em_ix (em_var 7) em_int) am_nil)))) (wm_or (tm_not (tm_val (em_c (cal__law_whole T b) hr (am_cons (em_ix (em_var 7) em_int) am_nil)))) (wm_or1 (tm_not (tm_val (em_c (cal__law_whole T b) hr (am_cons (em_ix (em_var 7) em_int) am_nil)))))))) (zms_one (zm_ret em_bl)) zms_nil)))) (zms_one (zm_ret (em_seteq rfl hr.units rfl T.z_set (em_var 6) (em_c (cal__law_due T b) hr (am_cons (em_var 2) (am_cons (em_var 3) am_nil)))))))))))))))
end
end G
namespace BF
abbrev Bd := Nat × Nat × Int
end BF
namespace G
open PySem PySem.Spec PyProof.Rows L2 SM BF
def trip (e : Bd) : Dt := .tup [.int (e.1 : Nat), .int (e.2.1 : Nat), .int e.2.2]
end G
namespace G
open PySem PySem.Spec PyProof.Rows L2 SM
def pairsN : List (Nat × Nat) := [(0, 0), (0, 1), (0, 2), (0, 3), (0, 4), (1, 2), (1, 3), (1, 4), (2, 2), (2, 3), (2, 4), (3, 4), (4, 4)]
def pr (p : Nat × Nat) : Dt := .tup [.int (p.1 : Int), .int (p.2 : Int)]
end G
namespace G
open PySem PySem.Spec PyProof.Rows L2 SM
def mkS (n : Nat) (p : Nat → Bool) : Nat := match n with
  | 0 => 0
  | n + 1 => mkS n p + (if p n = true then 2 ^ n else 0)
theorem mkS_lt (p : Nat → Bool) : ∀ n, mkS n p < 2 ^ n
  | 0 => by simp [mkS]
  | n + 1 => by
    have := mkS_lt p n
    simp only [mkS]
    rw [Nat.pow_succ]
    split <;> omega
theorem mkS_bit (p : Nat → Bool) : ∀ n k, (mkS n p).testBit k = (decide (k < n) && p k)
  | 0, k => by simp [mkS]
  | n + 1, k => by
    have ih := mkS_bit p n k
    have lt := mkS_lt p n
    simp only [mkS]
    by_cases hp : p n = true
    · rw [if_pos hp, Nat.add_comm]
      rcases Nat.lt_trichotomy k n with h | h | h
      · rw [Nat.testBit_two_pow_add_gt h, ih]
        simp [h, Nat.lt_succ_of_lt h]
      · subst h
        rw [Nat.testBit_two_pow_add_eq, ih]
        simp [hp]
      · have : 2 ^ n + mkS n p < 2 ^ k := Nat.lt_of_lt_of_le (show 2 ^ n + mkS n p < 2 ^ (n + 1) by rw [Nat.pow_succ]; omega) (Nat.pow_le_pow_right (by decide) h)
        rw [Nat.testBit_lt_two_pow this]
        have : ¬ k < n + 1 := by omega
        simp [this]
    · rw [if_neg hp, Nat.add_zero, ih]
      by_cases h : k = n
      · subst h
        simp [hp]
      · have : (k < n + 1) = (k < n) := by apply propext; omega
        simp [this]
theorem bit_ext {a b : Nat} (ha : a < 8192) (hb : b < 8192) (h : ∀ k < 13, a.testBit k = b.testBit k) : a = b := by
  apply Nat.eq_of_testBit_eq
  intro k
  by_cases hk : k < 13
  · exact h k hk
  · have hp : 8192 ≤ 2 ^ k := by
      have := Nat.pow_le_pow_right (show 1 ≤ 2 by decide) (show 13 ≤ k by omega)
      exact this
    rw [Nat.testBit_lt_two_pow (by omega), Nat.testBit_lt_two_pow (by omega)]
def mk (p : Nat → Bool) : Nat := mkS 13 p
theorem mk_lt (p : Nat → Bool) : mk p < 8192 := mkS_lt p 13
theorem mk_bit (p : Nat → Bool) {k : Nat} (hk : k < 13) : (mk p).testBit k = p k := by
  unfold mk
  rw [mkS_bit]
  simp [hk]
def waysL (m : Nat) : List Nat := (List.range 13).filter m.testBit
theorem mem_ways {m k : Nat} : k ∈ waysL m ↔ k < 13 ∧ m.testBit k = true := by simp [waysL]
theorem sum_filter (g : Nat → Int) (p : Nat → Bool) (xs : List Nat) : ((xs.filter p).map g).sum = (xs.map fun k => if p k = true then g k else 0).sum := by
  induction xs with
  | nil => rfl
  | cons x xs ih => by_cases h : p x = true <;> simp [h, ih]
theorem sum_turn (p : Nat → Bool) : ((((List.range 13).filter p).map fun k => (2 : Int) ^ (12 - k))).sum = (mk (fun j => p (12 - j)) : Int) := by
  rw [sum_filter]
  simp only [mk, mkS, List.range, List.range.loop, List.map_cons, List.map_nil, List.sum_cons, List.sum_nil, Nat.reduceSub]
  generalize p 0 = a0; generalize p 1 = a1; generalize p 2 = a2; generalize p 3 = a3; generalize p 4 = a4; generalize p 5 = a5; generalize p 6 = a6
  generalize p 7 = a7; generalize p 8 = a8; generalize p 9 = a9; generalize p 10 = a10; generalize p 11 = a11; generalize p 12 = a12
  have f : ∀ (b : Bool) (k : Nat), (if b = true then (2 : Int) ^ k else 0) = ((if b = true then 2 ^ k else 0 : Nat) : Int) := by intro b k; cases b <;> simp
  simp only [f]
  omega
def turnS (m : Nat) : Nat := mk fun j => m.testBit (12 - j)
theorem turn_lt (m : Nat) : turnS m < 8192 := mk_lt _
theorem turn_bit (m : Nat) {k : Nat} (hk : k < 13) : (turnS m).testBit k = m.testBit (12 - k) := mk_bit _ hk
theorem turn_turn {m : Nat} (hm : m < 8192) : turnS (turnS m) = m := bit_ext (turn_lt _) hm fun k hk => by
  rw [turn_bit _ hk, turn_bit _ (by omega)]
  congr 1
  omega
theorem bAnd_nat (a b : Nat) : Builtin.bitAnd (a : Int) (b : Int) = ((a &&& b : Nat) : Int) := by
  unfold Builtin.bitAnd
  simp
theorem bOr_nat (a b : Nat) : Builtin.bitOr (a : Int) (b : Int) = ((a ||| b : Nat) : Int) := by
  unfold Builtin.bitOr Builtin.bitAnd Builtin.bitNot
  have h1 : decide (0 ≤ -(a : Int) - 1) = false := by simp; omega
  have h2 : decide (0 ≤ -(b : Int) - 1) = false := by simp; omega
  have e : ∀ x : Int, -(-x - 1) - 1 = x := by intro x; omega
  simp only [h1, h2, e]
  simp
theorem bit_at (m k : Nat) : decide (Builtin.bitAnd ((m : Int) / 2 ^ k) 1 = 1) = m.testBit k := by
  have e : ((m : Int) / 2 ^ k) = ((m / 2 ^ k : Nat) : Int) := by simp
  rw [e]
  have := bAnd_nat (m / 2 ^ k) 1
  simp only [Int.cast_ofNat_Int] at this
  rw [this, Nat.testBit_eq_decide_div_mod_eq]
  have e2 : (m / 2 ^ k &&& 1) = m / 2 ^ k % 2 := Nat.and_one_is_mod _
  rw [e2]
  congr 1
  apply propext
  omega
theorem cShl {k : Nat} (hk : k < 13) : CPow 1 (k : Int) := ⟨by omega, by omega, by decide⟩
theorem r13 (h : HI) : r1K (.int 13, h) = some (.vals ((List.range 13).map fun (k : Nat) => Dt.int (k : Int)), h) := r1K_int (by decide) (by decide)
theorem l13 {α : Type} (f : Nat → α) : ((List.range 13).map f).length < sizeLine := by rw [List.length_map, List.length_range]; decide
theorem lt13 {i : Nat} (h : i < 13) : i = 0 ∨ i = 1 ∨ i = 2 ∨ i = 3 ∨ i = 4 ∨ i = 5 ∨ i = 6 ∨ i = 7 ∨ i = 8 ∨ i = 9 ∨ i = 10 ∨ i = 11 ∨ i = 12 := by
  revert i; decide
end G
namespace G
open PySem PySem.Spec PyProof.Rows L2 SM
end G
namespace G
open PySem PySem.Spec PyProof.Rows L2 SM
theorem e_ways_in (m : Nat) (h : HI) : F_ways_in [.int m] h = some (.lst ((waysL m).map fun (k : Nat) => Dt.int (k : Int)), h) := by
  have ec := compV_on (te := E_ways_in_0) (tc := K_ways_in_1) (i := 0) (fun (k : Nat) => Dt.int (k : Int)) m.testBit (fun (k : Nat) => Dt.int (k : Int)) h (List.range 13) [none, some (.int m)] fun k _ => ⟨by
    simp [K_ways_in_1, o_shr, bit_at], fun _ => by simp [E_ways_in_0]⟩
  simp [F_ways_in, B_ways_in, r13, compK_vals _ _ _ (l13 _), ec, waysL]
end G
namespace G
open PySem PySem.Spec PyProof.Rows L2 SM BF
def pbs (p q : Nat) (a mx mn : Int) : List Bd := (if mx ≤ a then [(p, q, if mx < a then -1 else 0)] else []) ++ (if a ≤ mn then [(q, p, if a < mn then -1 else 0)] else [])
theorem e_point_bounds (p q : Nat) (a : Int) {seen : List Int} (hs : seen ≠ []) (h : HI) : F_point_bounds [.int (p : Nat), .int (q : Nat), .int a, .lst (seen.map Dt.int)] h = some (.ref h.length, h ++ [.lst ((pbs p q a (maxL seen) (minL seen)).map trip)]) := by
  have e1 := fun h => f_max (h := h) hs
  have em := fun h => f_min (h := h) hs
  generalize maxL seen = mx at e1
  generalize minL seen = mn at em
  have ap := fun (l : LI) (xs : List Bd) (g : RE) (d : Bd) (c : xs.length < 5) (eg : g l (h ++ [.lst (xs.map trip)]) = some (trip d, h ++ [.lst (xs.map trip)])) =>
    appK_ref (h := h ++ [.lst (xs.map trip)]) (l := l) (n := h.length) (ys := xs.map trip) (xs := xs.map trip) (d := trip d) (by simp) eg (by simp) (by simp; omega)
  have es : ∀ (xs : List Bd) (d : Bd), (h ++ [Ob.lst (xs.map trip)]).set h.length (.lst (xs.map trip ++ [trip d])) = h ++ [.lst ((xs ++ [d]).map trip)] := fun xs d => by simp
  have first : ∀ l2 : LI, l2 = [some (.int (p : Nat)), some (.int (q : Nat)), some (.int a), some (.lst (seen.map Dt.int)), some (.ref h.length)] → sIf (tB' (e2 oLe (eF1 fMax (eV 3)) (eV 2))) (sDrop (eAppend (eV 4) (eTup (aCons (eV 0) (aCons (eV 1) (aCons (vIf (tB' (e2 oLt (eF1 fMax (eV 3)) (eV 2))) (uNeg (eC (.int 1))) (eC (.int 0))) (aNil))))))) (sNil) l2 (h ++ [.lst []]) =
      some (.nx l2 (h ++ [.lst ((if mx ≤ a then [((p, q, if mx < a then -1 else 0) : Bd)] else []).map trip)])) := fun l2 hl2 => by
    subst hl2
    by_cases c1 : mx ≤ a
    · have g := ap [some (.int (p : Nat)), some (.int (q : Nat)), some (.int a), some (.lst (seen.map Dt.int)), some (.ref h.length)] [] (eTup (aCons (eV 0) (aCons (eV 1) (aCons (vIf (tB' (e2 oLt (eF1 fMax (eV 3)) (eV 2))) (uNeg (eC (.int 1))) (eC (.int 0))) (aNil))))) (p, q, if mx < a then -1 else 0) (by simp) (by
        by_cases c2 : mx < a <;> simp [e1, c2, trip])
      rw [es] at g
      simp only [List.map_nil, List.nil_append] at g
      simp only [q_sIf, q_tB, q_e2, q_F1, q_eV, List.getElem?_cons_zero, List.getElem?_cons_succ, getV_some, bnd_some, e1, o_le, tbK_bl, c1, decide_true, if_true, q_sDrop, q_append, g]
    · simp [e1, c1]
  have second : ∀ (xs : List Bd), xs.length < 5 → sIf (tB' (e2 oGe (eF1 fMin (eV 3)) (eV 2))) (sDrop (eAppend (eV 4) (eTup (aCons (eV 1) (aCons (eV 0) (aCons (vIf (tB' (e2 oGt (eF1 fMin (eV 3)) (eV 2))) (uNeg (eC (.int 1))) (eC (.int 0))) (aNil))))))) (sNil) [some (.int (p : Nat)), some (.int (q : Nat)), some (.int a), some (.lst (seen.map Dt.int)), some (.ref h.length)] (h ++ [.lst (xs.map trip)]) =
      some (.nx [some (.int (p : Nat)), some (.int (q : Nat)), some (.int a), some (.lst (seen.map Dt.int)), some (.ref h.length)] (h ++ [.lst ((xs ++ if a ≤ mn then [((q, p, if a < mn then -1 else 0) : Bd)] else []).map trip)])) := fun xs hx => by
    by_cases c1 : a ≤ mn
    · have g := ap [some (.int (p : Nat)), some (.int (q : Nat)), some (.int a), some (.lst (seen.map Dt.int)), some (.ref h.length)] xs (eTup (aCons (eV 1) (aCons (eV 0) (aCons (vIf (tB' (e2 oGt (eF1 fMin (eV 3)) (eV 2))) (uNeg (eC (.int 1))) (eC (.int 0))) (aNil))))) (q, p, if a < mn then -1 else 0) hx (by
        by_cases c2 : a < mn <;> simp [em, c2, trip])
      rw [es] at g
      simp only [q_sIf, q_tB, q_e2, q_F1, q_eV, List.getElem?_cons_zero, List.getElem?_cons_succ, getV_some, bnd_some, em, o_ge, tbK_bl, c1, decide_true, if_true, q_sDrop, q_append, g]
    · simp [em, c1]
  have f1 := first _ rfl
  have f2 := second (if mx ≤ a then [((p, q, if mx < a then -1 else 0) : Bd)] else []) (by split <;> simp)
  unfold pbs
  simp only [F_point_bounds, B_point_bounds, q_fn, List.length_cons, List.length_nil, if_true, List.map_cons, List.map_nil, Nat.reduceAdd, Nat.reduceSub, List.replicate, List.cons_append, List.nil_append, q_sSeq, q_sSet, q_eNew, q_aNil, bnd_some, Nat.zero_le, size_lit, List.set_cons_succ, List.set_cons_zero, sqK_nx, f1, f2, q_sRet, q_eV, List.getElem?_cons_zero, List.getElem?_cons_succ, getV_some, finK_rt]
end G
namespace G
open PySem PySem.Spec PyProof.Rows L2 SM BF
def pz (w : Nat) : Nat × Nat := pairsN.getD w (0, 0)
theorem e_zones {w : Nat} (hw : w < 13) (h : HI) : F_zones [.int w] h = some (pr (pz w), h) := by
  rcases lt13 hw with rfl | rfl | rfl | rfl | rfl | rfl | rfl | rfl | rfl | rfl | rfl | rfl | rfl <;> kernel_rfl
def zs (side w : Nat) : Int := if side = 0 then ((pz w).1 : Int) else ((pz w).2 : Int)
def seenL (side m : Nat) : List Int := (waysL m).map (zs side)
theorem seen_ne {side m : Nat} (hm : waysL m ≠ []) : seenL side m ≠ [] := by
  unfold seenL
  intro z
  exact hm (List.map_eq_nil_iff.mp z)
def sideB (i j side m : Nat) : List Bd := pbs (2 * i + side) (2 * j) 1 (maxL (seenL side m)) (minL (seenL side m)) ++ pbs (2 * i + side) (2 * j + 1) 3 (maxL (seenL side m)) (minL (seenL side m))
theorem one_len {c : Prop} [Decidable c] (x : Bd) : (if c then [x] else []).length ≤ 1 := by split <;> simp
theorem pbs_len (p q : Nat) (a mx mn : Int) : (pbs p q a mx mn).length ≤ 2 := by
  unfold pbs
  rw [List.length_append]
  exact Nat.add_le_add (one_len _) (one_len _)
theorem ext_at {h : HI} {F G : List Bd} {rest : List Ob} {l : LI} {g : RE} (c : F.length + G.length ≤ 100000) (eg : g l (h ++ .lst (F.map trip) :: rest) = some (.ref (h ++ .lst (F.map trip) :: rest).length, (h ++ .lst (F.map trip) :: rest) ++ [.lst (G.map trip)])) :
    extK g l (.ref h.length, h ++ .lst (F.map trip) :: rest) = some (.non, h ++ .lst ((F ++ G).map trip) :: (rest ++ [.lst (G.map trip)])) := by
  have e0 : (h ++ Ob.lst (F.map trip) :: rest)[h.length]? = some (.lst (F.map trip)) := by simp
  have e1 : ((h ++ Ob.lst (F.map trip) :: rest) ++ [Ob.lst (G.map trip)])[h.length]? = some (.lst (F.map trip)) := by
    rw [List.getElem?_append_left (by simp)]
    exact e0
  have e2 : ((h ++ Ob.lst (F.map trip) :: rest) ++ [Ob.lst (G.map trip)])[(h ++ Ob.lst (F.map trip) :: rest).length]? = some (.lst (G.map trip)) := by
    rw [List.getElem?_append_right (Nat.le_refl _), Nat.sub_self]
    rfl
  rw [extK_ref e0 eg e1 e2 (by simp; omega)]
  simp
theorem side_body (i j m side : Nat) (hs : side = 0 ∨ side = 1) (hi : i ≤ 1000) (hj : j ≤ 1000) (hm : waysL m ≠ []) (h : HI) (F : List Bd) (hF : F.length ≤ 1000) (rest : List Ob) (y5 : Option Dt) : ∃ y rest', L_set_bounds_1 [some (.int (i : Nat)), some (.int (m : Nat)), some (.int (j : Nat)), some (.ref h.length), some (.int (side : Nat)), y5] (h ++ .lst (F.map trip) :: rest) =
    some (.nx [some (.int (i : Nat)), some (.int (m : Nat)), some (.int (j : Nat)), some (.ref h.length), some (.int (side : Nat)), y] (h ++ .lst ((F ++ sideB i j side m).map trip) :: rest')) := by
  have ew := fun h => e_ways_in m h
  have wl : ∀ k ∈ waysL m, k < 13 := fun k hk => List.mem_range.mp (List.mem_filter.mp hk).1
  have ln : ((waysL m).map fun (k : Nat) => Dt.int (k : Int)).length < sizeLine := by
    have : (waysL m).length ≤ 13 := Nat.le_trans (List.length_filter_le _ _) (by simp)
    simp
    omega
  have ec := compV_all (te := E_set_bounds_0) (tc := tTrue) (i := 0) (fun (k : Nat) => Dt.int (k : Int)) (fun k => Dt.int (zs side k)) (h ++ .lst (F.map trip) :: rest) (waysL m) [none, some (.int (side : Nat))] (by
    intro k hk
    have ez := e_zones (wl k hk) (h ++ .lst (F.map trip) :: rest)
    refine ⟨by simp, ?_⟩
    rcases hs with rfl | rfl
    · simp [E_set_bounds_0, ez, pr, zs]
    · simp [E_set_bounds_0, ez, pr, zs])
  have ek := compK_vals (l := [none, some (.int (side : Nat))]) (h := h ++ .lst (F.map trip) :: rest) (gSet 0) tTrue E_set_bounds_0 ln
  rw [ec] at ek
  have sl : (waysL m).map (fun k => Dt.int (zs side k)) = (seenL side m).map Dt.int := by unfold seenL; rw [List.map_map]; rfl
  rw [sl] at ek
  have hp := fun h => e_point_bounds (2 * i + side) (2 * j) 1 (seen_ne (side := side) hm) h
  have hq := fun h => e_point_bounds (2 * i + side) (2 * j + 1) 3 (seen_ne (side := side) hm) h
  have pl : ∀ p q a mx mn, (pbs p q a mx mn).length ≤ 2 := pbs_len
  have u := fun (i : Int) (h : HI) => o_mul (h := h) (i := 2) (j := i) (Or.inl ⟨by decide, by decide⟩)
  have ca : (2 : Int) * (i : Int) + (side : Int) = ((2 * i + side : Nat) : Int) := by omega
  have cb : (2 : Int) * (j : Int) = ((2 * j : Nat) : Int) := by omega
  have cc : ((2 * j : Nat) : Int) + 1 = ((2 * j + 1 : Nat) : Int) := by omega
  have x1 := ext_at (h := h) (F := F) (G := pbs (2 * i + side) (2 * j) 1 (maxL (seenL side m)) (minL (seenL side m))) (rest := rest) (l := [some (.int (i : Nat)), some (.int (m : Nat)), some (.int (j : Nat)), some (.ref h.length), some (.int (side : Nat)), some (.lst ((seenL side m).map Dt.int))])
    (g := eCall F_point_bounds [] (aCons (e2 oAdd (e2 oMul (eC (.int 2)) (eV 0)) (eV 4)) (aCons (e2 oMul (eC (.int 2)) (eV 2)) (aCons (eC (.int 1)) (aCons (eV 5) (aNil)))))) (by have := pl (2 * i + side) (2 * j) 1 (maxL (seenL side m)) (minL (seenL side m)); omega) (by
      simp only [q_call, q_aCons, q_aNil, q_e2, q_eC, q_eV, List.getElem?_cons_zero, List.getElem?_cons_succ, getV_some, bnd_some, u, o_add, ca, cb, List.append_nil]
      exact hp _)
  have x2 := ext_at (h := h) (F := F ++ pbs (2 * i + side) (2 * j) 1 (maxL (seenL side m)) (minL (seenL side m))) (G := pbs (2 * i + side) (2 * j + 1) 3 (maxL (seenL side m)) (minL (seenL side m))) (rest := rest ++ [.lst ((pbs (2 * i + side) (2 * j) 1 (maxL (seenL side m)) (minL (seenL side m))).map trip)]) (l := [some (.int (i : Nat)), some (.int (m : Nat)), some (.int (j : Nat)), some (.ref h.length), some (.int (side : Nat)), some (.lst ((seenL side m).map Dt.int))])
    (g := eCall F_point_bounds [] (aCons (e2 oAdd (e2 oMul (eC (.int 2)) (eV 0)) (eV 4)) (aCons (e2 oAdd (e2 oMul (eC (.int 2)) (eV 2)) (eC (.int 1))) (aCons (eC (.int 3)) (aCons (eV 5) (aNil)))))) (by have := pl (2 * i + side) (2 * j) 1 (maxL (seenL side m)) (minL (seenL side m)); have := pl (2 * i + side) (2 * j + 1) 3 (maxL (seenL side m)) (minL (seenL side m)); simp; omega) (by
      simp only [q_call, q_aCons, q_aNil, q_e2, q_eC, q_eV, List.getElem?_cons_zero, List.getElem?_cons_succ, getV_some, bnd_some, u, o_add, ca, cb, cc, List.append_nil]
      exact hq _)
  refine ⟨some (.lst ((seenL side m).map Dt.int)), rest ++ [.lst ((pbs (2 * i + side) (2 * j) 1 (maxL (seenL side m)) (minL (seenL side m))).map trip)] ++ [.lst ((pbs (2 * i + side) (2 * j + 1) 3 (maxL (seenL side m)) (minL (seenL side m))).map trip)], ?_⟩
  unfold sideB
  rw [← List.append_assoc]
  simp only [L_set_bounds_1, q_sSeq, q_sSet, q_eComp, q_iLst, q_call, q_aCons, q_aNil, q_eV, List.getElem?_cons_zero, List.getElem?_cons_succ, getV_some, bnd_some, List.append_nil, ew, seqK_lst, cap_none, cap_some, cap_nil, Option.join, Option.bind_some, id, ek, List.set_cons_succ, List.set_cons_zero, sqK_nx, q_sDrop, q_extend, x1, x2]
theorem sideB_len (i j side m : Nat) : (sideB i j side m).length ≤ 4 := by
  unfold sideB
  rw [List.length_append]
  have h1 := pbs_len (2 * i + side) (2 * j) 1 (maxL (seenL side m)) (minL (seenL side m))
  have h2 := pbs_len (2 * i + side) (2 * j + 1) 3 (maxL (seenL side m)) (minL (seenL side m))
  omega
def setB (i m j : Nat) : List Bd := sideB i j 0 m ++ sideB i j 1 m
theorem e_set_bounds (i m j : Nat) (hi : i ≤ 1000) (hj : j ≤ 1000) (hm : waysL m ≠ []) (h : HI) : ∃ rest, F_set_bounds [.int (i : Nat), .int (m : Nat), .int (j : Nat)] h = some (.ref h.length, h ++ .lst ((setB i m j).map trip) :: rest) := by
  obtain ⟨y1, r1, e1⟩ := side_body i j m 0 (.inl rfl) hi hj hm h [] (by simp) [] none
  obtain ⟨y2, r2, e2⟩ := side_body i j m 1 (.inr rfl) hi hj hm h (sideB i j 0 m) (by have := sideB_len i j 0 m; omega) r1 y1
  have er : r1K (.int 2, h ++ [.lst []]) = some (.vals [.int 0, .int 1], h ++ [.lst []]) := by
    rw [r1K_int (by decide) (by decide)]
    rfl
  refine ⟨r2, ?_⟩
  have e1' : L_set_bounds_1 [some (.int (i : Nat)), some (.int (m : Nat)), some (.int (j : Nat)), some (.ref h.length), some (.int 0), none] (h ++ [.lst []]) = some (.nx [some (.int (i : Nat)), some (.int (m : Nat)), some (.int (j : Nat)), some (.ref h.length), some (.int 0), y1] (h ++ .lst ((sideB i j 0 m).map trip) :: r1)) := e1
  have e2' : L_set_bounds_1 [some (.int (i : Nat)), some (.int (m : Nat)), some (.int (j : Nat)), some (.ref h.length), some (.int 1), y1] (h ++ .lst ((sideB i j 0 m).map trip) :: r1) = some (.nx [some (.int (i : Nat)), some (.int (m : Nat)), some (.int (j : Nat)), some (.ref h.length), some (.int 1), y2] (h ++ .lst ((setB i m j).map trip) :: r2)) := e2
  simp [F_set_bounds, B_set_bounds, er, walkL, e1', e2']
theorem e_length_bounds (i : Nat) (lo hi : Int) {g : Nat} (hg : g ≤ 1000) (h : HI) : F_length_bounds [.tup [.int (i : Nat), .int lo, .int hi], .int (g : Nat)] h = some (.ref h.length, h ++ [.lst (([(2 * i, 2 * i + 1, -lo * g), (2 * i + 1, 2 * i, hi * g)] : List Bd).map trip)]) := by
  have u := fun (h : HI) => o_mul (h := h) (i := 2) (j := (i : Int)) (Or.inl ⟨by decide, by decide⟩)
  have v := fun (x : Int) (h : HI) => o_mul (h := h) (i := x) (j := (g : Int)) (Or.inr ⟨by omega, by omega⟩)
  simp [F_length_bounds, B_length_bounds, u, v, trip]
end G
namespace G
open PySem PySem.Spec PyProof.Rows L2 SM
def pairD (p : Nat × Nat) : Dt := .tup [.int (p.1 : Nat), .int (p.2 : Nat)]
def pairsTo (c : Nat) (n : Nat) : List (Nat × Nat) := (List.range n).flatMap fun i => (List.range (c - i - 1)).map fun k => (i, i + 1 + k)
def pairsL (c : Nat) : List (Nat × Nat) := pairsTo c c
theorem mem_pairs {c : Nat} {p : Nat × Nat} : p ∈ pairsL c ↔ p.1 < p.2 ∧ p.2 < c := by
  obtain ⟨i, j⟩ := p
  unfold pairsL pairsTo
  simp only [List.mem_flatMap, List.mem_range, List.mem_map, Prod.mk.injEq]
  constructor
  · rintro ⟨a, ha, k, hk, rfl, rfl⟩
    omega
  · rintro ⟨h1, h2⟩
    exact ⟨i, by omega, j - i - 1, by omega, rfl, by omega⟩
theorem pairs_len (c n : Nat) : (pairsTo c n).length ≤ n * c := by
  induction n with
  | zero => simp [pairsTo]
  | succ n ih =>
    have : pairsTo c (n + 1) = pairsTo c n ++ (List.range (c - n - 1)).map fun k => (n, n + 1 + k) := by
      unfold pairsTo
      rw [List.range_succ, List.flatMap_append]
      simp
    rw [this, List.length_append, List.length_map, List.length_range, Nat.succ_mul]
    omega
end G
namespace G
open PySem PySem.Spec PyProof.Rows L2 SM
theorem e_pairs_of {c : Nat} (hc : c ≤ 1000) (h : HI) : F_pairs_of [.int (c : Nat)] h = some (.ref h.length, h ++ [.lst ((pairsL c).map pairD)]) := by
  have er := r1K_int (h := h ++ [.lst []]) (show (-(2 ^ 62) : Int) ≤ (c : Int) by omega) (show (c : Int) < 2 ^ 62 by omega)
  simp only [Int.toNat_natCast] at er
  have hcc : c * c ≤ 1000 * 1000 := Nat.mul_le_mul hc hc
  obtain ⟨l', h', e, ⟨y, z, rfl⟩, rfl⟩ := walk_range (i := 2) (body := L_pairs_of_1) (fun (k : Nat) => Dt.int (k : Int)) (fun (n : Nat) l h' => (∃ y z, l = [some (.int (c : Nat)), some (.ref h.length), y, z]) ∧ h' = h ++ [.lst ((pairsTo c n).map pairD)]) c (by
    rintro n hn l h1 ⟨⟨y, z, rfl⟩, rfl⟩
    have hl := pairs_len c n
    have hnc : n * c ≤ c * c := Nat.mul_le_mul_right _ (by omega)
    obtain ⟨l', h', e, ⟨y, rfl⟩, rfl⟩ := walk_range (i := 3) (body := L_pairs_of_0) (fun (k : Nat) => Dt.int ((n : Int) + 1 + (k : Int))) (fun (m : Nat) l h' => (∃ y, l = [some (.int (c : Nat)), some (.ref h.length), some (.int (n : Nat)), y]) ∧ h' = h ++ [.lst ((pairsTo c n ++ (List.range m).map fun k => (n, n + 1 + k)).map pairD)]) (c - n - 1) (by
      rintro m hm l h1 ⟨⟨y, rfl⟩, rfl⟩
      refine ⟨.nx [some (.int (c : Nat)), some (.ref h.length), some (.int (n : Nat)), some (.int ((n : Int) + 1 + (m : Int)))] (h ++ [.lst ((pairsTo c n ++ (List.range (m + 1)).map fun k => (n, n + 1 + k)).map pairD)]), ?_, ⟨_, rfl⟩, rfl⟩
      have ea := fun (l : LI) (g : RE) (d : Dt) (eg : g l (h ++ [.lst ((pairsTo c n ++ (List.range m).map fun k => (n, n + 1 + k)).map pairD)]) = some (d, h ++ [.lst ((pairsTo c n ++ (List.range m).map fun k => (n, n + 1 + k)).map pairD)])) =>
        appK_ref (h := h ++ [.lst ((pairsTo c n ++ (List.range m).map fun k => (n, n + 1 + k)).map pairD)]) (l := l) (n := h.length) (ys := (pairsTo c n ++ (List.range m).map fun k => (n, n + 1 + k)).map pairD) (xs := (pairsTo c n ++ (List.range m).map fun k => (n, n + 1 + k)).map pairD) (by simp) eg (by simp) (by simp; omega)
      simp only [L_pairs_of_0, q_sDrop, q_append, q_eV, List.set_cons_zero, List.set_cons_succ, List.getElem?_cons_zero, List.getElem?_cons_succ, getV_some, bnd_some]
      rw [ea _ _ (pairD (n, n + 1 + m))]
      · simp only [bnd_some]
        rw [show ∀ (o o' : Ob), (h ++ [o]).set h.length o' = h ++ [o'] by simp]
        simp [List.range_succ]
      · simp [pairD]) [some (.int (c : Nat)), some (.ref h.length), some (.int (n : Nat)), z] (h ++ [.lst ((pairsTo c n).map pairD)]) ⟨⟨z, rfl⟩, by simp⟩
    have er := r2K_int (h := h ++ [.lst ((pairsTo c n).map pairD)]) (i := (n : Int) + 1) (j := (c : Int)) (by omega) (by omega) (by omega) (by omega)
    rw [show ((c : Int) - ((n : Int) + 1)).toNat = c - n - 1 by omega] at er
    have ep : pairsTo c (n + 1) = pairsTo c n ++ (List.range (c - n - 1)).map fun k => (n, n + 1 + k) := by
      unfold pairsTo
      rw [List.range_succ, List.flatMap_append]
      simp
    refine ⟨.nx [some (.int (c : Nat)), some (.ref h.length), some (.int (n : Nat)), y] (h ++ [.lst ((pairsTo c (n + 1)).map pairD)]), ?_, ⟨_, _, rfl⟩, rfl⟩
    · simp only [L_pairs_of_1, q_sFor, q_iR2, q_e2, q_eV, q_eC, List.set_cons_zero, List.set_cons_succ, List.getElem?_cons_zero, List.getElem?_cons_succ, getV_some, bnd_some, o_add, er, forK_vals]
      rw [e, ep]) [some (.int (c : Nat)), some (.ref h.length), none, none] (h ++ [.lst []]) ⟨⟨none, none, rfl⟩, by simp [pairsTo]⟩
  simp only [F_pairs_of, B_pairs_of, q_fn, q_sSeq, q_sSet, q_eNew, q_aNil, List.map_cons, List.map_nil, List.cons_append, List.nil_append, List.length_cons, List.length_nil, if_true, bnd_some, sqK_nx, Nat.reduceAdd, Nat.reduceSub, List.replicate, List.set_cons_zero, List.set_cons_succ, q_sFor, q_iR1, q_eV, List.getElem?_cons_zero, List.getElem?_cons_succ, getV_some, er, forK_vals, size_lit, Nat.zero_le, e, q_sRet, finK_rt]
  rfl
end G
namespace G
open PySem PySem.Spec PyProof.Rows L2 SM BF
abbrev Ln := Nat × Int × Int
def lenD (x : Ln) : Dt := .tup [.int (x.1 : Nat), .int x.2.1, .int x.2.2]
def lenB (g : Nat) (x : Ln) : List Bd := [(2 * x.1, 2 * x.1 + 1, -x.2.1 * g), (2 * x.1 + 1, 2 * x.1, x.2.2 * g)]
def netV (c : Nat) (N : Nat → Nat → Nat) : List Dt := (List.range c).map fun i => .lst ((List.range c).map fun j => .int ((N i j : Nat) : Int))
def ownB (c : Nat) : List Bd := (List.range c).map fun i => (2 * i, 2 * i + 1, -1)
def bndsL (c : Nat) (N : Nat → Nat → Nat) (ls : List Ln) : List Bd := ownB c ++ ls.flatMap (lenB (2 * c + 1)) ++ (pairsL c).flatMap fun p => setB p.1 (N p.1 p.2) p.2
theorem ext_at2 {h : HI} {F G : List Bd} {rest rest2 : List Ob} {l : LI} {g : RE} (c : F.length + G.length ≤ 100000) (eg : g l (h ++ .lst (F.map trip) :: rest) = some (.ref (h ++ .lst (F.map trip) :: rest).length, (h ++ .lst (F.map trip) :: rest) ++ .lst (G.map trip) :: rest2)) :
    extK g l (.ref h.length, h ++ .lst (F.map trip) :: rest) = some (.non, h ++ .lst ((F ++ G).map trip) :: (rest ++ .lst (G.map trip) :: rest2)) := by
  have e0 : (h ++ Ob.lst (F.map trip) :: rest)[h.length]? = some (.lst (F.map trip)) := by simp
  have e1 : ((h ++ Ob.lst (F.map trip) :: rest) ++ Ob.lst (G.map trip) :: rest2)[h.length]? = some (.lst (F.map trip)) := by
    rw [List.getElem?_append_left (by simp)]
    exact e0
  have e2 : ((h ++ Ob.lst (F.map trip) :: rest) ++ Ob.lst (G.map trip) :: rest2)[(h ++ Ob.lst (F.map trip) :: rest).length]? = some (.lst (G.map trip)) := by
    rw [List.getElem?_append_right (Nat.le_refl _), Nat.sub_self]
    rfl
  rw [extK_ref e0 eg e1 e2 (by simp; omega)]
  simp
theorem flat_take {α β : Type} (f : α → List β) {xs : List α} {k : Nat} {x : α} (hx : xs[k]? = some x) : (xs.take (k + 1)).flatMap f = (xs.take k).flatMap f ++ f x := by
  rw [List.take_add_one, hx, List.flatMap_append]
  simp
theorem e_grain (c : Nat) (h : HI) : F_grain [.int (c : Nat)] h = some (.int ((2 * c + 1 : Nat) : Int), h) := by
  have u := fun (h : HI) => o_mul (h := h) (i := 2) (j := (c : Int)) (Or.inl ⟨by decide, by decide⟩)
  simp [F_grain, B_grain, u]
theorem len_loop {c a : Nat} (hc : c ≤ 100) (N : Nat → Nat → Nat) {ls : List Ln} (hl : ls.length ≤ 1000) {h : HI} (da : h[a]? = some (.lst (ls.map lenD))) (x4 : Option Dt) : ∃ y rest, forK (gSet 3) L_bounds_1 [some (.lst (netV c N)), some (.ref a), some (.ref h.length), none, x4] (.rf a, h ++ [.lst ((ownB c).map trip)]) =
    some (.nx [some (.lst (netV c N)), some (.ref a), some (.ref h.length), y, x4] (h ++ .lst ((ownB c ++ ls.flatMap (lenB (2 * c + 1))).map trip) :: rest)) := by
  have alt := (List.getElem?_eq_some_iff.mp da).1
  have nl : (netV c N).length = c := by simp [netV]
  have ol : (ownB c).length = c := by simp [ownB]
  obtain ⟨l', h', e, ⟨y, rfl⟩, rest, rfl, _⟩ := rf_at (i := 3) (n := a) (body := L_bounds_1) lenD (fun k l h' => (∃ y, l = [some (.lst (netV c N)), some (.ref a), some (.ref h.length), y, x4]) ∧ ∃ rest, h' = h ++ .lst ((ownB c ++ (ls.take k).flatMap (lenB (2 * c + 1))).map trip) :: rest ∧ ((ls.take k).flatMap (lenB (2 * c + 1))).length ≤ 2 * k) ls (by
    rintro k l h' ⟨_, rest, rfl, _⟩
    rw [List.getElem?_append_left alt]
    exact da) (by
    rintro k x hx l h' ⟨⟨y, rfl⟩, rest, rfl, hk⟩
    have kl : k < ls.length := (List.getElem?_eq_some_iff.mp hx).1
    have l2 : (lenB (2 * c + 1) x).length = 2 := rfl
    have eb := e_length_bounds x.1 x.2.1 x.2.2 (g := 2 * c + 1) (by omega) (h ++ .lst ((ownB c ++ (ls.take k).flatMap (lenB (2 * c + 1))).map trip) :: rest)
    have x1 := ext_at2 (h := h) (F := ownB c ++ (ls.take k).flatMap (lenB (2 * c + 1))) (G := lenB (2 * c + 1) x) (rest := rest) (rest2 := []) (l := [some (.lst (netV c N)), some (.ref a), some (.ref h.length), some (lenD x), x4]) (g := eCall F_length_bounds [] (aCons (eV 3) (aCons (eCall F_grain [] (aCons (eF1 fLen (eV 0)) (aNil))) (aNil)))) (by rw [List.length_append, ol, l2]; omega) (by
      simp only [q_call, q_aCons, q_aNil, q_F1, q_eV, List.getElem?_cons_zero, List.getElem?_cons_succ, getV_some, bnd_some, f_lenL, nl, e_grain, List.append_nil, lenD]
      exact eb)
    refine ⟨.nx [some (.lst (netV c N)), some (.ref a), some (.ref h.length), some (lenD x), x4] (h ++ .lst ((ownB c ++ (ls.take (k + 1)).flatMap (lenB (2 * c + 1))).map trip) :: (rest ++ [.lst ((lenB (2 * c + 1) x).map trip)])), ?_, ⟨some (lenD x), rfl⟩, rest ++ [.lst ((lenB (2 * c + 1) x).map trip)], rfl, ?_⟩
    · rw [flat_take _ hx, ← List.append_assoc]
      simp only [L_bounds_1, q_sDrop, q_extend, q_eV, List.set_cons_succ, List.set_cons_zero, List.getElem?_cons_zero, List.getElem?_cons_succ, getV_some, bnd_some, x1]
    · rw [flat_take _ hx, List.length_append, l2]
      omega) [some (.lst (netV c N)), some (.ref a), some (.ref h.length), none, x4] (h ++ [.lst ((ownB c).map trip)]) ⟨⟨_, rfl⟩, [], by simp, by simp⟩
  rw [List.take_length] at e
  exact ⟨y, rest, e⟩
theorem set_loop {c b : Nat} (hc : c ≤ 100) {N : Nat → Nat → Nat} (hN : ∀ i j, waysL (N i j) ≠ []) {h : HI} {F : List Bd} (hF : F.length ≤ 3000) {r0 : List Ob} (db : ∀ G : List Bd, ∀ r2 : List Ob, (h ++ .lst (G.map trip) :: (r0 ++ r2))[b]? = some (.lst ((pairsL c).map pairD))) (x1 y3 : Option Dt) (pl : (pairsL c).length ≤ 10000) (pin : ∀ p ∈ pairsL c, p.1 < c ∧ p.2 < c) :
    ∃ y rest, forK (gSet 4) L_bounds_2 [some (.lst (netV c N)), x1, some (.ref h.length), y3, none] (.rf b, h ++ .lst (F.map trip) :: r0) =
    some (.nx [some (.lst (netV c N)), x1, some (.ref h.length), y3, y] (h ++ .lst ((F ++ (pairsL c).flatMap fun p => setB p.1 (N p.1 p.2) p.2).map trip) :: rest)) := by
  obtain ⟨l', h', e, ⟨y, rfl⟩, r2, rfl, _⟩ := rf_at (i := 4) (n := b) (body := L_bounds_2) pairD (fun k l h' => (∃ y, l = [some (.lst (netV c N)), x1, some (.ref h.length), y3, y]) ∧ ∃ r2, h' = h ++ .lst ((F ++ ((pairsL c).take k).flatMap fun p => setB p.1 (N p.1 p.2) p.2).map trip) :: (r0 ++ r2) ∧ (((pairsL c).take k).flatMap fun p => setB p.1 (N p.1 p.2) p.2).length ≤ 8 * k) (pairsL c) (by
    rintro k l h' ⟨_, r2, rfl, _⟩
    exact db _ r2) (by
    rintro k x hx l h' ⟨⟨y, rfl⟩, r2, rfl, hk⟩
    have kl : k < (pairsL c).length := (List.getElem?_eq_some_iff.mp hx).1
    obtain ⟨p1, p2⟩ := pin x (List.mem_of_getElem? hx)
    have l8 : (setB x.1 (N x.1 x.2) x.2).length ≤ 8 := by
      unfold setB
      rw [List.length_append]
      have := sideB_len x.1 x.2 0 (N x.1 x.2)
      have := sideB_len x.1 x.2 1 (N x.1 x.2)
      omega
    obtain ⟨rs, eb⟩ := e_set_bounds x.1 (N x.1 x.2) x.2 (by omega) (by omega) (hN _ _) (h ++ .lst ((F ++ ((pairsL c).take k).flatMap fun p => setB p.1 (N p.1 p.2) p.2).map trip) :: (r0 ++ r2))
    have n1 : (netV c N)[x.1]? = some (.lst ((List.range c).map fun j => .int ((N x.1 j : Nat) : Int))) := by simp [netV, p1]
    have n2 : ((List.range c).map fun j => Dt.int ((N x.1 j : Nat) : Int))[x.2]? = some (.int ((N x.1 x.2 : Nat) : Int)) := by simp [p2]
    have xx := ext_at2 (h := h) (F := F ++ ((pairsL c).take k).flatMap fun p => setB p.1 (N p.1 p.2) p.2) (G := setB x.1 (N x.1 x.2) x.2) (rest := r0 ++ r2) (rest2 := rs) (l := [some (.lst (netV c N)), x1, some (.ref h.length), y3, some (pairD x)]) (g := eCall F_set_bounds [] (aCons (e2 oIx (eV 4) (eC (.int 0))) (aCons (e2 oIx (e2 oIx (eV 0) (e2 oIx (eV 4) (eC (.int 0)))) (e2 oIx (eV 4) (eC (.int 1)))) (aCons (e2 oIx (eV 4) (eC (.int 1))) (aNil))))) (by rw [List.length_append]; omega) (by
      simp only [q_call, q_aCons, q_aNil, q_e2, q_eC, q_eV, List.getElem?_cons_zero, List.getElem?_cons_succ, getV_some, bnd_some, pairD, o_ixT, atI_0, atI_1, Option.map_some, o_ixL, SM.atI_nat, n1, n2, List.append_nil]
      exact eb)
    refine ⟨.nx [some (.lst (netV c N)), x1, some (.ref h.length), y3, some (pairD x)] (h ++ .lst ((F ++ ((pairsL c).take (k + 1)).flatMap fun p => setB p.1 (N p.1 p.2) p.2).map trip) :: (r0 ++ (r2 ++ .lst ((setB x.1 (N x.1 x.2) x.2).map trip) :: rs))), ?_, ⟨_, rfl⟩, _, rfl, ?_⟩
    · rw [flat_take _ hx, ← List.append_assoc, ← List.append_assoc]
      simp only [L_bounds_2, q_sDrop, q_extend, q_eV, List.set_cons_succ, List.set_cons_zero, List.getElem?_cons_zero, List.getElem?_cons_succ, getV_some, bnd_some, xx]
    · rw [flat_take _ hx, List.length_append]
      omega) [some (.lst (netV c N)), x1, some (.ref h.length), y3, none] (h ++ .lst (F.map trip) :: r0) ⟨⟨_, rfl⟩, [], by simp, by simp⟩
  rw [List.take_length] at e
  exact ⟨y, _, e⟩
theorem pairs_in {c : Nat} {p : Nat × Nat} (h : p ∈ pairsL c) : p.1 < c ∧ p.2 < c := by
  unfold pairsL pairsTo at h
  obtain ⟨i, hi, h⟩ := List.mem_flatMap.mp h
  obtain ⟨k, hk, rfl⟩ := List.mem_map.mp h
  have := List.mem_range.mp hi
  have := List.mem_range.mp hk
  exact ⟨by omega, by show i + 1 + k < c; omega⟩
theorem e_bounds {c a : Nat} (hc : c ≤ 100) {N : Nat → Nat → Nat} (hN : ∀ i j, waysL (N i j) ≠ []) {ls : List Ln} (hl : ls.length ≤ 1000) {h : HI} (da : h[a]? = some (.lst (ls.map lenD))) :
    ∃ rest, F_bounds [.lst (netV c N), .ref a] h = some (.ref h.length, h ++ .lst ((bndsL c N ls).map trip) :: rest) := by
  have nl : (netV c N).length = c := by simp [netV]
  have er := r1K_int (h := h) (show (-(2 ^ 62) : Int) ≤ (c : Int) by omega) (show (c : Int) < 2 ^ 62 by omega)
  simp only [Int.toNat_natCast] at er
  have u := fun (i : Int) (h : HI) => o_mul (h := h) (i := 2) (j := i) (Or.inl ⟨by decide, by decide⟩)
  have ec := compV_all (te := E_bounds_0) (tc := tTrue) (i := 0) (fun (k : Nat) => Dt.int (k : Int)) (fun k => trip (2 * k, 2 * k + 1, -1)) h (List.range c) [none] (by
    intro k _
    exact ⟨by simp, by simp [E_bounds_0, u, trip]⟩)
  have ek := compK_vals (l := [none]) (h := h) (gSet 0) tTrue E_bounds_0 (xs := (List.range c).map fun (k : Nat) => Dt.int (k : Int)) (by simp; omega)
  rw [ec] at ek
  have eo : (List.range c).map (fun k => trip (2 * k, 2 * k + 1, -1)) = (ownB c).map trip := by unfold ownB; rw [List.map_map]; rfl
  rw [eo] at ek
  obtain ⟨y, r0, e1⟩ := len_loop hc N hl da none
  have alt := (List.getElem?_eq_some_iff.mp da).1
  have da' : (h ++ [Ob.lst ((ownB c).map trip)])[a]? = some (.lst (ls.map lenD)) := by rw [List.getElem?_append_left alt]; exact da
  have ep := e_pairs_of (c := c) (by omega) (h ++ .lst ((ownB c ++ ls.flatMap (lenB (2 * c + 1))).map trip) :: r0)
  have fl : (ls.flatMap (lenB (2 * c + 1))).length ≤ 2 * ls.length := by
    clear e1 ep da da' ek
    induction ls with
    | nil => simp
    | cons x ls ih =>
      rw [List.flatMap_cons, List.length_append, List.length_cons]
      have : (lenB (2 * c + 1) x).length = 2 := rfl
      have := ih (by simp at hl; omega)
      omega
  have pl : (pairsL c).length ≤ 10000 := by
    have := pairs_len c c
    have h2 : c * c ≤ 100 * 100 := Nat.mul_le_mul hc hc
    unfold pairsL
    omega
  obtain ⟨y4, rest, e2⟩ := set_loop (b := (h ++ Ob.lst ((ownB c ++ ls.flatMap (lenB (2 * c + 1))).map trip) :: r0).length) hc hN (h := h) (F := ownB c ++ ls.flatMap (lenB (2 * c + 1))) (by simp [ownB] at fl ⊢; omega) (r0 := r0 ++ [.lst ((pairsL c).map pairD)]) (fun G r2 => by
    have : h ++ Ob.lst (G.map trip) :: (r0 ++ [Ob.lst ((pairsL c).map pairD)] ++ r2) = (h ++ Ob.lst (G.map trip) :: r0) ++ Ob.lst ((pairsL c).map pairD) :: r2 := by simp
    rw [this, List.getElem?_append_right (by simp)]
    simp) (some (.ref a)) y pl (fun p hp => pairs_in hp)
  refine ⟨rest, ?_⟩
  have es : (h ++ Ob.lst ((ownB c ++ ls.flatMap (lenB (2 * c + 1))).map trip) :: r0) ++ [Ob.lst ((pairsL c).map pairD)] = h ++ Ob.lst ((ownB c ++ ls.flatMap (lenB (2 * c + 1))).map trip) :: (r0 ++ [Ob.lst ((pairsL c).map pairD)]) := by simp
  rw [es] at ep
  have sk := seqK_ref (h := h ++ Ob.lst ((ownB c ++ ls.flatMap (lenB (2 * c + 1))).map trip) :: (r0 ++ [Ob.lst ((pairsL c).map pairD)])) (n := (h ++ Ob.lst ((ownB c ++ ls.flatMap (lenB (2 * c + 1))).map trip) :: r0).length) (xs := (pairsL c).map pairD) (by
    rw [← es, List.getElem?_append_right (Nat.le_refl _), Nat.sub_self]
    rfl)
  unfold bndsL
  simp only [F_bounds, B_bounds, q_fn, List.length_cons, List.length_nil, if_true, List.map_cons, List.map_nil, Nat.reduceAdd, Nat.reduceSub, List.replicate, List.cons_append, List.nil_append, q_sSeq, q_sSet, q_eCompN, q_iR1, q_F1, q_eV, List.getElem?_cons_zero, List.getElem?_cons_succ, getV_some, bnd_some, f_lenL, nl, er, cap_none, cap_nil, ek, List.set_cons_succ, List.set_cons_zero, sqK_nx, q_sFor, q_iLst, seqK_ref da', e1, q_call, q_aCons, q_aNil, List.append_nil, ep, sk, e2, q_sRet, finK_rt]
end G
namespace G
open PySem PySem.Spec PyProof.Rows L2 SM
theorem lt_sum (m : Nat) : ∀ (xs : List Nat) (a : Nat), ((xs.foldl (fun a x => if m.testBit x = true then a + 2 ^ (12 - x) else a) a : Nat) : Int) = a + ((xs.filter fun x => m.testBit x).map fun k => (2 : Int) ^ (12 - k)).sum
  | [], a => by simp
  | x :: xs, a => by
    rw [List.foldl_cons, lt_sum m xs, List.filter_cons]
    by_cases q : m.testBit x = true
    · rw [if_pos q, if_pos q, List.map_cons, List.sum_cons]
      have : ((a + 2 ^ (12 - x) : Nat) : Int) = a + (2 : Int) ^ (12 - x) := by simp
      omega
    · rw [if_neg q, if_neg q]
theorem lt_turn (m : Nat) : (List.range 13).foldl (fun a x => if m.testBit x = true then a + 2 ^ (12 - x) else a) 0 = turnS m := by
  have := lt_sum m (List.range 13) 0
  rw [sum_turn] at this
  have e : mk (fun j => m.testBit (12 - j)) = turnS m := rfl
  rw [e] at this
  omega
theorem e_lturned (m : Nat) (h : HI) : F__law_turned [.int m] h = some (.int (turnS m), h) := by
  obtain ⟨l', h', e, ⟨z, rfl⟩, rfl⟩ := walk_fold (i := 2) (body := L__law_turned_0) (fun (k : Nat) => Dt.int (k : Int)) (fun (a : Nat) l h' => (∃ z, l = [some (.int m), some (.int a), z]) ∧ h' = h) (fun a x => if m.testBit x = true then a + 2 ^ (12 - x) else a) (List.range 13) (by
    rintro k hk a l h ⟨⟨z, rfl⟩, rfl⟩
    have hk := List.mem_range.mp hk
    have ep : (12 - (k : Int)) = ((12 - k : Nat) : Int) := by omega
    have s1 := o_shl (h := h) (cShl (show 12 - k < 13 by omega))
    simp only [Int.toNat_natCast] at s1
    have b := bit_at m k
    refine ⟨.nx [some (.int m), some (.int ((if m.testBit k = true then a + 2 ^ (12 - k) else a : Nat) : Nat)), some (.int k)] h, ?_, ⟨_, rfl⟩, rfl⟩
    simp only [L__law_turned_0, q_sIf, q_tB, q_e2, q_eV, q_eC, List.set_cons_zero, List.set_cons_succ, List.getElem?_cons_zero, List.getElem?_cons_succ, getV_some, bnd_some, o_shr (show (0 : Int) ≤ (k : Int) by omega), Int.toNat_natCast, o_band, o_eq, tbK_bl, b, ep, o_sub, s1, q_sSet, o_add, Int.one_mul, q_sNil]
    by_cases hb : m.testBit k = true <;> simp [hb]) 0 [some (.int m), some (.int 0), none] h ⟨⟨none, rfl⟩, rfl⟩
  rw [lt_turn] at e
  have e' : walkL (gSet 2) L__law_turned_0 (List.map (fun (k : Nat) => Dt.int (k : Int)) (List.range 13)) [some (.int m), some (.int 0), none] h' = some (.nx [some (.int m), some (.int (turnS m)), z] h') := e
  simp [F__law_turned, B__law_turned, r13, e']
end G
namespace G
open PySem PySem.Spec PyProof.Rows L2 SM
def rowD (c : Nat) (g : Nat → Nat) : List Dt := (List.range c).map fun (j : Nat) => Dt.int (g j : Nat)
def topD (b c : Nat) : List Dt := (List.range c).map fun (k : Nat) => Dt.ref (b + k)
structure NetAt (h : HI) (b c : Nat) (f : Nat → Nat → Nat) : Prop where
  row : ∀ i < c, h[b + i]? = some (.lst (rowD c (f i)))
  top : h[b + c]? = some (.lst (topD b c))
def netObs (b c : Nat) (f : Nat → Nat → Nat) : HI := ((List.range c).map fun i => Ob.lst (rowD c (f i))) ++ [.lst (topD b c)]
theorem NetAt.lt {h : HI} {b c : Nat} {f : Nat → Nat → Nat} (N : NetAt h b c f) : b + c < h.length := (List.getElem?_eq_some_iff.mp N.top).1
theorem NetAt.grow {h : HI} {b c : Nat} {f : Nat → Nat → Nat} (N : NetAt h b c f) (e : HI) : NetAt (h ++ e) b c f := by
  have := N.lt
  exact ⟨fun i hi => by rw [List.getElem?_append_left (by omega)]; exact N.row i hi, by rw [List.getElem?_append_left (by omega)]; exact N.top⟩
theorem netObs_at (h : HI) (c : Nat) (f : Nat → Nat → Nat) : NetAt (h ++ netObs h.length c f) h.length c f := by
  constructor
  · intro i hi
    rw [List.getElem?_append_right (by omega)]
    unfold netObs
    rw [List.getElem?_append_left (by simp; omega)]
    simp [hi]
  · rw [List.getElem?_append_right (by omega)]
    unfold netObs
    rw [List.getElem?_append_right (by simp)]
    simp
theorem rowD_len (c : Nat) (g : Nat → Nat) : (rowD c g).length = c := by simp [rowD]
theorem topD_len (b c : Nat) : (topD b c).length = c := by simp [topD]
theorem rowD_get {c j : Nat} (hj : j < c) (g : Nat → Nat) : (rowD c g)[j]? = some (.int (g j : Nat)) := by simp [rowD, hj]
theorem topD_get {b c j : Nat} (hj : j < c) : (topD b c)[j]? = some (.ref (b + j)) := by simp [topD, hj]
theorem rowD_congr {c : Nat} {g g' : Nat → Nat} (e : ∀ j < c, g j = g' j) : rowD c g = rowD c g' := List.map_congr_left fun j hj => by rw [e j (List.mem_range.mp hj)]
theorem rowD_set {c j : Nat} (g : Nat → Nat) (v : Nat) : (rowD c g).set j (.int (v : Nat)) = rowD c (fun x => if x = j then v else g x) := by
  apply List.ext_getElem?
  intro k
  rw [List.getElem?_set]
  simp only [rowD, List.length_map, List.length_range, List.getElem?_map]
  by_cases hk : k < c
  · rw [List.getElem?_range hk]
    by_cases hj : j = k
    · subst hj
      simp [hk]
    · have : ¬ k = j := fun z => hj z.symm
      simp [hj, this]
  · rw [List.getElem?_eq_none (by simpa using hk)]
    split
    · have : ¬ j < c := by omega
      simp [this]
    · rfl
theorem NetAt.congr {h : HI} {b c : Nat} {f g : Nat → Nat → Nat} (N : NetAt h b c f) (e : ∀ i < c, ∀ j < c, f i j = g i j) : NetAt h b c g :=
  ⟨fun i hi => by rw [← rowD_congr (e i hi)]; exact N.row i hi, N.top⟩
def putF (f : Nat → Nat → Nat) (i j v : Nat) : Nat → Nat → Nat := fun a b => if a = i then (if b = j then v else f a b) else f a b
theorem NetAt.other {h : HI} {b c : Nat} {f : Nat → Nat → Nat} (N : NetAt h b c f) {n : Nat} (hn : n < b ∨ b + c < n) (o : Ob) : NetAt (h.set n o) b c f :=
  ⟨fun i hi => by rw [List.getElem?_set_ne (by omega)]; exact N.row i hi, by rw [List.getElem?_set_ne (by omega)]; exact N.top⟩
theorem NetAt.ix {h : HI} {b c : Nat} {f : Nat → Nat → Nat} (N : NetAt h b c f) {i : Nat} (hi : i < c) : oIx (.ref (b + c)) (.int (i : Nat)) h = some (.ref (b + i), h) := by
  rw [o_ixR N.top, SM.atI_nat, topD_get hi]
  rfl
theorem NetAt.ix2 {h : HI} {b c : Nat} {f : Nat → Nat → Nat} (N : NetAt h b c f) {i j : Nat} (hi : i < c) (hj : j < c) : oIx (.ref (b + i)) (.int (j : Nat)) h = some (.int (f i j : Nat), h) := by
  rw [o_ixR (N.row i hi), SM.atI_nat, rowD_get hj]
  rfl
theorem NetAt.len {h : HI} {b c : Nat} {f : Nat → Nat → Nat} (N : NetAt h b c f) : fLen (.ref (b + c)) h = some (.int (c : Nat), h) := by
  rw [f_lenR N.top, topD_len]
theorem NetAt.seq {h : HI} {b c : Nat} {f : Nat → Nat → Nat} (N : NetAt h b c f) : seqK (.ref (b + c), h) = some (.rf (b + c), h) := seqK_ref N.top
theorem NetAt.len1 {h : HI} {b c : Nat} {f : Nat → Nat → Nat} (N : NetAt h b c f) {i : Nat} (hi : i < c) : fLen (.ref (b + i)) h = some (.int (c : Nat), h) := by
  rw [f_lenR (N.row i hi), rowD_len]
theorem true_pres {n : Nat} {xs : List Dt} : ∀ (l : LI) (h : HI) (b : Bool) (h' : HI), tTrue l h = some (b, h') → h[n]? = some (.lst xs) → h'[n]? = some (.lst xs) := by
  intro l h b h' e q
  simp only [q_tTrue, Option.some.injEq, Prod.mk.injEq] at e
  rw [← e.2]
  exact q
def netDt (c : Nat) (f : Nat → Nat → Nat) : List Dt := (List.range c).map fun i => Dt.lst (rowD c (f i))
theorem allD_map {α : Type} {F : Dt → Option Dt} (D E : α → Dt) : ∀ (xs : List α), (∀ x ∈ xs, F (D x) = some (E x)) → allD F (xs.map D) = some (xs.map E)
  | [], _ => rfl
  | x :: xs, H => by
    simp only [List.map_cons, allD, H x (by simp), Option.bind_some, allD_map D E xs fun y hy => H y (by simp [hy]), Option.map_some]
theorem res_row {h : HI} {n c : Nat} {g : Nat → Nat} (e : h[n]? = some (.lst (rowD c g))) (k : Nat) : resD h (k + 2) (.ref n) = some (.lst (rowD c g)) := by
  have : allD (resD h (k + 1)) (rowD c g) = some (rowD c g) := allD_map _ _ _ fun x _ => by simp [resD]
  rw [resD]
  simp only [e, this, Option.map_some]
theorem res_net {h : HI} {b c : Nat} {f : Nat → Nat → Nat} (N : NetAt h b c f) (k : Nat) : resD h (k + 3) (.ref (b + c)) = some (.lst (netDt c f)) := by
  have : allD (resD h (k + 2)) (topD b c) = some (netDt c f) := allD_map _ _ _ fun x hx => res_row (N.row x (List.mem_range.mp hx)) k
  rw [resD]
  simp only [N.top, this, Option.map_some]
theorem pureDs_ints {α : Type} (g : α → Int) : ∀ xs : List α, pureDs (xs.map fun x => Dt.int (g x)) = true
  | [] => rfl
  | x :: xs => by simp only [List.map_cons, pureDs, pureD, pureDs_ints g xs, Bool.and_self]
theorem depDs_ints {α : Type} (g : α → Int) : ∀ xs : List α, depDs (xs.map fun x => Dt.int (g x)) ≤ 1
  | [] => by simp [depDs]
  | x :: xs => by
    have := depDs_ints g xs
    simp only [List.map_cons, depDs, depD]
    omega
theorem row_pure (c : Nat) (g : Nat → Nat) : pureDs (rowD c g) = true := pureDs_ints _ _
theorem row_dep (c : Nat) (g : Nat → Nat) : depDs (rowD c g) ≤ 1 := depDs_ints _ _
theorem net_pure (f : Nat → Nat → Nat) (c : Nat) : ∀ xs : List Nat, pureDs (xs.map fun i => Dt.lst (rowD c (f i))) = true
  | [] => rfl
  | x :: xs => by simp only [List.map_cons, pureDs, pureD, row_pure, net_pure f c xs, Bool.and_self]
theorem net_dep (f : Nat → Nat → Nat) (c : Nat) : ∀ xs : List Nat, depDs (xs.map fun i => Dt.lst (rowD c (f i))) ≤ 3
  | [] => by simp [depDs]
  | x :: xs => by
    have := net_dep f c xs
    have := row_dep c (f x)
    simp only [List.map_cons, depDs, depD]
    omega
theorem netObs_put (h : HI) {c i : Nat} (hi : i < c) (f : Nat → Nat → Nat) (j v : Nat) : (h ++ netObs h.length c f).set (h.length + i) (.lst ((rowD c (f i)).set j (.int (v : Nat)))) = h ++ netObs h.length c (putF f i j v) := by
  rw [List.set_append_right _ _ (by omega), Nat.add_sub_cancel_left]
  congr 1
  unfold netObs
  rw [List.set_append_left _ _ (by simpa using hi)]
  congr 1
  apply List.ext_getElem?
  intro k
  rw [List.getElem?_set]
  simp only [List.length_map, List.length_range, List.getElem?_map]
  by_cases hk : k < c
  · rw [List.getElem?_range hk]
    by_cases e : i = k
    · subst e
      have : (fun x => if x = j then v else f i x) = putF f i j v i := by funext x; simp [putF]
      simp [hi, rowD_set, this]
    · have : ¬ k = i := by omega
      have q : putF f i j v k = f k := by funext x; simp [putF, this]
      simp [e, q]
  · rw [List.getElem?_eq_none (by simpa using hk)]
    have : ¬ i = k := by omega
    simp [this]
end G
namespace G
open PySem PySem.Spec PyProof.Rows L2 SM BF
theorem e_mixed (x f : Int) (h : HI) : F__law_mixed [.int x, .int f] h = some (.int ((x % 2147483647 + 11) * f % 2147483629), h) := by
  have c : CMul (x % 2147483647 + 11) f := Or.inl ⟨by omega, by omega⟩
  have d1 := fun (i : Int) (h : HI) => o_mod (h := h) (i := i) (show (0 : Int) < 2147483647 by decide)
  have d2 := fun (i : Int) (h : HI) => o_mod (h := h) (i := i) (show (0 : Int) < 2147483629 by decide)
  have d3 := fun (h : HI) => o_mul (h := h) c
  simp only [F__law_mixed, B__law_mixed, q_fn, List.length_cons, List.length_nil, if_true, List.map_cons, List.map_nil, List.replicate, List.cons_append, List.nil_append, q_sRet, q_e2, q_eV, q_eC, List.getElem?_cons_zero, List.getElem?_cons_succ, getV_some, bnd_some, d1, d2, d3, o_add, finK_rt]
theorem cut_ints (ns : List Int) (lo hi : Option Int) : ∃ ms : List Int, cutD (ns.map Dt.int) lo hi = ms.map Dt.int ∧ ms.length ≤ ns.length := by
  unfold SM.cutD
  rw [← List.map_drop, ← List.map_take]
  refine ⟨_, rfl, ?_⟩
  rw [List.length_take, List.length_drop]
  omega
end G
namespace G
open PySem PySem.Spec PyProof.Rows L2 SM
theorem e_cell (ns : List Int) (k : Nat) (h : HI) : F__law_cell_at [.lst (ns.map Dt.int), .int (k : Int)] h = some (.int (ns[k]?.getD 0), h) := by
  simp [F__law_cell_at, B__law_cell_at]
  by_cases hk : k < ns.length
  · simp [hk]
  · simp [hk]
end G
namespace G
open PySem PySem.Spec PyProof.Rows L2 SM
theorem e_whole (i : Int) (h : HI) : F__law_whole [.int i] h = some (.bl true, h) := by simp [F__law_whole, B__law_whole]
end G
namespace G
open PySem PySem.Spec PyProof.Rows L2 SM BF
theorem len_loopV {c : Nat} (hc : c ≤ 100) (N : Nat → Nat → Nat) {ls : List Ln} (hl : ls.length ≤ 1000) {h : HI} (x4 : Option Dt) : ∃ y rest, walkL (gSet 3) L_bounds_1 (ls.map lenD) [some (.lst (netV c N)), some (.lst (ls.map lenD)), some (.ref h.length), none, x4] (h ++ [.lst ((ownB c).map trip)]) =
    some (.nx [some (.lst (netV c N)), some (.lst (ls.map lenD)), some (.ref h.length), y, x4] (h ++ .lst ((ownB c ++ ls.flatMap (lenB (2 * c + 1))).map trip) :: rest)) := by
  have nl : (netV c N).length = c := by simp [netV]
  have ol : (ownB c).length = c := by simp [ownB]
  obtain ⟨l', h', e, ⟨y, rfl⟩, rest, rfl, _⟩ := walk_at (i := 3) (body := L_bounds_1) lenD (fun k l h' => (∃ y, l = [some (.lst (netV c N)), some (.lst (ls.map lenD)), some (.ref h.length), y, x4]) ∧ ∃ rest, h' = h ++ .lst ((ownB c ++ (ls.take k).flatMap (lenB (2 * c + 1))).map trip) :: rest ∧ ((ls.take k).flatMap (lenB (2 * c + 1))).length ≤ 2 * k) ls 0 (by
    intro k x hx l h' hS
    rw [Nat.zero_add] at hS ⊢
    obtain ⟨⟨y, rfl⟩, rest, rfl, hk⟩ := hS
    have kl : k < ls.length := (List.getElem?_eq_some_iff.mp hx).1
    have l2 : (lenB (2 * c + 1) x).length = 2 := rfl
    have eb := e_length_bounds x.1 x.2.1 x.2.2 (g := 2 * c + 1) (by omega) (h ++ .lst ((ownB c ++ (ls.take k).flatMap (lenB (2 * c + 1))).map trip) :: rest)
    have x1 := ext_at2 (h := h) (F := ownB c ++ (ls.take k).flatMap (lenB (2 * c + 1))) (G := lenB (2 * c + 1) x) (rest := rest) (rest2 := []) (l := [some (.lst (netV c N)), some (.lst (ls.map lenD)), some (.ref h.length), some (lenD x), x4]) (g := eCall F_length_bounds [] (aCons (eV 3) (aCons (eCall F_grain [] (aCons (eF1 fLen (eV 0)) (aNil))) (aNil)))) (by rw [List.length_append, ol, l2]; omega) (by
      simp only [q_call, q_aCons, q_aNil, q_F1, q_eV, List.getElem?_cons_zero, List.getElem?_cons_succ, getV_some, bnd_some, f_lenL, nl, e_grain, List.append_nil, lenD]
      exact eb)
    refine ⟨.nx [some (.lst (netV c N)), some (.lst (ls.map lenD)), some (.ref h.length), some (lenD x), x4] (h ++ .lst ((ownB c ++ (ls.take (k + 1)).flatMap (lenB (2 * c + 1))).map trip) :: (rest ++ [.lst ((lenB (2 * c + 1) x).map trip)])), ?_, ⟨some (lenD x), rfl⟩, rest ++ [.lst ((lenB (2 * c + 1) x).map trip)], rfl, ?_⟩
    · rw [flat_take _ hx, ← List.append_assoc]
      simp only [L_bounds_1, q_sDrop, q_extend, q_eV, List.set_cons_succ, List.set_cons_zero, List.getElem?_cons_zero, List.getElem?_cons_succ, getV_some, bnd_some, x1]
    · rw [flat_take _ hx, List.length_append, l2]
      omega) [some (.lst (netV c N)), some (.lst (ls.map lenD)), some (.ref h.length), none, x4] (h ++ [.lst ((ownB c).map trip)]) ⟨⟨_, rfl⟩, [], by simp, by simp⟩
  rw [Nat.zero_add, List.take_length] at e
  exact ⟨y, rest, e⟩
theorem e_boundsV {c : Nat} (hc : c ≤ 100) {N : Nat → Nat → Nat} (hN : ∀ i j, waysL (N i j) ≠ []) {ls : List Ln} (hl : ls.length ≤ 1000) (h : HI) :
    ∃ rest, F_bounds [.lst (netV c N), .lst (ls.map lenD)] h = some (.ref h.length, h ++ .lst ((bndsL c N ls).map trip) :: rest) := by
  have nl : (netV c N).length = c := by simp [netV]
  have er := r1K_int (h := h) (show (-(2 ^ 62) : Int) ≤ (c : Int) by omega) (show (c : Int) < 2 ^ 62 by omega)
  simp only [Int.toNat_natCast] at er
  have u := fun (i : Int) (h : HI) => o_mul (h := h) (i := 2) (j := i) (Or.inl ⟨by decide, by decide⟩)
  have ec := compV_all (te := E_bounds_0) (tc := tTrue) (i := 0) (fun (k : Nat) => Dt.int (k : Int)) (fun k => trip (2 * k, 2 * k + 1, -1)) h (List.range c) [none] (by
    intro k _
    exact ⟨by simp, by simp [E_bounds_0, u, trip]⟩)
  have ek := compK_vals (l := [none]) (h := h) (gSet 0) tTrue E_bounds_0 (xs := (List.range c).map fun (k : Nat) => Dt.int (k : Int)) (by simp; omega)
  rw [ec] at ek
  have eo : (List.range c).map (fun k => trip (2 * k, 2 * k + 1, -1)) = (ownB c).map trip := by unfold ownB; rw [List.map_map]; rfl
  rw [eo] at ek
  obtain ⟨y, r0, e1⟩ := len_loopV hc N hl (h := h) none
  have ep := e_pairs_of (c := c) (by omega) (h ++ .lst ((ownB c ++ ls.flatMap (lenB (2 * c + 1))).map trip) :: r0)
  have fl : (ls.flatMap (lenB (2 * c + 1))).length ≤ 2 * ls.length := by
    clear e1 ep ek
    induction ls with
    | nil => simp
    | cons x ls ih =>
      rw [List.flatMap_cons, List.length_append, List.length_cons]
      have : (lenB (2 * c + 1) x).length = 2 := rfl
      have := ih (by simp at hl; omega)
      omega
  have pl : (pairsL c).length ≤ 10000 := by
    have := pairs_len c c
    have h2 : c * c ≤ 100 * 100 := Nat.mul_le_mul hc hc
    unfold pairsL
    omega
  obtain ⟨y4, rest, e2⟩ := set_loop (b := (h ++ Ob.lst ((ownB c ++ ls.flatMap (lenB (2 * c + 1))).map trip) :: r0).length) hc hN (h := h) (F := ownB c ++ ls.flatMap (lenB (2 * c + 1))) (by simp [ownB] at fl ⊢; omega) (r0 := r0 ++ [.lst ((pairsL c).map pairD)]) (fun G r2 => by
    have : h ++ Ob.lst (G.map trip) :: (r0 ++ [Ob.lst ((pairsL c).map pairD)] ++ r2) = (h ++ Ob.lst (G.map trip) :: r0) ++ Ob.lst ((pairsL c).map pairD) :: r2 := by simp
    rw [this, List.getElem?_append_right (by simp)]
    simp) (some (.lst (ls.map lenD))) y pl (fun p hp => pairs_in hp)
  refine ⟨rest, ?_⟩
  have es : (h ++ Ob.lst ((ownB c ++ ls.flatMap (lenB (2 * c + 1))).map trip) :: r0) ++ [Ob.lst ((pairsL c).map pairD)] = h ++ Ob.lst ((ownB c ++ ls.flatMap (lenB (2 * c + 1))).map trip) :: (r0 ++ [Ob.lst ((pairsL c).map pairD)]) := by simp
  rw [es] at ep
  have sk := seqK_ref (h := h ++ Ob.lst ((ownB c ++ ls.flatMap (lenB (2 * c + 1))).map trip) :: (r0 ++ [Ob.lst ((pairsL c).map pairD)])) (n := (h ++ Ob.lst ((ownB c ++ ls.flatMap (lenB (2 * c + 1))).map trip) :: r0).length) (xs := (pairsL c).map pairD) (by
    rw [← es, List.getElem?_append_right (Nat.le_refl _), Nat.sub_self]
    rfl)
  unfold bndsL
  simp only [F_bounds, B_bounds, q_fn, List.length_cons, List.length_nil, if_true, List.map_cons, List.map_nil, Nat.reduceAdd, Nat.reduceSub, List.replicate, List.cons_append, List.nil_append, q_sSeq, q_sSet, q_eCompN, q_iR1, q_F1, q_eV, List.getElem?_cons_zero, List.getElem?_cons_succ, getV_some, bnd_some, f_lenL, nl, er, cap_none, cap_nil, ek, List.set_cons_succ, List.set_cons_zero, sqK_nx, q_sFor, q_iLst, seqK_lst, forK_vals, e1, q_call, q_aCons, q_aNil, List.append_nil, ep, sk, e2, q_sRet, finK_rt]
theorem z_turn : ∀ w : Nat, w < 13 → ∀ s : Nat, s < 2 → ∀ o : Nat, o < 2 → (zs o (12 - w) ≤ 1 + 2 * (s : Int) ↔ 1 + 2 * (o : Int) ≤ zs s w) ∧ (zs o (12 - w) < 1 + 2 * (s : Int) ↔ 1 + 2 * (o : Int) < zs s w) := by decide +kernel
theorem ways_turn {m w : Nat} : w ∈ waysL (turnS m) ↔ w < 13 ∧ 12 - w ∈ waysL m := by
  unfold waysL
  simp only [List.mem_filter, List.mem_range]
  constructor
  · rintro ⟨h1, h2⟩
    rw [turn_bit m h1] at h2
    exact ⟨h1, by omega, h2⟩
  · rintro ⟨h1, h2, h3⟩
    exact ⟨h1, by rw [turn_bit m h1]; exact h3⟩
theorem max_le {s m : Nat} (hm : waysL m ≠ []) (a : Int) : maxL (seenL s m) ≤ a ↔ ∀ w ∈ waysL m, zs s w ≤ a := by
  obtain ⟨h1, h2⟩ := maxL_spec (seenL s m) (seen_ne hm)
  constructor
  · intro h w hw
    have := h2 (zs s w) (List.mem_map.mpr ⟨w, hw, rfl⟩)
    omega
  · intro h
    obtain ⟨w, hw, e⟩ := List.mem_map.mp h1
    rw [← e]; exact h w hw
theorem max_lt {s m : Nat} (hm : waysL m ≠ []) (a : Int) : maxL (seenL s m) < a ↔ ∀ w ∈ waysL m, zs s w < a := by
  obtain ⟨h1, h2⟩ := maxL_spec (seenL s m) (seen_ne hm)
  constructor
  · intro h w hw
    have := h2 (zs s w) (List.mem_map.mpr ⟨w, hw, rfl⟩)
    omega
  · intro h
    obtain ⟨w, hw, e⟩ := List.mem_map.mp h1
    rw [← e]; exact h w hw
theorem le_min {s m : Nat} (hm : waysL m ≠ []) (a : Int) : a ≤ minL (seenL s m) ↔ ∀ w ∈ waysL m, a ≤ zs s w := by
  obtain ⟨h1, h2⟩ := minL_spec (seenL s m) (seen_ne hm)
  constructor
  · intro h w hw
    have := h2 (zs s w) (List.mem_map.mpr ⟨w, hw, rfl⟩)
    omega
  · intro h
    obtain ⟨w, hw, e⟩ := List.mem_map.mp h1
    rw [← e]; exact h w hw
theorem lt_min {s m : Nat} (hm : waysL m ≠ []) (a : Int) : a < minL (seenL s m) ↔ ∀ w ∈ waysL m, a < zs s w := by
  obtain ⟨h1, h2⟩ := minL_spec (seenL s m) (seen_ne hm)
  constructor
  · intro h w hw
    have := h2 (zs s w) (List.mem_map.mpr ⟨w, hw, rfl⟩)
    omega
  · intro h
    obtain ⟨w, hw, e⟩ := List.mem_map.mp h1
    rw [← e]; exact h w hw
theorem ways_lt {m w : Nat} (h : w ∈ waysL m) : w < 13 := List.mem_range.mp (List.mem_filter.mp h).1
theorem turn_ahead {s o m : Nat} (hs : s < 2) (ho : o < 2) : (∀ w ∈ waysL (turnS m), zs o w ≤ 1 + 2 * (s : Int)) ↔ ∀ w ∈ waysL m, 1 + 2 * (o : Int) ≤ zs s w := by
  constructor
  · intro h w hw
    have hw13 := ways_lt hw
    exact ((z_turn w hw13 s hs o ho).1).mp (h (12 - w) (ways_turn.mpr ⟨by omega, by rw [show 12 - (12 - w) = w by omega]; exact hw⟩))
  · intro h w hw
    obtain ⟨h1, h2⟩ := ways_turn.mp hw
    have := ((z_turn (12 - w) (by omega) s hs o ho).1).mpr (h _ h2)
    rwa [show 12 - (12 - w) = w by omega] at this
theorem turn_early {s o m : Nat} (hs : s < 2) (ho : o < 2) : (∀ w ∈ waysL (turnS m), zs o w < 1 + 2 * (s : Int)) ↔ ∀ w ∈ waysL m, 1 + 2 * (o : Int) < zs s w := by
  constructor
  · intro h w hw
    have hw13 := ways_lt hw
    exact ((z_turn w hw13 s hs o ho).2).mp (h (12 - w) (ways_turn.mpr ⟨by omega, by rw [show 12 - (12 - w) = w by omega]; exact hw⟩))
  · intro h w hw
    obtain ⟨h1, h2⟩ := ways_turn.mp hw
    have := ((z_turn (12 - w) (by omega) s hs o ho).2).mpr (h _ h2)
    rwa [show 12 - (12 - w) = w by omega] at this
def dueB (i j m : Nat) (e : Bd) : Prop := ∃ s o : Nat, s < 2 ∧ o < 2 ∧ (∀ w ∈ waysL m, zs s w ≤ 1 + 2 * (o : Int)) ∧ e = (2 * i + s, 2 * j + o, if (∀ w ∈ waysL m, zs s w < 1 + 2 * (o : Int)) then -1 else 0)
theorem mem_pbs {i j s o m : Nat} (hs : s < 2) (ho : o < 2) (hm : waysL m ≠ []) (hmt : waysL (turnS m) ≠ []) {e : Bd} : e ∈ pbs (2 * i + s) (2 * j + o) (1 + 2 * (o : Int)) (maxL (seenL s m)) (minL (seenL s m)) ↔
    ((∀ w ∈ waysL m, zs s w ≤ 1 + 2 * (o : Int)) ∧ e = (2 * i + s, 2 * j + o, if (∀ w ∈ waysL m, zs s w < 1 + 2 * (o : Int)) then -1 else 0)) ∨
    ((∀ w ∈ waysL (turnS m), zs o w ≤ 1 + 2 * (s : Int)) ∧ e = (2 * j + o, 2 * i + s, if (∀ w ∈ waysL (turnS m), zs o w < 1 + 2 * (s : Int)) then -1 else 0)) := by
  unfold pbs
  rw [List.mem_append]
  simp only [max_le hm, max_lt hm, le_min hm, lt_min hm, turn_ahead hs ho, turn_early hs ho]
  constructor
  · rintro (h | h)
    · split at h
      · rename_i q; exact .inl ⟨q, List.mem_singleton.mp h⟩
      · cases h
    · split at h
      · rename_i q; exact .inr ⟨q, List.mem_singleton.mp h⟩
      · cases h
  · rintro (⟨q, rfl⟩ | ⟨q, rfl⟩)
    · exact .inl (by rw [if_pos q]; exact List.mem_singleton.mpr rfl)
    · exact .inr (by rw [if_pos q]; exact List.mem_singleton.mpr rfl)
theorem two_cases {s : Nat} (h : s < 2) : s = 0 ∨ s = 1 := by omega
theorem mem_setB {i j m : Nat} (hm : waysL m ≠ []) (hmt : waysL (turnS m) ≠ []) {e : Bd} : e ∈ setB i m j ↔ dueB i j m e ∨ dueB j i (turnS m) e := by
  have p := fun s o hs ho => mem_pbs (i := i) (j := j) (s := s) (o := o) (m := m) hs ho hm hmt (e := e)
  unfold setB sideB
  simp only [List.mem_append]
  have p00 := p 0 0 (by decide) (by decide)
  have p01 := p 0 1 (by decide) (by decide)
  have p10 := p 1 0 (by decide) (by decide)
  have p11 := p 1 1 (by decide) (by decide)
  simp only [Nat.add_zero] at p00 p01 p10
  have c1 : (1 + 2 * ((0 : Nat) : Int)) = 1 := by decide
  have c3 : (1 + 2 * ((1 : Nat) : Int)) = 3 := by decide
  rw [c1] at p00 p10
  rw [c3] at p01 p11
  simp only [Nat.add_zero, p00, p01, p10, p11]
  constructor
  · rintro ((( a | a) | (a | a)) | ((a | a) | (a | a)))
    · exact .inl ⟨0, 0, by decide, by decide, a⟩
    · exact .inr ⟨0, 0, by decide, by decide, a⟩
    · exact .inl ⟨0, 1, by decide, by decide, a⟩
    · exact .inr ⟨1, 0, by decide, by decide, a⟩
    · exact .inl ⟨1, 0, by decide, by decide, a⟩
    · exact .inr ⟨0, 1, by decide, by decide, a⟩
    · exact .inl ⟨1, 1, by decide, by decide, a⟩
    · exact .inr ⟨1, 1, by decide, by decide, a⟩
  · rintro (⟨s, o, hs, ho, a⟩ | ⟨s, o, hs, ho, a⟩) <;> rcases two_cases hs with rfl | rfl <;> rcases two_cases ho with rfl | rfl
    · exact .inl (.inl (.inl a))
    · exact .inl (.inr (.inl a))
    · exact .inr (.inl (.inl a))
    · exact .inr (.inr (.inl a))
    · exact .inl (.inl (.inr a))
    · exact .inr (.inl (.inr a))
    · exact .inl (.inr (.inr a))
    · exact .inr (.inr (.inr a))
end G
namespace G
open PySem PySem.Spec PyProof.Rows L2 SM BF
theorem e_pairs (h : HI) : F__law_zones [] h = some (.lst (pairsN.map pr), h) := by
  rfl
def lat (s m : Nat) : Int := (List.range 13).foldl (fun a w => if m.testBit w = true then max a (zs s w) else a) 0
theorem fold_le (s m : Nat) {b : Int} : ∀ (xs : List Nat) (a : Int), xs.foldl (fun a w => if m.testBit w = true then max a (zs s w) else a) a ≤ b ↔ a ≤ b ∧ ∀ w ∈ xs, m.testBit w = true → zs s w ≤ b := by
  intro xs
  induction xs with
  | nil => intro a; simp
  | cons x xs ih =>
    intro a
    rw [List.foldl_cons, ih]
    by_cases q : m.testBit x = true
    · rw [if_pos q]
      constructor
      · rintro ⟨h1, h2⟩
        refine ⟨by omega, fun w hw hb => ?_⟩
        rcases List.mem_cons.mp hw with rfl | hw
        · omega
        · exact h2 w hw hb
      · rintro ⟨h1, h2⟩
        have := h2 x (by simp) q
        exact ⟨by omega, fun w hw => h2 w (List.mem_cons_of_mem _ hw)⟩
    · rw [if_neg q]
      constructor
      · rintro ⟨h1, h2⟩
        refine ⟨h1, fun w hw hb => ?_⟩
        rcases List.mem_cons.mp hw with rfl | hw
        · exact absurd hb q
        · exact h2 w hw hb
      · rintro ⟨h1, h2⟩
        exact ⟨h1, fun w hw => h2 w (List.mem_cons_of_mem _ hw)⟩
theorem lat_le {s m : Nat} {b : Int} (hb : 0 ≤ b) : lat s m ≤ b ↔ ∀ w ∈ waysL m, zs s w ≤ b := by
  unfold lat
  rw [fold_le]
  constructor
  · rintro ⟨_, h⟩ w hw
    obtain ⟨h1, h2⟩ := List.mem_filter.mp hw
    exact h w h1 h2
  · intro h
    exact ⟨hb, fun w hw hq => h w (List.mem_filter.mpr ⟨hw, hq⟩)⟩
theorem lat_lt {s m : Nat} {b : Int} (hb : 0 < b) : lat s m < b ↔ ∀ w ∈ waysL m, zs s w < b := by
  have := lat_le (s := s) (m := m) (b := b - 1) (by omega)
  constructor
  · intro h w hw
    have := this.mp (by omega) w hw
    omega
  · intro h
    have := this.mpr fun w hw => by have := h w hw; omega
    omega
theorem zone_ix {k : Nat} (hk : k < 13) (h : HI) : oIx (.lst (pairsN.map pr)) (.int (k : Nat)) h = some (pr (pz k), h) := by
  rcases lt13 hk with rfl | rfl | rfl | rfl | rfl | rfl | rfl | rfl | rfl | rfl | rfl | rfl | rfl <;> kernel_rfl
theorem side_ix {s : Nat} (hs : s < 2) (k : Nat) (h : HI) : oIx (pr (pz k)) (.int (s : Nat)) h = some (.int (zs s k), h) := by
  rcases two_cases hs with rfl | rfl
  · simp [pr, zs]
  · simp [pr, zs]
theorem e_lside (m : Nat) {s : Nat} (hs : s < 2) (o : Nat) (ho : o < 2) (h : HI) : F__law_side [.int (m : Nat), .int (s : Nat), .int (o : Nat)] h = some (.int (lat s m - 1 - 2 * (o : Int)), h) := by
  obtain ⟨l', h', e, ⟨z, rfl⟩, rfl⟩ := walk_fold (i := 4) (body := L__law_side_0) (fun (k : Nat) => Dt.int (k : Int)) (fun (a : Int) l h' => (∃ z, l = [some (.int (m : Nat)), some (.int (s : Nat)), some (.int (o : Nat)), some (.int a), z]) ∧ h' = h) (fun a w => if m.testBit w = true then max a (zs s w) else a) (List.range 13) (by
    rintro k hk a l h ⟨⟨z, rfl⟩, rfl⟩
    have hk := List.mem_range.mp hk
    have b := bit_at m k
    refine ⟨.nx [some (.int (m : Nat)), some (.int (s : Nat)), some (.int (o : Nat)), some (.int (if m.testBit k = true then max a (zs s k) else a)), some (.int (k : Nat))] h, ?_, ⟨_, rfl⟩, rfl⟩
    simp only [L__law_side_0, q_sIf, q_tB, q_e2, q_eV, q_eC, List.set_cons_zero, List.set_cons_succ, List.getElem?_cons_zero, List.getElem?_cons_succ, getV_some, bnd_some, o_shr (show (0 : Int) ≤ (k : Int) by omega), Int.toNat_natCast, o_band, o_eq, tbK_bl, b]
    by_cases hb : m.testBit k = true
    · simp only [hb, if_true, q_sSet, q_F2, q_eV, q_e2, q_call0, e_pairs, bnd_some, List.getElem?_cons_zero, List.getElem?_cons_succ, getV_some, zone_ix hk, side_ix hs, f_max2, Option.map_some, List.set_cons_zero, List.set_cons_succ]
    · simp [hb]) 0 [some (.int (m : Nat)), some (.int (s : Nat)), some (.int (o : Nat)), some (.int 0), none] h ⟨⟨none, rfl⟩, rfl⟩
  have u := o_mul (h := h') (i := 2) (j := (o : Int)) (Or.inl ⟨by decide, by decide⟩)
  have e' : walkL (gSet 4) L__law_side_0 (List.map (fun (k : Nat) => Dt.int (k : Int)) (List.range 13)) [some (.int (m : Nat)), some (.int (s : Nat)), some (.int (o : Nat)), some (.int 0), none] h' = some (.nx [some (.int (m : Nat)), some (.int (s : Nat)), some (.int (o : Nat)), some (.int (lat s m)), z] h') := e
  simp [F__law_side, B__law_side, r13, e', u]
theorem due_app {h : HI} {F : List Bd} {l : LI} {g : RE} {d : Bd} (eg : g l (h ++ [.lst (F.map trip)]) = some (trip d, h ++ [.lst (F.map trip)])) (hF : F.length < 100000) : appK g l (.ref h.length, h ++ [.lst (F.map trip)]) = some (.non, h ++ [.lst ((F ++ [d]).map trip)]) := by
  have := appK_ref (h := h ++ [.lst (F.map trip)]) (l := l) (n := h.length) (ys := F.map trip) (xs := F.map trip) (d := trip d) (by simp) eg (by simp) (by rw [List.length_map]; exact Nat.lt_of_lt_of_le hF (by decide))
  rw [this]
  simp
theorem rfg_at {α : Type} {bd : RG} {n : Nat} {body : RS} (D : α → Dt) (S : Nat → LI → HI → Prop) (xs : List α) (hS : ∀ k l h, S k l h → h[n]? = some (.lst (xs.map D))) (H : ∀ (k : Nat) x, xs[k]? = some x → ∀ l h, S k l h → ∃ l1 r, bd (D x) l = some l1 ∧ body l1 h = some r ∧ Pass (S (k + 1)) r)
    (l : LI) (h : HI) (h0 : S 0 l h) : ∃ l' h', forK bd body l (.rf n, h) = some (.nx l' h') ∧ S xs.length l' h' := by
  have go : ∀ (f k : Nat) (l : LI) (h : HI), S k l h → f = xs.length - k + 1 → k ≤ xs.length → ∃ l' h', forL bd body (.rf n) f k l h = some (.nx l' h') ∧ S xs.length l' h' := by
    intro f
    induction f with
    | zero => intro k l h _ e; omega
    | succ f ih =>
      intro k l h i0 e hk
      unfold forL
      simp only [Src.at, hS k l h i0, List.getElem?_map]
      by_cases hl : k < xs.length
      · rw [List.getElem?_eq_getElem hl]
        obtain ⟨l1, r, e0, e1, p1⟩ := H k xs[k] (List.getElem?_eq_getElem hl) l h i0
        simp only [Option.map_some, e0, Option.bind_some, e1]
        cases r with
        | nx l2 h2 => exact ih (k + 1) l2 h2 p1 (by omega) (by omega)
        | ct l2 h2 => exact ih (k + 1) l2 h2 p1 (by omega) (by omega)
        | bk l2 h2 => exact p1.elim
        | rt d h2 => exact p1.elim
      · rw [List.getElem?_eq_none (by omega)]
        have : k = xs.length := by omega
        subst this
        exact ⟨l, h, rfl, i0⟩
  have hf : Src.fuel (.rf n) h = xs.length - 0 + 1 := by simp only [Src.fuel, hS 0 l h h0, List.length_map]; omega
  unfold forK
  exact go _ 0 l h h0 hf (Nat.zero_le _)
end G
namespace G
open PySem PySem.Spec PyProof.Rows L2 SM BF
def dk (f : Nat → Nat → Nat) (i j k : Nat) : List Bd := if i ≠ j ∧ lat (k / 2) (f i j) - 1 - 2 * ((k % 2 : Nat) : Int) ≤ 0 then [(2 * i + k / 2, 2 * j + k % 2, if lat (k / 2) (f i j) - 1 - 2 * ((k % 2 : Nat) : Int) < 0 then -1 else 0)] else []
def dj (f : Nat → Nat → Nat) (i j : Nat) : List Bd := (List.range 4).flatMap (dk f i j)
def di (f : Nat → Nat → Nat) (c i : Nat) : List Bd := (List.range c).flatMap (dj f i)
def dueL (c : Nat) (f : Nat → Nat → Nat) (ls : List Ln) : List Bd := ownB c ++ ls.flatMap (lenB (2 * c + 1)) ++ (List.range c).flatMap (di f c)
theorem flat_len2 {α β : Type} (g : α → List β) {n : Nat} : ∀ xs : List α, (∀ x, (g x).length ≤ n) → (xs.flatMap g).length ≤ n * xs.length := by
  intro xs h
  induction xs with
  | nil => simp
  | cons x xs ih => rw [List.flatMap_cons, List.length_append, List.length_cons, Nat.mul_succ]; have := h x; omega
theorem dk_len (f : Nat → Nat → Nat) (i j k : Nat) : (dk f i j k).length ≤ 1 := by unfold dk; split <;> simp
theorem dj_len (f : Nat → Nat → Nat) (i j : Nat) : (dj f i j).length ≤ 4 := by
  have := flat_len2 (dk f i j) (List.range 4) (dk_len f i j)
  rw [List.length_range] at this
  exact this
theorem flat_succ {β : Type} (g : Nat → List β) (k : Nat) : (List.range (k + 1)).flatMap g = (List.range k).flatMap g ++ g k := by
  rw [List.range_succ, List.flatMap_append]; simp
theorem due2 {h : HI} {b c : Nat} {f : Nat → Nat → Nat} (N : NetAt h b c f) {i j : Nat} (hi : i < c) (hj : j < c) {F : List Bd} (hF : F.length ≤ 3000) (x1 x2 x5 x6 x8 x9 : Option Dt) :
    ∃ y8 y9, walkL (gSet 8) L__law_due_2 ((List.range 4).map fun (k : Nat) => Dt.int (k : Int)) [some (.ref (b + c)), x1, x2, some (.ref h.length), some (.int (i : Nat)), x5, x6, some (.int (j : Nat)), x8, x9] (h ++ [.lst (F.map trip)]) =
      some (.nx [some (.ref (b + c)), x1, x2, some (.ref h.length), some (.int (i : Nat)), x5, x6, some (.int (j : Nat)), y8, y9] (h ++ [.lst ((F ++ dj f i j).map trip)])) := by
  obtain ⟨l', h', e, ⟨y8, y9, rfl⟩, rfl, _⟩ := walk_range (i := 8) (body := L__law_due_2) (fun (k : Nat) => Dt.int (k : Int)) (fun k l h' => (∃ y8 y9, l = [some (.ref (b + c)), x1, x2, some (.ref h.length), some (.int (i : Nat)), x5, x6, some (.int (j : Nat)), y8, y9]) ∧ h' = h ++ [.lst ((F ++ (List.range k).flatMap (dk f i j)).map trip)] ∧ ((List.range k).flatMap (dk f i j)).length ≤ k) 4 (by
    rintro k hk l h' ⟨⟨y8, y9, rfl⟩, rfl, hlen⟩
    have N' := N.grow [.lst ((F ++ (List.range k).flatMap (dk f i j)).map trip)]
    have d1 := o_div (h := h ++ [.lst ((F ++ (List.range k).flatMap (dk f i j)).map trip)]) (i := (k : Int)) (j := 2) ⟨by decide, by decide⟩
    have m1 := o_mod (h := h ++ [.lst ((F ++ (List.range k).flatMap (dk f i j)).map trip)]) (i := (k : Int)) (j := 2) (by decide)
    have c1 : (k : Int) / 2 = ((k / 2 : Nat) : Int) := by omega
    have c2 : (k : Int) % 2 = ((k % 2 : Nat) : Int) := by omega
    rw [c1] at d1
    rw [c2] at m1
    have es := e_lside (f i j) (s := k / 2) (by omega) (k % 2) (by omega) (h ++ [.lst ((F ++ (List.range k).flatMap (dk f i j)).map trip)])
    have u := fun (x : Int) (h : HI) => o_mul (h := h) (i := 2) (j := x) (Or.inl ⟨by decide, by decide⟩)
    have dl := dk_len f i j k
    refine ⟨.nx [some (.ref (b + c)), x1, x2, some (.ref h.length), some (.int (i : Nat)), x5, x6, some (.int (j : Nat)), some (.int (k : Nat)), some (.int (lat (k / 2) (f i j) - 1 - 2 * ((k % 2 : Nat) : Int)))] (h ++ [.lst ((F ++ (List.range (k + 1)).flatMap (dk f i j)).map trip)]), ?_, ⟨_, _, rfl⟩, rfl, by rw [flat_succ, List.length_append]; omega⟩
    have ed : dk f i j k = if i ≠ j ∧ lat (k / 2) (f i j) - 1 - 2 * ((k % 2 : Nat) : Int) ≤ 0 then [(2 * i + k / 2, 2 * j + k % 2, if lat (k / 2) (f i j) - 1 - 2 * ((k % 2 : Nat) : Int) < 0 then -1 else 0)] else [] := rfl
    rw [flat_succ]
    generalize (List.range k).flatMap (dk f i j) = G at *
    generalize dk f i j k = dkk at *
    generalize k / 2 = s at *
    generalize k % 2 = o at *
    simp only [L__law_due_2, q_sSeq, q_sSet, q_call, q_aCons, q_aNil, q_e2, q_eV, q_eC, List.set_cons_zero, List.set_cons_succ, List.getElem?_cons_zero, List.getElem?_cons_succ, getV_some, bnd_some, N'.ix hi, N'.ix2 hi hj, d1, m1, List.append_nil, es, sqK_nx, q_sIf, q_tAnd, q_tB, o_ne, o_le, tbK_bl]
    generalize lat s (f i j) - 1 - 2 * (o : Int) = off at *
    by_cases q1 : i = j
    · have z : decide (((i : Nat) : Int) = ((j : Nat) : Int)) = true := decide_eq_true (by omega)
      have zz : dkk = [] := by rw [ed, if_neg (fun w => w.1 q1)]
      rw [zz, List.append_nil]
      simp only [z, Bool.not_true, Bool.false_eq_true, if_false, bnd_some, q_sNil]
    · have z : decide (((i : Nat) : Int) = ((j : Nat) : Int)) = false := decide_eq_false (by omega)
      simp only [z, Bool.not_false, if_true, bnd_some]
      by_cases q2 : off ≤ 0
      · have zz : dkk = [(2 * i + s, 2 * j + o, if off < 0 then -1 else 0)] := by rw [ed, if_pos ⟨q1, q2⟩]
        have ap := due_app (h := h) (F := F ++ G) (l := [some (.ref (b + c)), x1, x2, some (.ref h.length), some (.int (i : Nat)), x5, x6, some (.int (j : Nat)), some (.int (k : Nat)), some (.int off)])
          (g := eTup (aCons (e2 oAdd (e2 oMul (eC (.int 2)) (eV 4)) (e2 oDiv (eV 8) (eC (.int 2)))) (aCons (e2 oAdd (e2 oMul (eC (.int 2)) (eV 7)) (e2 oMod (eV 8) (eC (.int 2)))) (aCons (uNeg (eF1 fInt (e2 oLt (eV 9) (eC (.int 0))))) aNil)))) (d := (2 * i + s, 2 * j + o, if off < 0 then -1 else 0)) (by
          simp only [q_eTup, q_aCons, q_aNil, q_e2, q_eV, q_eC, q_neg, q_F1, List.getElem?_cons_zero, List.getElem?_cons_succ, getV_some, bnd_some, u, d1, m1, o_add, o_lt, f_intB, negK_int, List.length_cons, List.length_nil]
          rw [if_pos (by decide)]
          by_cases q3 : off < 0
          · simp only [trip, q3, decide_true, if_true]; simp
          · simp only [trip, q3, decide_false, if_false, Bool.false_eq_true]; simp) (by rw [List.length_append]; omega)
        rw [zz]
        simp only [q2, decide_true, if_true, q_sDrop, q_append, q_eV, List.getElem?_cons_zero, List.getElem?_cons_succ, getV_some, bnd_some, ap, List.append_assoc]
      · have zz : dkk = [] := by rw [ed, if_neg (fun w => q2 w.2)]
        rw [zz, List.append_nil]
        simp only [q2, decide_false, Bool.false_eq_true, if_false, bnd_some, q_sNil]) [some (.ref (b + c)), x1, x2, some (.ref h.length), some (.int (i : Nat)), x5, x6, some (.int (j : Nat)), x8, x9] (h ++ [.lst (F.map trip)]) ⟨⟨_, _, rfl⟩, by simp, by simp⟩
  exact ⟨y8, y9, e⟩
end G
namespace G
open PySem PySem.Spec PyProof.Rows L2 SM BF
theorem r1_nat {c : Nat} (hc : c ≤ 1000) (h : HI) : r1K (.int (c : Nat), h) = some (.vals ((List.range c).map fun (k : Nat) => Dt.int (k : Int)), h) := by
  have er := r1K_int (h := h) (show (-(2 ^ 62) : Int) ≤ (c : Int) by omega) (show (c : Int) < 2 ^ 62 by omega)
  simp only [Int.toNat_natCast] at er
  exact er
theorem r1_4 (h : HI) : r1K (.int 4, h) = some (.vals ((List.range 4).map fun (k : Nat) => Dt.int (k : Int)), h) := r1K_int (by decide) (by decide)
theorem due3 {h : HI} {b c : Nat} {f : Nat → Nat → Nat} (N : NetAt h b c f) (hc : c ≤ 8) {i : Nat} (hi : i < c) {F : List Bd} (hF : F.length ≤ 2000) (x1 x5 x6 x7 x8 x9 : Option Dt) :
    ∃ y7 y8 y9, walkL (gSet 7) L__law_due_3 ((List.range c).map fun (k : Nat) => Dt.int (k : Int)) [some (.ref (b + c)), x1, some (.int (c : Nat)), some (.ref h.length), some (.int (i : Nat)), x5, x6, x7, x8, x9] (h ++ [.lst (F.map trip)]) =
      some (.nx [some (.ref (b + c)), x1, some (.int (c : Nat)), some (.ref h.length), some (.int (i : Nat)), x5, x6, y7, y8, y9] (h ++ [.lst ((F ++ di f c i).map trip)])) := by
  obtain ⟨l', h', e, ⟨y7, y8, y9, rfl⟩, rfl, _⟩ := walk_range (i := 7) (body := L__law_due_3) (fun (k : Nat) => Dt.int (k : Int)) (fun j l h' => (∃ y7 y8 y9, l = [some (.ref (b + c)), x1, some (.int (c : Nat)), some (.ref h.length), some (.int (i : Nat)), x5, x6, y7, y8, y9]) ∧ h' = h ++ [.lst ((F ++ (List.range j).flatMap (dj f i)).map trip)] ∧ ((List.range j).flatMap (dj f i)).length ≤ 4 * j) c (by
    rintro j hj l h' ⟨⟨y7, y8, y9, rfl⟩, rfl, hlen⟩
    obtain ⟨z8, z9, e⟩ := due2 N hi hj (F := F ++ (List.range j).flatMap (dj f i)) (by rw [List.length_append]; omega) x1 (some (.int (c : Nat))) x5 x6 y8 y9
    have dl := dj_len f i j
    refine ⟨.nx [some (.ref (b + c)), x1, some (.int (c : Nat)), some (.ref h.length), some (.int (i : Nat)), x5, x6, some (.int (j : Nat)), z8, z9] (h ++ [.lst ((F ++ (List.range (j + 1)).flatMap (dj f i)).map trip)]), ?_, ⟨_, _, _, rfl⟩, rfl, by rw [flat_succ, List.length_append]; omega⟩
    rw [flat_succ, ← List.append_assoc]
    simp only [L__law_due_3, q_sFor, q_iR1, q_eC, bnd_some, r1_4, forK_vals, List.set_cons_zero, List.set_cons_succ, e]) [some (.ref (b + c)), x1, some (.int (c : Nat)), some (.ref h.length), some (.int (i : Nat)), x5, x6, x7, x8, x9] (h ++ [.lst (F.map trip)]) ⟨⟨_, _, _, rfl⟩, by simp, by simp⟩
  exact ⟨y7, y8, y9, e⟩
theorem di_len (f : Nat → Nat → Nat) (c i : Nat) : (di f c i).length ≤ 4 * c := by
  have := flat_len2 (dj f i) (List.range c) (dj_len f i)
  rw [List.length_range] at this
  exact this
theorem due4 {h : HI} {b c : Nat} {f : Nat → Nat → Nat} (N : NetAt h b c f) (hc : c ≤ 8) {F : List Bd} (hF : F.length ≤ 1000) (x1 x4 x5 x6 x7 x8 x9 : Option Dt) :
    ∃ l', walkL (gSet 4) L__law_due_4 ((List.range c).map fun (k : Nat) => Dt.int (k : Int)) [some (.ref (b + c)), x1, some (.int (c : Nat)), some (.ref h.length), x4, x5, x6, x7, x8, x9] (h ++ [.lst (F.map trip)]) =
      some (.nx (some (.ref (b + c)) :: x1 :: some (.int (c : Nat)) :: some (.ref h.length) :: l') (h ++ [.lst ((F ++ (List.range c).flatMap (di f c)).map trip)])) := by
  obtain ⟨l', h', e, ⟨y4, y7, y8, y9, rfl⟩, rfl, _⟩ := walk_range (i := 4) (body := L__law_due_4) (fun (k : Nat) => Dt.int (k : Int)) (fun i l h' => (∃ y4 y7 y8 y9, l = [some (.ref (b + c)), x1, some (.int (c : Nat)), some (.ref h.length), y4, x5, x6, y7, y8, y9]) ∧ h' = h ++ [.lst ((F ++ (List.range i).flatMap (di f c)).map trip)] ∧ ((List.range i).flatMap (di f c)).length ≤ 32 * i) c (by
    rintro i hi l h' ⟨⟨y4, y7, y8, y9, rfl⟩, rfl, hlen⟩
    obtain ⟨z7, z8, z9, e⟩ := due3 N hc hi (F := F ++ (List.range i).flatMap (di f c)) (by rw [List.length_append]; omega) x1 x5 x6 y7 y8 y9
    have dl := di_len f c i
    refine ⟨.nx [some (.ref (b + c)), x1, some (.int (c : Nat)), some (.ref h.length), some (.int (i : Nat)), x5, x6, z7, z8, z9] (h ++ [.lst ((F ++ (List.range (i + 1)).flatMap (di f c)).map trip)]), ?_, ⟨_, _, _, _, rfl⟩, rfl, by rw [flat_succ, List.length_append]; omega⟩
    rw [flat_succ, ← List.append_assoc]
    simp only [L__law_due_4, q_sFor, q_iR1, q_eV, List.set_cons_zero, List.set_cons_succ, List.getElem?_cons_zero, List.getElem?_cons_succ, getV_some, bnd_some, r1_nat (show c ≤ 1000 by omega), forK_vals, e]) [some (.ref (b + c)), x1, some (.int (c : Nat)), some (.ref h.length), x4, x5, x6, x7, x8, x9] (h ++ [.lst (F.map trip)]) ⟨⟨_, _, _, _, rfl⟩, by simp, by simp⟩
  exact ⟨_, e⟩
theorem due1 {h : HI} {a c : Nat} (hc : c ≤ 8) {ls : List Ln} (hl : ls.length ≤ 100) (da : h[a]? = some (.lst (ls.map lenD))) (x0 x1 x4 x5 x6 x7 x8 x9 : Option Dt) :
    ∃ y4 y5 y6, forK (gSet3 4 5 6) L__law_due_1 [x0, x1, some (.int (c : Nat)), some (.ref h.length), x4, x5, x6, x7, x8, x9] (.rf a, h ++ [.lst ((ownB c).map trip)]) =
      some (.nx [x0, x1, some (.int (c : Nat)), some (.ref h.length), y4, y5, y6, x7, x8, x9] (h ++ [.lst ((ownB c ++ ls.flatMap (lenB (2 * c + 1))).map trip)])) := by
  have alt := (List.getElem?_eq_some_iff.mp da).1
  have ol : (ownB c).length = c := by simp [ownB]
  obtain ⟨l', h', e, ⟨y4, y5, y6, rfl⟩, rfl, _⟩ := rfg_at (bd := gSet3 4 5 6) (n := a) (body := L__law_due_1) lenD (fun k l h' => (∃ y4 y5 y6, l = [x0, x1, some (.int (c : Nat)), some (.ref h.length), y4, y5, y6, x7, x8, x9]) ∧ h' = h ++ [.lst ((ownB c ++ (ls.take k).flatMap (lenB (2 * c + 1))).map trip)] ∧ ((ls.take k).flatMap (lenB (2 * c + 1))).length ≤ 2 * k) ls (by
    rintro k l h' ⟨_, rfl, _⟩
    rw [List.getElem?_append_left alt]; exact da) (by
    rintro k ⟨i, lo, hi⟩ hx l h' ⟨⟨y4, y5, y6, rfl⟩, rfl, hk⟩
    have kl : k < ls.length := (List.getElem?_eq_some_iff.mp hx).1
    have u := fun (x : Int) (h : HI) => o_mul (h := h) (i := 2) (j := x) (Or.inl ⟨by decide, by decide⟩)
    have g1 : (2 * (c : Int) + 1) = ((2 * c + 1 : Nat) : Int) := by omega
    have um := fun (x : Int) (h : HI) => o_mul (h := h) (i := x) (j := ((2 * c + 1 : Nat) : Int)) (Or.inr ⟨by omega, by omega⟩)
    generalize hG : ownB c ++ (ls.take k).flatMap (lenB (2 * c + 1)) = G at *
    have gl : G.length ≤ 1000 := by rw [← hG, List.length_append, ol]; omega
    have a1 := due_app (h := h) (F := G) (l := [x0, x1, some (.int (c : Nat)), some (.ref h.length), some (.int (i : Nat)), some (.int lo), some (.int hi), x7, x8, x9]) (g := eTup (aCons (e2 oMul (eC (.int 2)) (eV 4)) (aCons (e2 oAdd (e2 oMul (eC (.int 2)) (eV 4)) (eC (.int 1))) (aCons (e2 oMul (uNeg (eV 5)) (e2 oAdd (e2 oMul (eC (.int 2)) (eV 2)) (eC (.int 1)))) aNil)))) (d := (2 * i, 2 * i + 1, -lo * ((2 * c + 1 : Nat) : Int))) (by
      simp only [q_eTup, q_aCons, q_aNil, q_e2, q_eV, q_eC, q_neg, List.getElem?_cons_zero, List.getElem?_cons_succ, getV_some, bnd_some, u, o_add, negK_int, g1, um, List.length_cons, List.length_nil]
      rw [if_pos (by decide)]
      simp only [trip]; simp) (by omega)
    have a2 := due_app (h := h) (F := G ++ [(2 * i, 2 * i + 1, -lo * ((2 * c + 1 : Nat) : Int))]) (l := [x0, x1, some (.int (c : Nat)), some (.ref h.length), some (.int (i : Nat)), some (.int lo), some (.int hi), x7, x8, x9]) (g := eTup (aCons (e2 oAdd (e2 oMul (eC (.int 2)) (eV 4)) (eC (.int 1))) (aCons (e2 oMul (eC (.int 2)) (eV 4)) (aCons (e2 oMul (eV 6) (e2 oAdd (e2 oMul (eC (.int 2)) (eV 2)) (eC (.int 1)))) aNil)))) (d := (2 * i + 1, 2 * i, hi * ((2 * c + 1 : Nat) : Int))) (by
      simp only [q_eTup, q_aCons, q_aNil, q_e2, q_eV, q_eC, q_neg, List.getElem?_cons_zero, List.getElem?_cons_succ, getV_some, bnd_some, u, o_add, negK_int, g1, um, List.length_cons, List.length_nil]
      rw [if_pos (by decide)]
      simp only [trip]; simp) (by rw [List.length_append]; simp; omega)
    refine ⟨[x0, x1, some (.int (c : Nat)), some (.ref h.length), some (.int (i : Nat)), some (.int lo), some (.int hi), x7, x8, x9], .nx [x0, x1, some (.int (c : Nat)), some (.ref h.length), some (.int (i : Nat)), some (.int lo), some (.int hi), x7, x8, x9] (h ++ [.lst ((G ++ [(2 * i, 2 * i + 1, -lo * ((2 * c + 1 : Nat) : Int))] ++ [(2 * i + 1, 2 * i, hi * ((2 * c + 1 : Nat) : Int))]).map trip)]), rfl, ?_, ⟨_, _, _, rfl⟩, ?_, ?_⟩
    · simp only [L__law_due_1, q_sSeq, q_sDrop, q_append, q_eV, List.getElem?_cons_zero, List.getElem?_cons_succ, getV_some, bnd_some, a1, sqK_nx, a2]
    · rw [flat_take _ hx, ← hG]
      simp [lenB]
    · rw [flat_take _ hx, List.length_append]
      have : (lenB (2 * c + 1) (i, lo, hi)).length = 2 := rfl
      omega) [x0, x1, some (.int (c : Nat)), some (.ref h.length), x4, x5, x6, x7, x8, x9] (h ++ [.lst ((ownB c).map trip)]) ⟨⟨_, _, _, rfl⟩, by simp, by simp⟩
  rw [List.take_length] at e
  exact ⟨y4, y5, y6, e⟩
theorem e_due {h : HI} {a b c : Nat} {f : Nat → Nat → Nat} (N : NetAt h b c f) (hc : c ≤ 8) {ls : List Ln} (hl : ls.length ≤ 100) (da : h[a]? = some (.lst (ls.map lenD))) :
    F__law_due [.ref (b + c), .ref a] h = some (.ref h.length, h ++ [.lst ((dueL c f ls).map trip)]) := by
  have u := fun (i : Int) (h : HI) => o_mul (h := h) (i := 2) (j := i) (Or.inl ⟨by decide, by decide⟩)
  have ec := compV_all (te := E__law_due_0) (tc := tTrue) (i := 0) (fun (k : Nat) => Dt.int (k : Int)) (fun k => trip (2 * k, 2 * k + 1, -1)) h (List.range c) [none] (by
    intro k _
    exact ⟨by simp, by simp [E__law_due_0, u, trip]⟩)
  have ek := compK_vals (l := [none]) (h := h) (gSet 0) tTrue E__law_due_0 (xs := (List.range c).map fun (k : Nat) => Dt.int (k : Int)) (by simp; omega)
  rw [ec] at ek
  have eo : (List.range c).map (fun k => trip (2 * k, 2 * k + 1, -1)) = (ownB c).map trip := by unfold ownB; rw [List.map_map]; rfl
  rw [eo] at ek
  have alt := (List.getElem?_eq_some_iff.mp da).1
  have da' : (h ++ [Ob.lst ((ownB c).map trip)])[a]? = some (.lst (ls.map lenD)) := by rw [List.getElem?_append_left alt]; exact da
  obtain ⟨y4, y5, y6, e1⟩ := due1 (c := c) hc hl da (some (.ref (b + c))) (some (.ref a)) none none none none none none
  have fl : (ls.flatMap (lenB (2 * c + 1))).length ≤ 2 * ls.length := flat_len2 _ ls fun x => Nat.le_refl _
  have ol : (ownB c).length = c := by simp [ownB]
  obtain ⟨l', e4⟩ := due4 N hc (F := ownB c ++ ls.flatMap (lenB (2 * c + 1))) (by rw [List.length_append, ol]; omega) (some (.ref a)) y4 y5 y6 none none none
  have nl := N.len
  unfold dueL
  simp only [F__law_due, B__law_due, q_fn, List.length_cons, List.length_nil, if_true, List.map_cons, List.map_nil, Nat.reduceAdd, Nat.reduceSub, List.replicate, List.cons_append, List.nil_append, q_sSeq, q_sSet, q_eCompN, q_iR1, q_F1, q_eV, List.getElem?_cons_zero, List.getElem?_cons_succ, getV_some, bnd_some, nl, r1_nat (show c ≤ 1000 by omega), cap_none, cap_nil, ek, List.set_cons_succ, List.set_cons_zero, sqK_nx, q_sFor, q_iLst, seqK_ref da', e1, forK_vals, e4, q_sRet, finK_rt]
end G
namespace G
open PySem PySem.Spec PyProof.Rows L2 SM BF
theorem pairs_lt {c : Nat} {p : Nat × Nat} (h : p ∈ pairsL c) : p.1 < p.2 ∧ p.2 < c := by
  unfold pairsL pairsTo at h
  obtain ⟨i, hi, h⟩ := List.mem_flatMap.mp h
  obtain ⟨k, hk, rfl⟩ := List.mem_map.mp h
  have := List.mem_range.mp hi
  have := List.mem_range.mp hk
  exact ⟨by show i < i + 1 + k; omega, by show i + 1 + k < c; omega⟩
theorem pairs_all {c i j : Nat} (h1 : i < j) (h2 : j < c) : (i, j) ∈ pairsL c := by
  unfold pairsL pairsTo
  refine List.mem_flatMap.mpr ⟨i, List.mem_range.mpr (by omega), List.mem_map.mpr ⟨j - i - 1, List.mem_range.mpr (by omega), ?_⟩⟩
  rw [show i + 1 + (j - i - 1) = j by omega]
theorem flat_len {α β : Type} (f : α → List β) (n : Nat) : ∀ (xs : List α) (_ : ∀ x ∈ xs, (f x).length ≤ n), (xs.flatMap f).length ≤ n * xs.length
  | [], _ => by simp
  | x :: xs, h => by
    have := flat_len f n xs (fun y hy => h y (by simp [hy]))
    have := h x (by simp)
    rw [List.flatMap_cons, List.length_append, List.length_cons, Nat.mul_succ]
    omega
theorem bnds_len {c : Nat} (hc : c ≤ 8) (N : Nat → Nat → Nat) {ls : List Ln} (hl : ls.length ≤ 100) : (bndsL c N ls).length ≤ 1000 := by
  unfold bndsL
  rw [List.length_append, List.length_append]
  have a1 : (ownB c).length = c := by simp [ownB]
  have a2 := flat_len (lenB (2 * c + 1)) 2 ls (fun x _ => Nat.le_refl _)
  have a3 := flat_len (fun p : Nat × Nat => setB p.1 (N p.1 p.2) p.2) 8 (pairsL c) (fun x _ => by
    unfold setB
    rw [List.length_append]
    have := sideB_len x.1 x.2 0 (N x.1 x.2)
    have := sideB_len x.1 x.2 1 (N x.1 x.2)
    omega)
  have a4 := pairs_len c c
  have h2 : c * c ≤ 8 * 8 := Nat.mul_le_mul hc hc
  have a5 : (pairsL c).length ≤ 64 := by unfold pairsL; omega
  omega
end G
namespace G
open PySem PySem.Spec PyProof.Rows L2 SM BF
theorem mem_dk {f : Nat → Nat → Nat} {i j k : Nat} (hk : k < 4) {e : Bd} : e ∈ dk f i j k ↔ i ≠ j ∧ (∀ w ∈ waysL (f i j), zs (k / 2) w ≤ 1 + 2 * ((k % 2 : Nat) : Int)) ∧ e = (2 * i + k / 2, 2 * j + k % 2, if (∀ w ∈ waysL (f i j), zs (k / 2) w < 1 + 2 * ((k % 2 : Nat) : Int)) then -1 else 0) := by
  have a1 : lat (k / 2) (f i j) - 1 - 2 * ((k % 2 : Nat) : Int) ≤ 0 ↔ ∀ w ∈ waysL (f i j), zs (k / 2) w ≤ 1 + 2 * ((k % 2 : Nat) : Int) := by
    rw [← lat_le (by omega)]; omega
  have a2 : lat (k / 2) (f i j) - 1 - 2 * ((k % 2 : Nat) : Int) < 0 ↔ ∀ w ∈ waysL (f i j), zs (k / 2) w < 1 + 2 * ((k % 2 : Nat) : Int) := by
    rw [← lat_lt (by omega)]; omega
  unfold dk
  simp only [a1, a2]
  constructor
  · intro h
    split at h
    · rename_i q; exact ⟨q.1, q.2, List.mem_singleton.mp h⟩
    · cases h
  · rintro ⟨q1, q2, rfl⟩
    rw [if_pos ⟨q1, q2⟩]; exact List.mem_singleton.mpr rfl
theorem mem_dj {f : Nat → Nat → Nat} {i j : Nat} {e : Bd} : e ∈ dj f i j ↔ i ≠ j ∧ dueB i j (f i j) e := by
  unfold dj
  rw [List.mem_flatMap]
  constructor
  · rintro ⟨k, hk, h⟩
    have hk := List.mem_range.mp hk
    obtain ⟨h1, h2, h3⟩ := (mem_dk hk).mp h
    exact ⟨h1, k / 2, k % 2, by omega, by omega, h2, h3⟩
  · rintro ⟨h1, s, o, hs, ho, h2, h3⟩
    refine ⟨2 * s + o, List.mem_range.mpr (by omega), (mem_dk (by omega)).mpr ?_⟩
    rw [show (2 * s + o) / 2 = s by omega, show (2 * s + o) % 2 = o by omega]
    exact ⟨h1, h2, h3⟩
theorem same_sets {c : Nat} {N : Nat → Nat → Nat} (hN : ∀ i j, waysL (N i j) ≠ []) (ht : ∀ i j, i < c → j < c → i ≠ j → N j i = turnS (N i j)) (ls : List Ln) (e : Bd) : e ∈ bndsL c N ls ↔ e ∈ dueL c N ls := by
  unfold bndsL dueL
  rw [List.mem_append (s := ownB c ++ ls.flatMap (lenB (2 * c + 1))), List.mem_append (s := ownB c ++ ls.flatMap (lenB (2 * c + 1)))]
  refine or_congr Iff.rfl ?_
  rw [List.mem_flatMap, List.mem_flatMap]
  constructor
  · rintro ⟨⟨i, j⟩, hp, h⟩
    obtain ⟨h1, h2⟩ := pairs_lt hp
    dsimp only at h h1 h2
    have tn := ht i j (by omega) h2 (by omega)
    rcases (mem_setB (hN i j) (by rw [← tn]; exact hN j i)).mp h with h | h
    · exact ⟨i, List.mem_range.mpr (by omega), List.mem_flatMap.mpr ⟨j, List.mem_range.mpr h2, mem_dj.mpr ⟨by omega, h⟩⟩⟩
    · rw [← tn] at h
      exact ⟨j, List.mem_range.mpr h2, List.mem_flatMap.mpr ⟨i, List.mem_range.mpr (by omega), mem_dj.mpr ⟨by omega, h⟩⟩⟩
  · rintro ⟨i, hi, h⟩
    obtain ⟨j, hj, h⟩ := List.mem_flatMap.mp h
    obtain ⟨ne, h⟩ := mem_dj.mp h
    have hi := List.mem_range.mp hi
    have hj := List.mem_range.mp hj
    by_cases q : i < j
    · have tn := ht i j hi hj ne
      exact ⟨(i, j), pairs_all q hj, (mem_setB (hN i j) (by rw [← tn]; exact hN j i)).mpr (.inl h)⟩
    · have tn := ht j i hj hi (Ne.symm ne)
      refine ⟨(j, i), pairs_all (by omega) hi, (mem_setB (hN j i) (by rw [← tn]; exact hN i j)).mpr (.inr ?_)⟩
      rw [← tn]; exact h
theorem di_len2 {f : Nat → Nat → Nat} {i : Nat} : ∀ n, ((List.range n).flatMap (dj f i)).length + (if i < n then 4 else 0) ≤ 4 * n := by
  intro n
  induction n with
  | zero => simp
  | succ n ih =>
    rw [flat_succ, List.length_append]
    have h1 := dj_len f i n
    by_cases q : i < n
    · rw [if_pos q] at ih; rw [if_pos (by omega)]; omega
    · rw [if_neg q] at ih
      by_cases q2 : i = n
      · subst q2
        have z : dj f i i = [] := by
          apply List.eq_nil_iff_forall_not_mem.mpr
          intro e he
          exact (mem_dj.mp he).1 rfl
        rw [z, if_pos (by omega), List.length_nil]; omega
      · rw [if_neg (by omega)]; omega
theorem due_len {c : Nat} (hc : c ≤ 8) (f : Nat → Nat → Nat) {ls : List Ln} (hl : ls.length ≤ 30) : (dueL c f ls).length ≤ 300 := by
  unfold dueL
  have fl : (ls.flatMap (lenB (2 * c + 1))).length ≤ 2 * ls.length := flat_len2 _ ls fun x => Nat.le_refl _
  have ol : (ownB c).length = c := by simp [ownB]
  have : ∀ n, n ≤ c → ((List.range n).flatMap (di f c)).length ≤ 28 * n := by
    intro n
    induction n with
    | zero => intro _; simp
    | succ n ih =>
      intro hn
      rw [flat_succ, List.length_append]
      have h1 := ih (by omega)
      have h2 := di_len2 (f := f) (i := n) c
      rw [if_pos (by omega)] at h2
      have h3 : (di f c n).length = ((List.range c).flatMap (dj f n)).length := rfl
      omega
  have := this c (Nat.le_refl _)
  rw [List.length_append, List.length_append, ol]
  omega
theorem pairs_28 : ∀ c < 9, (pairsL c).length ≤ 28 := by decide +kernel
theorem bnd_len {c : Nat} (hc : c ≤ 8) (N : Nat → Nat → Nat) {ls : List Ln} (hl : ls.length ≤ 30) : (bndsL c N ls).length ≤ 300 := by
  unfold bndsL
  have fl : (ls.flatMap (lenB (2 * c + 1))).length ≤ 2 * ls.length := flat_len2 _ ls fun x => Nat.le_refl _
  have ol : (ownB c).length = c := by simp [ownB]
  have sl := flat_len2 (fun p : Nat × Nat => setB p.1 (N p.1 p.2) p.2) (n := 8) (pairsL c) fun p => by
    unfold setB
    rw [List.length_append]
    have := sideB_len p.1 p.2 0 (N p.1 p.2)
    have := sideB_len p.1 p.2 1 (N p.1 p.2)
    omega
  have := pairs_28 c (by omega)
  rw [List.length_append, List.length_append, ol]
  omega
def tr3 (e : Bd) : List Int := [(e.1 : Int), (e.2.1 : Int), e.2.2]
theorem tups_trip : ∀ F : List Bd, tupsOf (F.map trip) = some (F.map tr3) := by
  intro F
  induction F with
  | nil => rfl
  | cons e F ih =>
    simp only [List.map_cons, trip, tupsOf, ih]
    rfl
theorem uq_nodup : ∀ ks : List (List Int), (ST.uqT ks).Nodup := by
  have : ∀ (ks acc : List (List Int)), acc.Nodup → (ks.foldl ST.adT acc).Nodup := by
    intro ks
    induction ks with
    | nil => intro acc h; exact h
    | cons k ks ih =>
      intro acc h
      rw [List.foldl_cons]
      refine ih _ ?_
      unfold ST.adT
      split
      · exact h
      · rename_i q
        refine List.nodup_append.mpr ⟨h, by simp, fun x hx y hy z => ?_⟩
        cases List.mem_singleton.mp hy
        exact q (z ▸ hx)
  exact fun ks => this ks [] List.nodup_nil
theorem set_same {F G : List Bd} (h : ∀ e, e ∈ F ↔ e ∈ G) : decide ((ST.uqT (F.map tr3)).length = (ST.uqT (G.map tr3)).length ∧ ∀ k ∈ ST.uqT (F.map tr3), k ∈ ST.uqT (G.map tr3)) = true := by
  have m : ∀ k, k ∈ ST.uqT (F.map tr3) ↔ k ∈ ST.uqT (G.map tr3) := by
    intro k
    rw [ST.uqT_mem, ST.uqT_mem, List.mem_map, List.mem_map]
    exact ⟨fun ⟨e, a, b⟩ => ⟨e, (h e).mp a, b⟩, fun ⟨e, a, b⟩ => ⟨e, (h e).mpr a, b⟩⟩
  exact decide_eq_true ⟨((List.perm_ext_iff_of_nodup (uq_nodup _) (uq_nodup _)).mpr m).length_eq, fun k hk => (m k).mp hk⟩
end G
namespace G
open PySem PySem.Spec PyProof.Rows L2 SM BF
theorem walkG {bd : RG} {body : RS} (I : LI → HI → Prop) : ∀ (xs : List Dt) (_ : ∀ x ∈ xs, ∀ l h, I l h → ∃ l1 r, bd x l = some l1 ∧ body l1 h = some r ∧ Pass I r) (l : LI) (h : HI), I l h → ∃ l' h', walkL bd body xs l h = some (.nx l' h') ∧ I l' h' := by
  intro xs
  induction xs with
  | nil => intro _ l h i; exact ⟨l, h, rfl, i⟩
  | cons x xs ih =>
    intro H l h i
    obtain ⟨l1, r, e1, e2, p⟩ := H x (by simp) l h i
    cases r with
    | nx l2 h2 =>
      obtain ⟨l', h', e', i'⟩ := ih (fun y hy => H y (List.mem_cons_of_mem _ hy)) l2 h2 p
      exact ⟨l', h', by simp [walkL, e1, e2, e'], i'⟩
    | ct l2 h2 =>
      obtain ⟨l', h', e', i'⟩ := ih (fun y hy => H y (List.mem_cons_of_mem _ hy)) l2 h2 p
      exact ⟨l', h', by simp [walkL, e1, e2, e'], i'⟩
    | bk l2 h2 => exact p.elim
    | rt d h2 => exact p.elim
theorem enum_mem : ∀ (ms : List Int) (n : Nat), ∀ d ∈ enumD n (ms.map Dt.int), ∃ (k : Nat) (x : Int), d = .tup [.int (k : Nat), .int x] := by
  intro ms
  induction ms with
  | nil => intro n d hd; cases hd
  | cons m ms ih =>
    intro n d hd
    rcases List.mem_cons.mp hd with rfl | hd
    · exact ⟨n, m, rfl⟩
    · exact ih (n + 1) d hd
abbrev okM (m : Nat) : Prop := 0 < m ∧ m < 8192
theorem ok_pow {w : Nat} (h : w < 13) : okM (2 ^ w) := ⟨Nat.pow_pos (by decide), Nat.lt_of_lt_of_le (Nat.pow_lt_pow_right (by decide) h) (by decide)⟩
theorem ok_or {a b : Nat} (ha : okM a) (hb : okM b) : okM (a ||| b) := by
  refine ⟨?_, Nat.or_lt_two_pow (n := 13) ha.2 hb.2⟩
  have := Nat.left_le_or (n := a) (m := b)
  have := ha.1
  omega
theorem way13 (n : Int) (d : Int) : ∃ w : Nat, w < 13 ∧ n / d % 13 = (w : Int) := by
  obtain ⟨w, e⟩ := Int.eq_ofNat_of_zero_le (Int.emod_nonneg (n / d) (show (13 : Int) ≠ 0 by decide))
  exact ⟨w, by have := Int.emod_lt_of_pos (n / d) (show (0 : Int) < 13 by decide); omega, e⟩
theorem e_lsets (ns : List Int) (hl : ns.length ≤ 63) {c : Nat} (hc1 : 1 ≤ c) (hc : c ≤ 8) (h : HI) :
    ∃ ms : List Nat, ms.length = c * (c - 1) / 2 ∧ (∀ m ∈ ms, okM m) ∧ F__law_sets [.lst (ns.map Dt.int), .int (c : Nat)] h = some (.ref h.length, h ++ [.lst (ms.map fun (k : Nat) => Dt.int (k : Int))]) := by
  obtain ⟨P, hP⟩ : ∃ P, c * (c - 1) / 2 = P := ⟨_, rfl⟩
  have P28 : P ≤ 28 := by
    have h1 : c * (c - 1) ≤ 8 * 7 := Nat.mul_le_mul hc (by omega)
    omega
  have eP : ((c : Int) * ((c : Int) - 1)) / 2 = (P : Int) := by
    rw [← hP, show ((c : Int) - 1) = ((c - 1 : Nat) : Int) by omega]
    rw [← Int.natCast_mul]
    omega
  have mm : CMul (c : Int) ((c : Int) - 1) := .inl ⟨by omega, by omega⟩
  have dd : CDiv ((c : Int) * ((c : Int) - 1)) 2 := ⟨by decide, by decide⟩
  have u := fun (x : Int) (h : HI) => o_mul (h := h) (i := 2) (j := x) (Or.inl ⟨by decide, by decide⟩)
  obtain ⟨l', h', e, ⟨y4, y5, y6, rfl⟩, ms, hms, hok, rfl⟩ := walk_range (i := 4) (body := L__law_sets_0) (fun (k : Nat) => Dt.int (k : Int)) (fun k l h' => (∃ y4 y5 y6, l = [some (.lst (ns.map Dt.int)), some (.int (c : Nat)), some (.int (P : Nat)), some (.ref h.length), y4, y5, y6]) ∧ ∃ ms : List Nat, ms.length = k ∧ (∀ m ∈ ms, okM m) ∧ h' = h ++ [.lst (ms.map fun (k : Nat) => Dt.int (k : Int))]) P (by
    rintro k hk l h' ⟨⟨y4, y5, y6, rfl⟩, ms, hms, hok, rfl⟩
    generalize hM : ((ns[0]?.getD 0) % 2147483647 + 11) * (16807 + 2 * (k : Int) * (k : Int)) % 2147483629 = M
    have em : ∀ h, F__law_mixed [.int (ns[0]?.getD 0), .int (16807 + 2 * (k : Int) * (k : Int))] h = some (.int M, h) := fun h => by rw [e_mixed, hM]
    obtain ⟨w, hw, ew⟩ := way13 M 64
    have d1 := fun (h : HI) => o_div (h := h) (i := M) (j := 64) ⟨by decide, by decide⟩
    have m1 := fun (h : HI) => o_mod (h := h) (i := M / 64) (j := 13) (by decide)
    have u2 := fun (h : HI) => o_mul (h := h) (i := 2 * (k : Int)) (j := (k : Int)) (Or.inl ⟨by omega, by omega⟩)
    have sh := fun (h : HI) => o_shl (h := h) (cShl hw)
    have c0 := e_cell ns 0
    have ap := appK_ref (l := [some (.lst (ns.map Dt.int)), some (.int (c : Nat)), some (.int (P : Nat)), some (.ref h.length), some (.int (k : Nat)), some (.int M), y6]) (h := h ++ [.lst (ms.map fun (k : Nat) => Dt.int (k : Int))]) (n := h.length) (g := e2 oShl (eC (.int 1)) (e2 oMod (e2 oDiv (eV 5) (eC (.int 64))) (eC (.int 13)))) (d := .int ((2 ^ w : Nat) : Int)) (ys := ms.map fun (k : Nat) => Dt.int (k : Int)) (xs := ms.map fun (k : Nat) => Dt.int (k : Int)) (h' := h ++ [.lst (ms.map fun (k : Nat) => Dt.int (k : Int))]) (by simp) (by
      simp only [q_e2, q_eC, q_eV, List.getElem?_cons_zero, List.getElem?_cons_succ, getV_some, bnd_some, d1, m1, ew, sh]
      simp) (by simp) (by rw [List.length_map]; exact Nat.lt_of_lt_of_le (show ms.length < 100 by omega) (by decide))
    refine ⟨.nx [some (.lst (ns.map Dt.int)), some (.int (c : Nat)), some (.int (P : Nat)), some (.ref h.length), some (.int (k : Nat)), some (.int M), y6] (h ++ [.lst ((ms ++ [2 ^ w]).map fun (k : Nat) => Dt.int (k : Int))]), ?_, ⟨_, _, _, rfl⟩, ms ++ [2 ^ w], by simp [hms], ?_, rfl⟩
    · have es : (h ++ [Ob.lst (ms.map fun (k : Nat) => Dt.int (k : Int))]).set h.length (.lst ((ms.map fun (k : Nat) => Dt.int (k : Int)) ++ [Dt.int ((2 ^ w : Nat) : Int)])) = h ++ [.lst ((ms ++ [2 ^ w]).map fun (k : Nat) => Dt.int (k : Int))] := by simp
      rw [es] at ap
      simp only [L__law_sets_0, q_sSeq, q_sSet, q_call, q_aCons, q_aNil, q_e2, q_eV, q_eC, List.set_cons_zero, List.set_cons_succ, List.getElem?_cons_zero, List.getElem?_cons_succ, getV_some, bnd_some, List.append_nil, u, u2, o_add, sqK_nx, q_sDrop, q_append]
      rw [show (Dt.int 0) = Dt.int ((0 : Nat) : Int) from rfl, c0]
      simp only [bnd_some, em, List.set_cons_zero, List.set_cons_succ, sqK_nx, q_sDrop, q_append, q_eV, List.getElem?_cons_zero, List.getElem?_cons_succ, getV_some, ap]
    · intro m hm
      rcases List.mem_append.mp hm with hm | hm
      · exact hok m hm
      · rw [List.mem_singleton.mp hm]; exact ok_pow hw) [some (.lst (ns.map Dt.int)), some (.int (c : Nat)), some (.int (P : Nat)), some (.ref h.length), none, none, none] (h ++ [.lst []]) ⟨⟨_, _, _, rfl⟩, [], rfl, by simp, by simp⟩
  have head : ∀ X : RS, True := fun _ => trivial
  by_cases p0 : P = 0
  · refine ⟨ms, by rw [hms, hP], hok, ?_⟩
    have ng : decide ((0 : Int) < (P : Int)) = false := decide_eq_false (by omega)
    simp only [F__law_sets, B__law_sets, q_fn, List.length_cons, List.length_nil, if_true, List.map_cons, List.map_nil, Nat.reduceAdd, Nat.reduceSub, List.replicate, List.cons_append, List.nil_append, q_sSeq, q_sSet, q_e2, q_eV, q_eC, q_eNew, q_aNil, List.getElem?_cons_zero, List.getElem?_cons_succ, getV_some, bnd_some, o_sub, o_mul mm, o_div dd, eP, List.set_cons_succ, List.set_cons_zero, sqK_nx, q_sFor, q_iR1, r1_nat (show P ≤ 1000 by omega), forK_vals, Nat.zero_le, e, q_sIf, q_tB, o_gt, tbK_bl, ng, Bool.false_eq_true, if_false, q_sNil, q_sRet, finK_rt]
  · obtain ⟨cs, ec, hcs⟩ := cut_ints ns (some 1) none
    obtain ⟨l2, h2, e2', ⟨z4, z5, z6, rfl⟩, ms2, hms2, hok2, rfl⟩ := walkG (bd := gSet2 4 6) (body := L__law_sets_1) (fun l h' => (∃ y4 y5 y6, l = [some (.lst (ns.map Dt.int)), some (.int (c : Nat)), some (.int (P : Nat)), some (.ref h.length), y4, y5, y6]) ∧ ∃ ms : List Nat, ms.length = P ∧ (∀ m ∈ ms, okM m) ∧ h' = h ++ [.lst (ms.map fun (k : Nat) => Dt.int (k : Int))]) (enumD 0 (cs.map Dt.int)) (by
      rintro d hd l h' ⟨⟨y4, y5, y6, rfl⟩, ms, hms, hok, rfl⟩
      obtain ⟨k, x, rfl⟩ := enum_mem cs 0 d hd
      generalize hM : (x % 2147483647 + 11) * 48271 % 2147483629 = M
      have em : ∀ h, F__law_mixed [.int x, .int 48271] h = some (.int M, h) := fun h => by rw [e_mixed, hM]
      obtain ⟨w, hw, ew⟩ := way13 M 32
      have d1 := fun (h : HI) => o_div (h := h) (i := M) (j := 32) ⟨by decide, by decide⟩
      have m1 := fun (h : HI) => o_mod (h := h) (i := M / 32) (j := 13) (by decide)
      have mp := fun (h : HI) => o_mod (h := h) (i := (k : Int)) (j := (P : Int)) (by omega)
      have ek : (k : Int) % (P : Int) = ((k % P : Nat) : Int) := by simp
      have hk : k % P < P := Nat.mod_lt _ (by omega)
      have sh := fun (h : HI) => o_shl (h := h) (cShl hw)
      obtain ⟨i, hi⟩ : ∃ i, k % P = i := ⟨_, rfl⟩
      rw [hi] at ek hk
      have il : i < ms.length := by omega
      have dh : (h ++ [Ob.lst (ms.map fun (k : Nat) => Dt.int (k : Int))])[h.length]? = some (.lst (ms.map fun (k : Nat) => Dt.int (k : Int))) := by simp
      have ix := o_ixR dh (i : Int)
      rw [SM.atI_nat, List.getElem?_map, List.getElem?_eq_getElem il] at ix
      simp only [Option.map_some] at ix
      have sx := six3_ref (l := [some (.lst (ns.map Dt.int)), some (.int (c : Nat)), some (.int (P : Nat)), some (.ref h.length), some (.int (k : Nat)), y5, some (.int x)]) (v := .int ((ms[i] ||| 2 ^ w : Nat) : Int)) dh (show i < (ms.map fun (k : Nat) => Dt.int (k : Int)).length by rw [List.length_map]; exact il)
      refine ⟨[some (.lst (ns.map Dt.int)), some (.int (c : Nat)), some (.int (P : Nat)), some (.ref h.length), some (.int (k : Nat)), y5, some (.int x)], .nx [some (.lst (ns.map Dt.int)), some (.int (c : Nat)), some (.int (P : Nat)), some (.ref h.length), some (.int (k : Nat)), y5, some (.int x)] (h ++ [.lst ((ms.set i (ms[i] ||| 2 ^ w)).map fun (k : Nat) => Dt.int (k : Int))]), rfl, ?_, ⟨_, _, _, rfl⟩, ms.set i (ms[i] ||| 2 ^ w), by simp [hms], ?_, rfl⟩
      · have es : (h ++ [Ob.lst (ms.map fun (k : Nat) => Dt.int (k : Int))]).set h.length (.lst ((ms.map fun (k : Nat) => Dt.int (k : Int)).set i (.int ((ms[i] ||| 2 ^ w : Nat) : Int)))) = h ++ [.lst ((ms.set i (ms[i] ||| 2 ^ w)).map fun (k : Nat) => Dt.int (k : Int))] := by simp
        rw [es] at sx
        have bo : Builtin.bitOr ((ms[i] : Nat) : Int) (1 * 2 ^ w) = ((ms[i] ||| 2 ^ w : Nat) : Int) := by
          rw [Int.one_mul, show ((2 : Int) ^ w) = ((2 ^ w : Nat) : Int) by simp]; exact bOr_nat _ _
        simp only [L__law_sets_1, q_setIx, q_call, q_aCons, q_aNil, q_e2, q_eV, q_eC, List.getElem?_cons_zero, List.getElem?_cons_succ, getV_some, bnd_some, mp, ek, ix, List.append_nil, em, d1, m1, ew, sh, Int.toNat_natCast, o_bor, bo, sx]
      · intro m hm
        rcases List.mem_or_eq_of_mem_set hm with hm | hm
        · exact hok m hm
        · rw [hm]; exact ok_or (hok _ (List.getElem_mem il)) (ok_pow hw)) [some (.lst (ns.map Dt.int)), some (.int (c : Nat)), some (.int (P : Nat)), some (.ref h.length), y4, y5, y6] (h ++ [.lst (ms.map fun (k : Nat) => Dt.int (k : Int))]) ⟨⟨_, _, _, rfl⟩, ms, hms, hok, rfl⟩
    refine ⟨ms2, by rw [hms2, hP], hok2, ?_⟩
    have gt : decide ((0 : Int) < (P : Int)) = true := decide_eq_true (by omega)
    have sl : ∀ (l : LI) (h : HI), l[0]? = some (some (.lst (ns.map Dt.int))) → eSl (eV 0) (pAt (eC (.int 1))) pNo l h = some (.lst (cs.map Dt.int), h) := by
      intro l h h0
      simp [h0, ec]
    simp only [F__law_sets, B__law_sets, q_fn, List.length_cons, List.length_nil, if_true, List.map_cons, List.map_nil, Nat.reduceAdd, Nat.reduceSub, List.replicate, List.cons_append, List.nil_append, q_sSeq, q_sSet, q_e2, q_eV, q_eC, q_eNew, q_aNil, List.getElem?_cons_zero, List.getElem?_cons_succ, getV_some, bnd_some, o_sub, o_mul mm, o_div dd, eP, List.set_cons_succ, List.set_cons_zero, sqK_nx, q_sFor, q_iR1, r1_nat (show P ≤ 1000 by omega), forK_vals, Nat.zero_le, e, q_sIf, q_tB, o_gt, tbK_bl, gt, q_iEnum, sl, enumK_lst, e2', q_sRet, finK_rt]
end G
namespace G
open PySem PySem.Spec PyProof.Rows L2 SM BF
def TT (c : Nat) : Nat → Nat
  | 0 => 0
  | i + 1 => TT c i + (c - 1 - i)
theorem TT_le : ∀ c < 9, ∀ i < c, TT c i + (c - 1 - i) ≤ c * (c - 1) / 2 := by decide +kernel
def Done (c : Nat) (f : Nat → Nat → Nat) (p : Nat → Nat → Prop) : Prop := (∀ i j, i < j → j < c → p i j → okM (f i j) ∧ f j i = turnS (f i j))
theorem e_lnet {h : HI} {a c : Nat} (hc1 : 1 ≤ c) (hc : c ≤ 8) {ms : List Nat} (hms : ms.length = c * (c - 1) / 2) (hok : ∀ m ∈ ms, okM m) (da : h[a]? = some (.lst (ms.map fun (k : Nat) => Dt.int (k : Int)))) :
    ∃ f : Nat → Nat → Nat, Done c f (fun _ _ => True) ∧ (∀ i, f i i = 64) ∧ F__law_net [.ref a, .int (c : Nat)] h = some (.ref (h.length + c), h ++ netObs h.length c f) := by
  have alt := (List.getElem?_eq_some_iff.mp da).1
  have rowE : ∀ (k : Nat) (h : HI), E__law_net_1 [some (.int (k : Nat)), some (.int (c : Nat))] h = some (.ref h.length, h ++ [.lst (rowD c (fun _ => 64))]) := by
    intro k h
    have ec := compV_all (te := E__law_net_0) (tc := tTrue) (i := 0) (fun (k : Nat) => Dt.int (k : Int)) (fun _ => Dt.int ((64 : Nat) : Int)) h (List.range c) [none] (by
      intro k _
      exact ⟨by simp, by simp [E__law_net_0]⟩)
    have ek := compK_vals (l := [none]) (h := h) (gSet 0) tTrue E__law_net_0 (xs := (List.range c).map fun (k : Nat) => Dt.int (k : Int)) (by simp; omega)
    rw [ec] at ek
    simp only [E__law_net_1, q_eCompN, q_iR1, q_eV, List.getElem?_cons_zero, List.getElem?_cons_succ, getV_some, bnd_some, r1_nat (show c ≤ 1000 by omega), cap_none, cap_nil, ek]
    rfl
  have hn := compV_new (te := E__law_net_1) (i := 0) (fun (k : Nat) => Dt.int (k : Int)) (fun _ => Ob.lst (rowD c (fun _ => 64))) h (List.range c) [none, some (.int (c : Nat))] [] (by
    intro k hk e
    have := rowE k (h ++ e)
    simp [this])
  rw [List.append_nil, List.length_range] at hn
  have hs : ((List.range c).map fun (k : Nat) => Dt.int (k : Int)).length < sizeLine := by simp; omega
  have ck := compK_vals (l := [none, some (.int (c : Nat))]) (h := h) (gSet 0) tTrue E__law_net_1 hs
  rw [hn] at ck
  obtain ⟨l', h', e, ⟨f, y4, y5, rfl, hf, hd, rfl⟩⟩ := walk_range (i := 4) (body := L__law_net_3) (fun (k : Nat) => Dt.int (k : Int)) (fun i l h' => ∃ (f : Nat → Nat → Nat) (y4 y5 : Option Dt), l = [some (.ref a), some (.int (c : Nat)), some (.ref (h.length + c)), some (.int (TT c i : Nat)), y4, y5] ∧ Done c f (fun i' _ => i' < i) ∧ (∀ k, f k k = 64) ∧ h' = h ++ netObs h.length c f) c (by
    rintro i hi l h' ⟨f, y4, y5, rfl, hf, hd, rfl⟩
    have r2 : ∀ h : HI, r2K (.int ((i : Int) + 1)) (.int (c : Nat), h) = some (.vals ((List.range (c - 1 - i)).map fun (k : Nat) => Dt.int ((i : Int) + 1 + (k : Int))), h) := by
      intro h
      have r := r2K_int (h := h) (i := (i : Int) + 1) (j := (c : Int)) (by omega) (by omega) (by omega) (by omega)
      rw [show ((c : Int) - ((i : Int) + 1)).toNat = c - 1 - i by omega] at r
      exact r
    obtain ⟨l2, h2, e2, ⟨g, z5, rfl, hg, hgd, rfl⟩⟩ := walk_range (i := 5) (body := L__law_net_2) (fun (k : Nat) => Dt.int ((i : Int) + 1 + (k : Int))) (fun k l h' => ∃ (f : Nat → Nat → Nat) (y5 : Option Dt), l = [some (.ref a), some (.int (c : Nat)), some (.ref (h.length + c)), some (.int (TT c i + k : Nat)), some (.int (i : Nat)), y5] ∧ Done c f (fun i' j' => i' < i ∨ (i' = i ∧ j' < i + 1 + k)) ∧ (∀ k, f k k = 64) ∧ h' = h ++ netObs h.length c f) (c - 1 - i) (by
      rintro k hk l h' ⟨f, y5, rfl, hf, hd, rfl⟩
      obtain ⟨j, hj⟩ : ∃ j, i + 1 + k = j := ⟨_, rfl⟩
      have hjc : j < c := by omega
      have ij : i ≠ j := by omega
      have ej : (i : Int) + 1 + (k : Int) = (j : Int) := by omega
      have tl : TT c i + k < ms.length := by
        have := TT_le c (by omega) i hi
        omega
      have mi := hok _ (List.getElem_mem tl)
      obtain ⟨m, hm⟩ : ∃ m, ms[TT c i + k] = m := ⟨_, rfl⟩
      rw [hm] at mi
      have ixm : ∀ g : HI, oIx (.ref a) (.int ((TT c i + k : Nat) : Int)) (h ++ g) = some (.int (m : Nat), h ++ g) := by
        intro g
        have dh : (h ++ g)[a]? = some (.lst (ms.map fun (k : Nat) => Dt.int (k : Int))) := by rw [List.getElem?_append_left alt]; exact da
        have ix := o_ixR dh ((TT c i + k : Nat) : Int)
        rw [SM.atI_nat, List.getElem?_map, List.getElem?_eq_getElem tl, hm] at ix
        simpa using ix
      have M1 := netObs_at h c f
      have M2 := netObs_at h c (putF f i j m)
      have p1 := netObs_put h hi f j m
      have p2 := netObs_put h hjc (putF f i j m) i (turnS m)
      have q1 := fun (l : LI) => six3_ref (l := l) (v := .int (m : Nat)) (M1.row i hi) (show j < (rowD c (f i)).length by rw [rowD_len]; exact hjc)
      have q2 := fun (l : LI) => six3_ref (l := l) (v := .int (turnS m : Nat)) (M2.row j hjc) (show i < (rowD c (putF f i j m j)).length by rw [rowD_len]; exact hi)
      have t1 := e_lturned m (h ++ netObs h.length c (putF f i j m))
      refine ⟨.nx [some (.ref a), some (.int (c : Nat)), some (.ref (h.length + c)), some (.int (TT c i + (k + 1) : Nat)), some (.int (i : Nat)), some (.int (j : Nat))] (h ++ netObs h.length c (putF (putF f i j m) j i (turnS m))), ?_, _, _, rfl, ?_, ?_, rfl⟩
      · have ea : ((TT c i + k : Nat) : Int) + 1 = ((TT c i + (k + 1) : Nat) : Int) := by omega
        simp only [L__law_net_2, q_sSeq, q_setIx, q_sSet, q_call, q_aCons, q_aNil, q_e2, q_eV, q_eC, List.set_cons_zero, List.set_cons_succ, List.getElem?_cons_zero, List.getElem?_cons_succ, getV_some, bnd_some, ej, ixm, M1.ix hi, q1, p1, sqK_nx, List.append_nil, t1, M2.ix hjc, q2, p2, o_add, ea]
      · intro i' j' h1 h2 h3
        by_cases w : i' = i ∧ j' = j
        · obtain ⟨rfl, rfl⟩ := w
          have x1 : putF (putF f i' j' m) j' i' (turnS m) i' j' = m := by simp [putF, ij]
          have x2 : putF (putF f i' j' m) j' i' (turnS m) j' i' = turnS m := by simp [putF]
          rw [x1, x2]
          exact ⟨mi, rfl⟩
        · have x1 : putF (putF f i j m) j i (turnS m) i' j' = f i' j' := by
            unfold putF
            (repeat' split) <;> first | rfl | (exfalso; omega)
          have x2 : putF (putF f i j m) j i (turnS m) j' i' = f j' i' := by
            unfold putF
            (repeat' split) <;> first | rfl | (exfalso; omega)
          rw [x1, x2]
          exact hf i' j' h1 h2 (by omega)
      · intro k'
        have : putF (putF f i j m) j i (turnS m) k' k' = f k' k' := by
          unfold putF
          (repeat' split) <;> first | rfl | (exfalso; omega)
        rw [this]; exact hd k') [some (.ref a), some (.int (c : Nat)), some (.ref (h.length + c)), some (.int (TT c i : Nat)), some (.int (i : Nat)), y5] (h ++ netObs h.length c f) ⟨f, y5, rfl, fun i' j' h1 h2 h3 => hf i' j' h1 h2 (by omega), hd, rfl⟩
    refine ⟨.nx [some (.ref a), some (.int (c : Nat)), some (.ref (h.length + c)), some (.int (TT c (i + 1) : Nat)), some (.int (i : Nat)), z5] (h ++ netObs h.length c g), ?_, g, _, _, rfl, fun i' j' h1 h2 h3 => hg i' j' h1 h2 (by omega), hgd, rfl⟩
    simp only [L__law_net_3, q_sFor, q_iR2, q_e2, q_eV, q_eC, List.set_cons_zero, List.set_cons_succ, List.getElem?_cons_zero, List.getElem?_cons_succ, getV_some, bnd_some, o_add, r2, forK_vals, e2]
    rfl) [some (.ref a), some (.int (c : Nat)), some (.ref (h.length + c)), some (.int 0), none, none] (h ++ netObs h.length c (fun _ _ => 64)) ⟨_, _, _, rfl, fun i' j' _ _ h3 => absurd h3 (Nat.not_lt_zero _), fun _ => rfl, rfl⟩
  refine ⟨f, fun i j h1 h2 _ => hf i j h1 h2 (by omega), hd, ?_⟩
  have en : ∀ z, (h ++ (List.range c).map fun _ => Ob.lst (rowD c (fun _ => 64))) ++ [Ob.lst z] = h ++ ((List.range c).map (fun _ => Ob.lst (rowD c (fun _ => 64))) ++ [Ob.lst z]) := fun z => by rw [List.append_assoc]
  have el : (h ++ (List.range c).map fun _ => Ob.lst (rowD c (fun _ => 64))).length = h.length + c := by simp
  have eo : (List.range c).map (fun (k : Nat) => Dt.ref (h.length + k)) = topD h.length c := rfl
  rw [eo] at ck
  have en2 : (h ++ (List.range c).map fun _ => Ob.lst (rowD c (fun _ => 64))) ++ [Ob.lst (topD h.length c)] = h ++ netObs h.length c (fun _ _ => 64) := by rw [en]; rfl
  simp only [F__law_net, B__law_net, q_fn, List.length_cons, List.length_nil, if_true, List.map_cons, List.map_nil, Nat.reduceAdd, Nat.reduceSub, List.replicate, List.cons_append, List.nil_append, q_sSeq, q_sSet, q_eCompN, q_iR1, q_eV, q_eC, List.getElem?_cons_zero, List.getElem?_cons_succ, getV_some, bnd_some, r1_nat (show c ≤ 1000 by omega), cap_none, cap_some, cap_nil, Option.join_some, ck, el, en2, List.set_cons_succ, List.set_cons_zero, sqK_nx, q_sFor, forK_vals, e, q_sRet, finK_rt]
end G
namespace G
open PySem PySem.Spec PyProof.Rows L2 SM BF
theorem cut_30 (ns : List Int) : ∃ ms : List Int, SM.cutD (ns.map Dt.int) (some 1) (some 31) = ms.map Dt.int ∧ ms.length ≤ 30 := by
  unfold SM.cutD
  rw [← List.map_drop, ← List.map_take]
  refine ⟨_, rfl, ?_⟩
  rw [List.length_take, List.length_map]
  have h1 : HT.sIx ns.length ns.length (some 31) = min 31 ns.length := HT.sIx_nat ns.length ns.length 31
  have h2 : HT.sIx ns.length 0 (some 1) = min 1 ns.length := HT.sIx_nat ns.length 0 1
  rw [h1, h2]
  omega
theorem e_llens (ns : List Int) {c : Nat} (hc1 : 1 ≤ c) (hc : c ≤ 8) (h : HI) :
    ∃ ls : List Ln, ls.length ≤ 30 ∧ F__law_lengths [.lst (ns.map Dt.int), .int (c : Nat)] h = some (.ref h.length, h ++ [.lst (ls.map lenD)]) := by
  obtain ⟨cs, ec, hcs⟩ := cut_30 ns
  have p18 := fun (h : HI) => o_pow (h := h) (i := 10) (j := 18) ⟨by decide, by decide, by decide⟩
  have e18 : (10 : Int) ^ (18 : Int).toNat = 1000000000000000000 := by decide
  rw [e18] at p18
  obtain ⟨l', h', e, ⟨y3, y4, y5, y6, rfl⟩, ls, hls, rfl⟩ := walk_at (i := 3) (body := L__law_lengths_0) Dt.int (fun k l h' => (∃ y3 y4 y5 y6, l = [some (.lst (ns.map Dt.int)), some (.int (c : Nat)), some (.ref h.length), y3, y4, y5, y6]) ∧ ∃ ls : List Ln, ls.length ≤ k ∧ h' = h ++ [.lst (ls.map lenD)]) cs 0 (by
    intro k x hx l h' hS
    rw [Nat.zero_add] at hS ⊢
    obtain ⟨⟨y3, y4, y5, y6, rfl⟩, ls, hls, rfl⟩ := hS
    have kl : k < cs.length := (List.getElem?_eq_some_iff.mp hx).1
    generalize hM : (x % 2147483647 + 11) * 69621 % 2147483629 = M
    have em : ∀ h, F__law_mixed [.int x, .int 69621] h = some (.int M, h) := fun h => by rw [e_mixed, hM]
    have M0 : 0 ≤ M := by rw [← hM]; exact Int.emod_nonneg _ (by decide)
    have M1 : M < 2147483629 := by rw [← hM]; exact Int.emod_lt_of_pos _ (by decide)
    have m3 := fun (h : HI) => o_mod (h := h) (i := M) (j := 3) (by decide)
    have m2 := fun (h : HI) => o_mod (h := h) (i := M) (j := 2) (by decide)
    have d3 := fun (h : HI) => o_div (h := h) (i := M) (j := 3) ⟨by decide, by decide⟩
    have m5 := fun (h : HI) => o_mod (h := h) (i := M / 3) (j := 5) (by decide)
    have mx := fun (h : HI) => o_mod (h := h) (i := x) (j := 1000000000000000000 + 1) (by decide)
    have d15 := fun (h : HI) => o_div (h := h) (i := M) (j := 15) ⟨by decide, by decide⟩
    have mc := fun (h : HI) => o_mod (h := h) (i := M / 15) (j := (c : Int)) (by omega)
    have u1 := fun (h : HI) => o_mul (h := h) (i := M) (j := M) (Or.inl ⟨by omega, by omega⟩)
    have u2 := fun (h : HI) => o_mul (h := h) (i := M * M) (j := 69621) (Or.inr ⟨by decide, by decide⟩)
    obtain ⟨i, ei⟩ := Int.eq_ofNat_of_zero_le (Int.emod_nonneg (M / 15) (show (c : Int) ≠ 0 by omega))
    by_cases q : 0 < M % 3
    · obtain ⟨lo, lo0, lo1, elo⟩ : ∃ lo : Int, 0 ≤ lo ∧ lo ≤ 1000000000000000000 ∧ L2.atI [Dt.int (x % (1000000000000000000 + 1)), Dt.int (M / 3 % 5)] (M % 2) = some (.int lo) := by
        rcases (show M % 2 = 0 ∨ M % 2 = 1 by omega) with z | z <;> rw [z]
        · exact ⟨x % (1000000000000000000 + 1), Int.emod_nonneg _ (by decide), by have := Int.emod_lt_of_pos x (show (0 : Int) < 1000000000000000000 + 1 by decide); omega, rfl⟩
        · exact ⟨M / 3 % 5, Int.emod_nonneg _ (by decide), by omega, rfl⟩
      have ml := fun (h : HI) => o_mod (h := h) (i := M * M * 69621) (j := 1000000000000000000 + 1 - lo) (by omega)
      generalize hH : lo + M * M * 69621 % (1000000000000000000 + 1 - lo) = hi
      have dh : (h ++ [Ob.lst (ls.map lenD)])[h.length]? = some (.lst (ls.map lenD)) := by simp
      have ap := appK_ref (l := [some (.lst (ns.map Dt.int)), some (.int (c : Nat)), some (.ref h.length), some (.int x), some (.int M), some (.int lo), some (.int hi)]) (h := h ++ [.lst (ls.map lenD)]) (n := h.length) (g := eTup (aCons (e2 oMod (e2 oDiv (eV 4) (eC (.int 15))) (eV 1)) (aCons (eV 5) (aCons (eV 6) aNil)))) (d := lenD (i, lo, hi)) (ys := ls.map lenD) (xs := ls.map lenD) (h' := h ++ [.lst (ls.map lenD)]) dh (by
        simp only [q_eTup, q_aCons, q_aNil, q_e2, q_eV, q_eC, List.getElem?_cons_zero, List.getElem?_cons_succ, getV_some, bnd_some, d15, mc, ei, List.length_cons, List.length_nil]
        rw [if_pos (by decide)]; rfl) dh (by rw [List.length_map]; exact Nat.lt_of_lt_of_le (show ls.length < 100 by omega) (by decide))
      have es : (h ++ [Ob.lst (ls.map lenD)]).set h.length (.lst (ls.map lenD ++ [lenD (i, lo, hi)])) = h ++ [.lst ((ls ++ [(i, lo, hi)]).map lenD)] := by simp
      rw [es] at ap
      have qt : decide ((0 : Int) < M % 3) = true := decide_eq_true q
      have s2 : ∀ a b : Dt, [a, b].length ≤ sizeLine := fun _ _ => by simp [sizeLine]
      refine ⟨.nx [some (.lst (ns.map Dt.int)), some (.int (c : Nat)), some (.ref h.length), some (.int x), some (.int M), some (.int lo), some (.int hi)] (h ++ [.lst ((ls ++ [(i, lo, hi)]).map lenD)]), ?_, ⟨_, _, _, _, rfl⟩, ls ++ [(i, lo, hi)], by rw [List.length_append]; simp; omega, rfl⟩
      simp only [L__law_lengths_0, q_sSeq, q_sSet, q_call, q_aCons, q_aNil, q_e2, q_eV, q_eC, List.set_cons_succ, List.set_cons_zero, List.getElem?_cons_zero, List.getElem?_cons_succ, getV_some, bnd_some, List.append_nil, em, sqK_nx, q_sIf, q_tB, m3, o_gt, tbK_bl, qt, if_true, q_eLst, p18, o_add, mx, d3, m5, s2, m2, o_ixL, elo, Option.map_some, u1, u2, o_sub, ml, hH, q_sDrop, q_append, ap]
    · have qf : decide ((0 : Int) < M % 3) = false := decide_eq_false q
      refine ⟨.nx [some (.lst (ns.map Dt.int)), some (.int (c : Nat)), some (.ref h.length), some (.int x), some (.int M), y5, y6] (h ++ [.lst (ls.map lenD)]), ?_, ⟨_, _, _, _, rfl⟩, ls, by omega, rfl⟩
      simp only [L__law_lengths_0, q_sSeq, q_sSet, q_call, q_aCons, q_aNil, q_e2, q_eV, q_eC, List.set_cons_succ, List.set_cons_zero, List.getElem?_cons_zero, List.getElem?_cons_succ, getV_some, bnd_some, List.append_nil, em, sqK_nx, q_sIf, q_tB, m3, o_gt, tbK_bl, qf, Bool.false_eq_true, if_false, q_sNil]) [some (.lst (ns.map Dt.int)), some (.int (c : Nat)), some (.ref h.length), none, none, none, none] (h ++ [.lst []]) ⟨⟨_, _, _, _, rfl⟩, [], by simp, by simp⟩
  refine ⟨ls, by omega, ?_⟩
  have sl : ∀ (l : LI) (h : HI), l[0]? = some (some (.lst (ns.map Dt.int))) → eSl (eV 0) (pAt (eC (.int 1))) (pAt (eC (.int 31))) l h = some (.lst (cs.map Dt.int), h) := by
    intro l h h0
    simp [h0, ec]
  simp only [F__law_lengths, B__law_lengths, q_fn, List.length_cons, List.length_nil, if_true, List.map_cons, List.map_nil, Nat.reduceAdd, Nat.reduceSub, List.replicate, List.cons_append, List.nil_append, q_sSeq, q_sSet, q_eNew, q_aNil, bnd_some, Nat.zero_le, List.set_cons_succ, List.set_cons_zero, sqK_nx, q_sFor, q_iLst, sl, List.getElem?_cons_zero, List.getElem?_cons_succ, seqK_lst, forK_vals, e, q_sRet, q_eV, getV_some, finK_rt]
end G
namespace G
open PySem PySem.Spec PyProof.Rows L2 SM BF
theorem res_lens (h : HI) (ls : List Ln) (k : Nat) : allD (resD h (k + 2)) (ls.map lenD) = some (ls.map lenD) := allD_map _ _ _ fun x _ => by simp [lenD, resD, allD]
theorem res_rows (h : HI) (c : Nat) (f : Nat → Nat → Nat) (k : Nat) : allD (resD h (k + 2)) (netDt c f) = some (netDt c f) := allD_map _ _ _ fun x _ => by
  have : allD (resD h (k + 1)) (rowD c (f x)) = some (rowD c (f x)) := allD_map _ _ _ fun x _ => by simp [resD]
  rw [resD, this]; rfl
theorem len_pure : ∀ ls : List Ln, pureDs (ls.map lenD) = true
  | [] => rfl
  | x :: xs => by simp only [List.map_cons, pureDs, pureD, lenD, len_pure xs, Bool.and_self]
theorem len_dep : ∀ ls : List Ln, depDs (ls.map lenD) ≤ 3
  | [] => by simp [depDs]
  | x :: xs => by
    have := len_dep xs
    simp only [List.map_cons, depDs, depD, lenD]
    omega
theorem ne_handed {h : HI} {b c a : Nat} {f : Nat → Nat → Nat} {ls : List Ln} (N : NetAt h b c f) (da : h[a]? = some (.lst (ls.map lenD))) : oNeX (.lst [.lst (netDt c f), .lst (ls.map lenD)]) (.lst [.ref (b + c), .ref a]) h = some (.bl false, h) := by
  have e1 : resD h 8 (.lst [.lst (netDt c f), .lst (ls.map lenD)]) = some (.lst [.lst (netDt c f), .lst (ls.map lenD)]) := by
    have r1 := res_rows h c f 4
    have r2 := res_lens h ls 4
    simp only [resD, allD, r1, r2, Option.map_some, Option.bind_some]
  have e2 : resD h 8 (.lst [.ref (b + c), .ref a]) = some (.lst [.lst (netDt c f), .lst (ls.map lenD)]) := by
    have r1 := res_net N 4
    have r2 : resD h 7 (.ref a) = some (.lst (ls.map lenD)) := by
      have r2 := res_lens h ls 4
      rw [resD]; simp only [da, r2, Option.map_some]
    rw [resD]
    simp only [allD, r1, r2, Option.map_some, Option.bind_some]
  have p : pureDs [.lst (netDt c f), .lst (ls.map lenD)] = true := by
    have p1 : pureDs (netDt c f) = true := net_pure f c _
    simp only [pureDs, pureD, p1, len_pure, Bool.and_self]
  have d : depDs [.lst (netDt c f), .lst (ls.map lenD)] ≤ 50 := by
    have d1 : depDs (netDt c f) ≤ 3 := net_dep f c _
    have d2 := len_dep ls
    simp only [depDs, depD]
    omega
  have dk : deepOk [.lst (netDt c f), .lst (ls.map lenD)] [.lst (netDt c f), .lst (ls.map lenD)] = true := by
    unfold deepOk
    rw [p]
    simp [d]
  rw [x_nev e1 e2 dk, eqDs_refl _ p]
  rfl
theorem ways_ne {m : Nat} (h : okM m) : waysL m ≠ [] := by
  intro e
  have : m = 0 := bit_ext h.2 (by decide) fun k hk => by
    cases q : m.testBit k with
    | false => simp
    | true =>
      have := mem_ways.mpr ⟨hk, q⟩
      rw [e] at this
      cases this
  have := h.1
  omega
theorem ways_turn_ne {m : Nat} (h : waysL m ≠ []) : waysL (turnS m) ≠ [] := by
  intro e
  obtain ⟨w, hw⟩ := List.exists_mem_of_ne_nil _ h
  have := ways_lt hw
  have : 12 - w ∈ waysL (turnS m) := ways_turn.mpr ⟨by omega, by rw [show 12 - (12 - w) = w by omega]; exact hw⟩
  rw [e] at this
  cases this
def inF (c : Nat) (f : Nat → Nat → Nat) : Nat → Nat → Nat := fun i j => if i < c ∧ j < c then f i j else 64
theorem trip_loop {h : HI} {n : Nat} {F : List Bd} (e : h[n]? = some (.lst (F.map trip))) (l : LI) (hl : l.length = 8) : ∃ y, forK (gSet 7) L_law_1 l (.rf n, h) = some (.nx (l.set 7 y) h) := by
  obtain ⟨l', h', e, ⟨y, rfl⟩, rfl⟩ := rf_at (i := 7) (n := n) (body := L_law_1) trip (fun _ l' h' => (∃ y, l' = l.set 7 y) ∧ h' = h) F (by
    rintro k l' h' ⟨_, rfl⟩; exact e) (by
    rintro k ⟨p, q, w⟩ hx l' h' ⟨⟨y, rfl⟩, rfl⟩
    refine ⟨.nx (l.set 7 (some (trip (p, q, w)))) h', ?_, ⟨_, rfl⟩, rfl⟩
    have g : (l.set 7 (some (trip (p, q, w))))[7]? = some (some (trip (p, q, w))) := List.getElem?_set_self (by omega)
    have w0 : ∀ i : Int, ∀ x : Int, atI [Dt.int (p : Nat), .int (q : Nat), .int w] i = some (.int x) → oIx (trip (p, q, w)) (.int i) h' = some (.int x, h') := by
      intro i x z
      simp only [trip, o_ixT, z, Option.map_some]
    have x0 := w0 0 p rfl
    have x1 := w0 1 q rfl
    have x2 := w0 2 w rfl
    have isi : eIsi "tuple" (eV 7) (l.set 7 (some (trip (p, q, w)))) h' = some (.bl true, h') := by
      unfold eIsi
      rw [q_eV, g, getV_some]
      rfl
    have ln : fLen (trip (p, q, w)) h' = some (.int 3, h') := rfl
    rw [List.set_set]
    simp only [L_law_1, q_sSeq, q_sIf, q_tOr, q_tNot, q_tB, isi, bnd_some, tbK_bl, Bool.not_true, Bool.false_eq_true, if_false, q_e2, q_F1, q_eV, g, getV_some, ln, q_eC, x_ne, decide_true, q_sNil, sqK_nx, q_call, q_aCons, q_aNil, x0, x1, x2, List.append_nil, e_whole]) l h ⟨⟨l[7], by simp⟩, rfl⟩
  exact ⟨y, e⟩
theorem law_true (ns : List Int) (hl : ns.length ≤ 63) : ∃ h', F_law [.lst (ns.map Dt.int)] [] = some (.bl true, h') := by
  have m0 := Int.emod_nonneg (ns[0]?.getD 0) (show (8 : Int) ≠ 0 by decide)
  have m1 := Int.emod_lt_of_pos (ns[0]?.getD 0) (show (0 : Int) < 8 by decide)
  obtain ⟨c, ec⟩ := Int.eq_ofNat_of_zero_le (show 0 ≤ 1 + ns[0]?.getD 0 % 8 by omega)
  have hc1 : 1 ≤ c := by omega
  have hc : c ≤ 8 := by omega
  have e0 : F__law_cell_at [.lst (ns.map Dt.int), .int 0] [] = some (.int (ns[0]?.getD 0), []) := e_cell ns 0 []
  have m8 := fun (h : HI) => o_mod (h := h) (i := ns[0]?.getD 0) (j := 8) (by decide)
  obtain ⟨ms, hms, hok, es⟩ := e_lsets ns hl hc1 hc []
  obtain ⟨h1, hh1⟩ : ∃ h1 : HI, h1 = [.lst (ms.map fun (k : Nat) => Dt.int (k : Int))] := ⟨_, rfl⟩
  rw [List.nil_append, ← hh1] at es
  obtain ⟨f, hf, hd, en⟩ := e_lnet (a := 0) (h := h1) hc1 hc hms hok (by rw [hh1]; rfl)
  obtain ⟨h2, hh2⟩ : ∃ h2, h2 = h1 ++ netObs h1.length c f := ⟨_, rfl⟩
  have N2 : NetAt h2 h1.length c f := hh2 ▸ netObs_at h1 c f
  rw [← hh2] at en
  obtain ⟨ls, hls, el⟩ := e_llens ns hc1 hc h2
  obtain ⟨h3, hh3⟩ : ∃ h3, h3 = h2 ++ [.lst (ls.map lenD)] := ⟨_, rfl⟩
  rw [← hh3] at el
  have hN : ∀ i j, waysL (inF c f i j) ≠ [] := by
    intro i j
    unfold inF
    split
    · rename_i q
      rcases Nat.lt_trichotomy i j with w | w | w
      · exact ways_ne (hf i j w q.2 trivial).1
      · subst w; rw [hd]; decide
      · rw [(hf j i w q.1 trivial).2]; exact ways_turn_ne (ways_ne (hf j i w q.1 trivial).1)
    · decide
  have ht : ∀ i j, i < c → j < c → i ≠ j → inF c f j i = turnS (inF c f i j) := by
    intro i j hi hj ij
    unfold inF
    rw [if_pos ⟨hj, hi⟩, if_pos ⟨hi, hj⟩]
    rcases Nat.lt_or_gt_of_ne ij with w | w
    · exact (hf i j w hj trivial).2
    · rw [(hf j i w hi trivial).2, turn_turn (hf j i w hi trivial).1.2]
  have N2 : NetAt h2 h1.length c (inF c f) := N2.congr fun i hi j hj => by unfold inF; rw [if_pos ⟨hi, hj⟩]
  have N3 : NetAt h3 h1.length c (inF c f) := hh3 ▸ N2.grow _
  have L3 : h3[h2.length]? = some (.lst (ls.map lenD)) := by rw [hh3]; simp
  obtain ⟨N, eN⟩ : ∃ N, N = inF c f := ⟨_, rfl⟩
  rw [← eN] at hN ht N3
  have cp : compK (gSet 0) tTrue E_law_0 [none] (.rf (h1.length + c), h3) = some (netDt c N, h3) := by
    rw [compK_rf N3.top (by rw [topD_len]; exact Nat.lt_of_le_of_lt hc (by decide)) true_pres (by
      intro l h b h' e q
      unfold E_law_0 at e
      rw [q_F1, q_eV] at e
      cases z : l[0]? with
      | none => rw [z] at e; simp [getV] at e
      | some o =>
        rw [z] at e
        cases o with
        | none => simp [getV] at e
        | some d =>
          simp only [getV_some, bnd_some, fList] at e
          cases y : seqA h d with
          | none => rw [y] at e; cases e
          | some ys =>
            rw [y] at e
            simp only [Option.map_some, Option.some.injEq, Prod.mk.injEq] at e
            obtain ⟨_, rfl⟩ := e
            exact q)]
    exact compV_all (te := E_law_0) (tc := tTrue) (i := 0) (fun (k : Nat) => Dt.ref (h1.length + k)) (fun i => Dt.lst (rowD c (N i))) h3 (List.range c) [none] (by
      intro k hk
      have q := N3.row k (List.mem_range.mp hk)
      refine ⟨by simp, ?_⟩
      simp only [E_law_0, q_F1, q_eV, List.set_cons_zero, List.getElem?_cons_zero, getV_some, bnd_some, fList, seqA, seqL, q, Option.map_some])
  obtain ⟨rest, eb⟩ := e_boundsV (c := c) (by omega) hN (ls := ls) (by omega) h3
  obtain ⟨h4, hh4⟩ : ∃ h4, h4 = h3 ++ .lst ((bndsL c N ls).map trip) :: rest := ⟨_, rfl⟩
  rw [← hh4] at eb
  have N4 : NetAt h4 h1.length c N := hh4 ▸ N3.grow _
  have L4 : h4[h2.length]? = some (.lst (ls.map lenD)) := by
    rw [hh4, List.getElem?_append_left (List.getElem?_eq_some_iff.mp L3).1]; exact L3
  have B4 : h4[h3.length]? = some (.lst ((bndsL c N ls).map trip)) := by rw [hh4]; simp
  have nh := ne_handed N4 L4
  have ed := e_due N4 hc (by omega) L4
  obtain ⟨h5, hh5⟩ : ∃ h5, h5 = h4 ++ [.lst ((dueL c N ls).map trip)] := ⟨_, rfl⟩
  rw [← hh5] at ed
  have D5 : h5[h4.length]? = some (.lst ((dueL c N ls).map trip)) := by rw [hh5]; simp
  have B3 : h4[h3.length]? = some (.lst ((bndsL c N ls).map trip)) := B4
  obtain ⟨y, elp⟩ := trip_loop B4 [some (.lst (ns.map Dt.int)), some (.int (c : Nat)), some (.ref (h1.length + c)), some (.ref h2.length), some (.lst [.lst (netDt c N), .lst (ls.map lenD)]), some (.int ((2 * c + 1 : Nat) : Int)), some (.ref h3.length), none] rfl
  simp only [List.set_cons_succ, List.set_cons_zero] at elp
  have fl : fList (.ref h2.length) h3 = some (.lst (ls.map lenD), h3) := by simp only [fList, seqA, seqL, L3, Option.map_some]
  have isi : ∀ l : LI, l[6]? = some (some (.ref h3.length)) → eIsi "list" (eV 6) l h4 = some (.bl true, h4) := by
    intro l hl
    unfold eIsi
    rw [q_eV, hl, getV_some]
    simp only [Option.bind_some, tyN, B4, Option.map_some]
    rfl
  have fin : ∀ l : LI, l[6]? = some (some (.ref h3.length)) → l[2]? = some (some (.ref (h1.length + c))) → l[3]? = some (some (.ref h2.length)) → eSetEq (eV 6) (eCall F__law_due [] (aCons (eV 2) (aCons (eV 3) aNil))) l h4 = some (.bl true, h5) := by
    intro l l6 l2 l3
    have c2 : eCall F__law_due [] (aCons (eV 2) (aCons (eV 3) aNil)) l h4 = some (.ref h4.length, h5) := by
      simp only [q_call, q_aCons, q_aNil, q_eV, l2, l3, getV_some, bnd_some, List.append_nil, ed]
    unfold eSetEq
    rw [q_eV, l6, getV_some]
    have k1 : seqL h4 (.ref h3.length) = some ((bndsL c N ls).map trip) := by simp only [seqL, B4]
    have k2 : seqL h5 (.ref h4.length) = some ((dueL c N ls).map trip) := by simp only [seqL, D5]
    have n1 : ((bndsL c N ls).map tr3).length ≤ 300 := by rw [List.length_map]; exact bnd_len hc N hls
    have n2 : ((dueL c N ls).map tr3).length ≤ 300 := by rw [List.length_map]; exact due_len hc N hls
    simp only [Option.bind_some, k1, tups_trip, if_pos n1, c2, k2, if_pos n2]
    rw [set_same fun e => same_sets hN ht ls e]
  have eg := e_grain c h3
  have u2 := fun (h : HI) => o_mul (h := h) (i := 2) (j := (c : Int)) (Or.inl ⟨by decide, by decide⟩)
  have eg2 : (2 * (c : Int) + 1) = ((2 * c + 1 : Nat) : Int) := by omega
  have sq : seqK (.ref (h1.length + c), h3) = some (.rf (h1.length + c), h3) := N3.seq
  have sq4 : seqK (.ref h3.length, h4) = some (.rf h3.length, h4) := seqK_ref B4
  have s2 : 2 ≤ sizeLine := by decide
  have i0 : ∀ (a b : Dt) (h : HI), oIx (.lst [a, b]) (.int 0) h = some (a, h) := fun a b h => by rw [o_ixL]; rfl
  have i1 : ∀ (a b : Dt) (h : HI), oIx (.lst [a, b]) (.int 1) h = some (b, h) := fun a b h => by rw [o_ixL]; rfl
  have ebs : F_bounds [.lst (netDt c N), .lst (ls.map lenD)] h3 = some (.ref h3.length, h4) := eb
  refine ⟨h5, ?_⟩
  simp only [F_law, B_law, q_fn, List.length_cons, List.length_nil, if_true, List.map_cons, List.map_nil, Nat.reduceAdd, Nat.reduceSub, List.replicate, List.cons_append, List.nil_append, q_sSeq, q_sSet, q_call, q_aCons, q_aNil, q_e2, q_eV, q_eC, List.getElem?_cons_zero, List.getElem?_cons_succ, List.set_cons_succ, List.set_cons_zero, getV_some, bnd_some, List.append_nil, e0, m8, o_add, ec, sqK_nx, es, en, el, q_eLst, q_eComp, q_iLst, sq, cap_none, cap_nil, cp, q_F1, fl, s2, eg, q_sIf, q_tOr, q_tNot, q_tB, e_whole, tbK_bl, Bool.not_true, Bool.false_eq_true, if_false, u2, eg2, x_ne, decide_true, q_sNil, i0, i1, ebs, nh, isi, q_sFor, sq4, elp, q_sRet, fin, finK_rt]
end G
namespace G
open PySem PySem.Spec PyProof.Rows L2 SM
set_option maxHeartbeats 0 in
theorem all_mk {l : PySem.W.OpenLaw} {w : World} {K : PySem.W.Frag} {h : Heap} {mg : Str → Option Value} {fa : Addr} (X : K.In h) (G : h.Ns mainGlobals mg) (hfa : mg "law" = some (.ref fa))
    {g_ZONES : Addr}
    (yq0 : DefK K "zones" s_zones) (yq1 : DefK K "ways_in" s_ways_in) (yq2 : DefK K "pairs_of" s_pairs_of) (yq3 : DefK K "grain" s_grain) (yq4 : DefK K "length_bounds" s_length_bounds) (yq5 : DefK K "point_bounds" s_point_bounds) (yq6 : DefK K "set_bounds" s_set_bounds) (yq7 : DefK K "bounds" s_bounds) (yq8 : DefK K "_law_cell_at" s__law_cell_at) (yq9 : DefK K "_law_whole" s__law_whole) (yq10 : DefK K "_law_mixed" s__law_mixed) (yq11 : DefK K "_law_zones" s__law_zones) (yq12 : DefK K "_law_turned" s__law_turned) (yq13 : DefK K "_law_side" s__law_side) (yq14 : DefK K "_law_due" s__law_due) (yq15 : DefK K "_law_sets" s__law_sets) (yq16 : DefK K "_law_net" s__law_net) (yq17 : DefK K "_law_lengths" s__law_lengths) (yq18 : DefK K "law" s_law) (yq19 : PySem.W.nsIn K mainGlobals "bool" = some none) (yq20 : PySem.W.nsIn K mainGlobals "enumerate" = some none) (yq21 : PySem.W.nsIn K mainGlobals "int" = some none) (yq22 : PySem.W.nsIn K mainGlobals "isinstance" = some none) (yq23 : PySem.W.nsIn K mainGlobals "len" = some none) (yq24 : PySem.W.nsIn K mainGlobals "list" = some none) (yq25 : PySem.W.nsIn K mainGlobals "max" = some none) (yq26 : PySem.W.nsIn K mainGlobals "min" = some none) (yq27 : PySem.W.nsIn K mainGlobals "range" = some none) (yq28 : PySem.W.nsIn K mainGlobals "set" = some none) (yq29 : PySem.W.nsIn K mainGlobals "tuple" = some none) (yq30 : PySem.W.nsIn K mainGlobals "ZONES" = some (some (.ref g_ZONES))) (yq31 : readK K 6 (.ref g_ZONES) = some C_ZONES)
    : ∃ fd : FuncData, (∀ (s : Shared) (v : Value), BindsTo s fd ⟨[v], []⟩ [("_law_script", v)]) ∧ ∀ base : Heap, K.In base → base.Ns mainGlobals mg → FnOk l.prog w K mg base CX0 4 fa fd ["_law_script"] (spM K 1 F_law) := by
  have T : Txt K mg := {
    d_zones := defk_at X G yq0 fun _ _ _ _ _ _ => len1 (fun _ => rfl)
    d_ways_in := defk_at X G yq1 fun _ _ _ _ _ _ => len1 (fun _ => rfl)
    d_pairs_of := defk_at X G yq2 fun _ _ _ _ _ _ => len1 (fun _ => rfl)
    d_grain := defk_at X G yq3 fun _ _ _ _ _ _ => len1 (fun _ => rfl)
    d_length_bounds := defk_at X G yq4 fun _ _ _ _ _ _ => len2 (fun _ _ => rfl)
    d_point_bounds := defk_at X G yq5 fun _ _ _ _ _ _ => len4 (fun _ _ _ _ => rfl)
    d_set_bounds := defk_at X G yq6 fun _ _ _ _ _ _ => len3 (fun _ _ _ => rfl)
    d_bounds := defk_at X G yq7 fun _ _ _ _ _ _ => len2 (fun _ _ => rfl)
    d__law_cell_at := defk_at X G yq8 fun _ _ _ _ _ _ => len2 (fun _ _ => rfl)
    d__law_whole := defk_at X G yq9 fun _ _ _ _ _ _ => len1 (fun _ => rfl)
    d__law_mixed := defk_at X G yq10 fun _ _ _ _ _ _ => len2 (fun _ _ => rfl)
    d__law_zones := defk_at X G yq11 fun _ _ _ _ _ _ => len0 rfl
    d__law_turned := defk_at X G yq12 fun _ _ _ _ _ _ => len1 (fun _ => rfl)
    d__law_side := defk_at X G yq13 fun _ _ _ _ _ _ => len3 (fun _ _ _ => rfl)
    d__law_due := defk_at X G yq14 fun _ _ _ _ _ _ => len2 (fun _ _ => rfl)
    d__law_sets := defk_at X G yq15 fun _ _ _ _ _ _ => len2 (fun _ _ => rfl)
    d__law_net := defk_at X G yq16 fun _ _ _ _ _ _ => len2 (fun _ _ => rfl)
    d__law_lengths := defk_at X G yq17 fun _ _ _ _ _ _ => len2 (fun _ _ => rfl)
    z_bool := PySem.W.mg_none_of X G yq19
    z_enumerate := PySem.W.mg_none_of X G yq20
    z_int := PySem.W.mg_none_of X G yq21
    z_isinstance := PySem.W.mg_none_of X G yq22
    z_len := PySem.W.mg_none_of X G yq23
    z_list := PySem.W.mg_none_of X G yq24
    z_max := PySem.W.mg_none_of X G yq25
    z_min := PySem.W.mg_none_of X G yq26
    z_range := PySem.W.mg_none_of X G yq27
    z_set := PySem.W.mg_none_of X G yq28
    z_tuple := PySem.W.mg_none_of X G yq29
    c_ZONES := ⟨⟨_, 6, PySem.W.mg_of X G yq30, yq31⟩⟩
  }
  obtain ⟨f, oc, od, kV, dc, pm, an, cd, ct, sl, a, l1, c1, k1⟩ := yq18
  have e := hfa.symm.trans (PySem.W.mg_of X G a)
  cases e
  exact ⟨_, fun s v => .of_eq rfl, fun base _ _ => fn_law T base (fun_mk l1 c1 k1)⟩
end G
open PySem PySem.W PyProof.Rows
set_option maxRecDepth 100000 in
set_option maxHeartbeats 0 in
theorem PySem.Challenge.cw_spanways_k13_bounds_holds : PySem.Challenge.rw_spanways_k13_bounds.Holds := by
  w_on; o_law; k_head; (case hw => w_witness2)
  k_fill
  refine SM.law_walk (l := PySem.Challenge.rw_spanways_k13_bounds) (F := G.F_law) (k := 4) (x := "_law_script") rfl rfl ⟨rfl, by decide, by decide⟩ (fun w h Y => PySem.W.kIn_of Y) ?F G.law_true
  case F =>
    intro w mg fa h KX GN hmg
    refine' G.all_mk KX GN hmg ?yq0 ?yq1 ?yq2 ?yq3 ?yq4 ?yq5 ?yq6 ?yq7 ?yq8 ?yq9 ?yq10 ?yq11 ?yq12 ?yq13 ?yq14 ?yq15 ?yq16 ?yq17 ?yq18 ?yq19 ?yq20 ?yq21 ?yq22 ?yq23 ?yq24 ?yq25 ?yq26 ?yq27 ?yq28 ?yq29 ?yq30 ?yq31
    (case yq0 | yq1 | yq2 | yq3 | yq4 | yq5 | yq6 | yq7 | yq8 | yq9 | yq10 | yq11 | yq12 | yq13 | yq14 | yq15 | yq16 | yq17 | yq18 => exact ⟨_, _, _, _, _, _, _, _, _, _, by k_is, by k_is, by k_is, by k_is⟩)
    (case yq19 | yq20 | yq21 | yq22 | yq23 | yq24 | yq25 | yq26 | yq27 | yq28 | yq29 | yq30 => k_is)
    (case yq31 => kernel_rfl)

