import PyProof.Rows.All
import Wide.All
import OpenK.AllK
import Wide.FinOn
import Lean
import PyProof.EqAt
import PyProof.EqKinds
import PyProof.TupleCall
import PySem.Challenge.RW_spanways_k33_what_refusals_bear
set_option Elab.async false
set_option linter.all false
set_option maxRecDepth 100000
namespace L2
open PySem PySem.Spec PyProof.Rows

abbrev Key := Sum Int Str
def keyIs : Key → Value → Bool
  | .inl k, v => Value.isInt k v
  | .inr x, v => Value.isStrOf x v
def keyH (w : World) : Key → Int
  | .inl k => hashInt k
  | .inr x => hashStr w x
theorem keyIs_shape : ∀ {k : Key} {v : Value}, keyIs k v = true → (∃ i t, k = Sum.inl i ∧ v = Value.int i t) ∨ (∃ x t, k = Sum.inr x ∧ v = Value.str x t)
  | .inl i, v, h => by
    obtain ⟨t, e⟩ := Value.isInt_shape (k := i) (v := v) h
    exact .inl ⟨i, t, rfl, e⟩
  | .inr x, v, h => by
    obtain ⟨t, e⟩ := Value.isStrOf_shape (x := x) (v := v) h
    exact .inr ⟨x, t, rfl, e⟩
theorem key_ll (a b : Int) : decide ((Sum.inl a : Key) = Sum.inl b) = (a == b) := by
  by_cases e : a = b
  · subst e; simp
  · have h : ¬ (Sum.inl a : Key) = Sum.inl b := fun q => e (Sum.inl.inj q)
    rw [decide_eq_false h]
    exact (beq_eq_false_iff_ne.mpr e).symm
theorem key_rr (a b : Str) : decide ((Sum.inr a : Key) = Sum.inr b) = decide (a = b) := by
  by_cases e : a = b
  · subst e; simp
  · have h : ¬ (Sum.inr a : Key) = Sum.inr b := fun q => e (Sum.inr.inj q)
    rw [decide_eq_false h, decide_eq_false e]
theorem key_lr (a : Int) (b : Str) : decide ((Sum.inl a : Key) = Sum.inr b) = false := decide_eq_false (fun q => nomatch q)
theorem key_rl (a : Str) (b : Int) : decide ((Sum.inr a : Key) = Sum.inl b) = false := decide_eq_false (fun q => nomatch q)

def mixKind (prog : Program) (w : World) : PySem.KeyKind prog w Key where
  is := keyIs
  hash := keyH w
  inj := fun v a b ha hb => by
    rcases keyIs_shape ha with ⟨i, t, rfl, rfl⟩ | ⟨x, t, rfl, rfl⟩
    · rcases keyIs_shape hb with ⟨j, u, rfl, e⟩ | ⟨y, u, rfl, e⟩
      · injection e with e1 _; rw [e1]
      · exact nomatch e
    · rcases keyIs_shape hb with ⟨j, u, rfl, e⟩ | ⟨y, u, rfl, e⟩
      · exact nomatch e
      · injection e with e1 _; rw [e1]
  byValue := fun k v h => by
    rcases keyIs_shape h with ⟨i, t, rfl, rfl⟩ | ⟨x, t, rfl, rfl⟩ <;> rfl
  pyHash := fun hv h => by
    rcases keyIs_shape hv with ⟨i, t, rfl, rfl⟩ | ⟨x, t, rfl, rfl⟩
    · exact wpAny_pyHash_int h
    · exact wpAny_pyHash_str h
  eqBool := fun hu hv h => by
    rcases keyIs_shape hu with ⟨i, t, rfl, rfl⟩ | ⟨x, t, rfl, rfl⟩
    · rcases keyIs_shape hv with ⟨j, u, rfl, rfl⟩ | ⟨y, u, rfl, rfl⟩
      · rw [key_ll] at h; exact wpAny_eqBool_int h
      · rw [key_lr] at h; exact SeqAt.EqAt.int_str i t y u _ _ _ _ h
    · rcases keyIs_shape hv with ⟨j, u, rfl, rfl⟩ | ⟨y, u, rfl, rfl⟩
      · rw [key_rl] at h; exact SeqAt.EqAt.str_int x t j u _ _ _ _ h
      · rw [key_rr] at h; exact wpAny_eqBool_str h
  «strs» := fun k x t v h => by
    rcases keyIs_shape h with ⟨i, u, rfl, e⟩ | ⟨y, u, rfl, e⟩
    · exact nomatch e
    · injection e with e1 _
      subst e1
      cases v <;> rfl

end L2

namespace L2
open PySem PySem.Spec PyProof.Rows

inductive V where
  | non | bl (b : Bool) | int (i : Int) | str (x : Str) | byt (b : Array UInt8) | flt (b : UInt64) | ref (a : Addr) | ty (n : String)
  deriving DecidableEq

def RelV : V → Value → Prop
  | .non, u => u = Value.none
  | .bl b, u => u = Value.bool b
  | .int i, u => ∃ t, u = Value.int i t
  | .str x, u => ∃ t, u = Value.str x t
  | .byt b, u => ∃ t, u = Value.bytes b t
  | .flt b, u => ∃ t, u = Value.float b t
  | .ref a, u => u = Value.ref a
  | .ty n, u => u = Value.type n

abbrev Vals : List V → List Value → Prop := Paired RelV
theorem Vals.length {xs : List V} {us : List Value} (r : Vals xs us) : xs.length = us.length := Paired.length r
theorem Vals.get : ∀ {xs : List V} {us : List Value} {i : Nat} {x : V}, Vals xs us → xs[i]? = some x → ∃ u, us[i]? = some u ∧ RelV x u
  | _, _, _, _, .nil, e => by simp at e
  | _, _, 0, _, .cons r _, e => by simp at e; subst e; exact ⟨_, rfl, r⟩
  | _, _, i + 1, x, .cons _ t, e => by
    obtain ⟨u, h1, h2⟩ := Vals.get (i := i) (x := x) t (by simpa using e)
    exact ⟨u, by simpa using h1, h2⟩
theorem Vals.append : ∀ {xs ys : List V} {us ws : List Value}, Vals xs us → Vals ys ws → Vals (xs ++ ys) (us ++ ws)
  | _, _, _, _, .nil, s => s
  | _, _, _, _, .cons r t, s => .cons r (Vals.append t s)
theorem Vals.take : ∀ {xs : List V} {us : List Value} (n : Nat), Vals xs us → Vals (xs.take n) (us.take n)
  | _, _, 0, _ => .nil
  | _, _, _ + 1, .nil => .nil
  | _, _, n + 1, .cons r t => .cons r (Vals.take n t)
theorem Vals.drop : ∀ {xs : List V} {us : List Value} (n : Nat), Vals xs us → Vals (xs.drop n) (us.drop n)
  | _, _, 0, r => r
  | _, _, _ + 1, .nil => .nil
  | _, _, n + 1, .cons _ t => Vals.drop n t

def RelO : Option V → Option Value → Prop
  | some v, some u => RelV v u
  | none, none => True
  | _, _ => False
def KV {κ : Type} : List (κ × V) → List (κ × Value) → Prop := Paired fun (p : κ × V) (q : κ × Value) => p.1 = q.1 ∧ RelV p.2 q.2

def kV : Key → V
  | .inl i => .int i
  | .inr x => .str x

inductive HO where
  /-- a list -/
  | lst (xs : List V)
  /-- a tuple (never changes) -/
  | tup (xs : List V)
  /-- a dict whose keys are ints and texts; one whose keys are tuples of ints and texts (the empty one is both) -/
  | dK (kvs : List (Key × V)) | dT (kvs : List (List Key × V))
  /-- a set of ints: its members, its size -/
  | set (S : Int → Bool) (n : Nat)
  /-- an instance of the class at C, its dict at dx, its attributes -/
  | ins (C dx : Addr) (fs : List (Str × V))
  /-- the dict of the instance at x -/
  | own (x : Addr)
  /-- the dict of an exception -/
  | xd (fs : List (Str × V))
  /-- a bound method, f of x -/
  | met (f x : Addr)
  /-- a range object lo, lo + 1, .. below hi -/
  | rng (lo hi : Int)
  /-- a thing that is known to the object (the script; a dict while a loop walks it): read, never written while it is so -/
  | frz (o : Obj) (u : HO)
  /-- a code object's table -/
  | tbl (ps : Array Value)
  /-- any other thing, by what is true of its one object (a def of one's own: SetO a S n := HO.ext fun h => ..) -/
  | ext (φ : Heap → Prop)

abbrev Hp := Addr → Option HO
def upd (H : Hp) (a : Addr) (o : HO) : Hp := fun b => if b = a then some o else H b
theorem upd_same {H : Hp} {a : Addr} {o : HO} : upd H a o a = some o := by unfold upd; rw [if_pos rfl]
theorem upd_ne {H : Hp} {a b : Addr} {o : HO} (h : b ≠ a) : upd H a o b = H b := by unfold upd; rw [if_neg h]
theorem upd_upd {H : Hp} {a : Addr} {o u : HO} : upd (upd H a o) a u = upd H a u := by
  funext b; unfold upd; split <;> rfl
theorem ne_of_none {H : Hp} {a b : Addr} {o : HO} (h : H a = some o) (h' : H b = none) : a ≠ b := by
  intro e; subst e; rw [h] at h'; cases h'

section
variable (P : Program) (w : World)
def ObjOk (H : Hp) (h : Heap) (a : Addr) : HO → Prop
  | .lst xs => xs.length ≤ sizeLine ∧ ∃ (its : List Value) (n : Nat), Vals xs its ∧ h.get? a = some { cls := .type "list", data := .seq its.toArray n }
  | .tup xs => xs.length ≤ sizeLine ∧ ∃ its : List Value, Vals xs its ∧ IsTup h a its.toArray
  | .dK kvs => kvs.length ≤ sizeLine ∧ (a == sysModules) = false ∧ ∃ vs, KV kvs vs ∧ h.DictOf (mixKind P w) a vs
  | .dT kvs => kvs.length ≤ sizeLine ∧ (a == sysModules) = false ∧ ∃ xs : List (List Key × Addr × Value),
      Paired (fun (p : List Key × V) (q : List Key × Addr × Value) => p.1 = q.1 ∧ H q.2.1 = some (.tup (p.1.map kV)) ∧ RelV p.2 q.2.2) kvs xs ∧
      ∃ o es ep, h.get? a = some o ∧ o.ExactDict ∧ o.data = .dict es ep ∧ es.toList = xs.map (entryOfKey (tupleKind (mixKind P w))) ∧ (xs.map (·.1)).Nodup
  | .set S n => h.SetOf (intKind P w) a S n
  | .ins C dx fs => H dx = some (.own a) ∧ fs.length ≤ 1000 ∧ dx ≠ a ∧ h.get? a = some (PySem.W.instObj C dx) ∧
      ∃ mA, h.Ns1 dx mA ∧ (∀ f, RelO (fs.lookup f) (mA f)) ∧ PySem.Within mA (fs.map (·.1))
  | .own _ => ∃ o, h.get? a = some o
  | .xd fs => ∃ mA, h.Ns1 a mA ∧ ∀ f, RelO (fs.lookup f) (mA f)
  | .rng lo hi => ∃ t u v, h.get? a = some { cls := .type "range", data := .fields #[.int lo t, .int hi u, .int 1 v] }
  | .frz o u => h.get? a = some o ∧ ObjOk H h a u
  | .tbl ps => h.get? a = some { cls := .none, data := .fields ps }
  | .met f x => h.get? a = some (PySem.W.methodObj (.ref f) (.ref x))
  | .ext φ => φ h ∧ (∃ o, h.get? a = some o) ∧ ∀ h1 h2 : Heap, φ h1 → (∀ o, h1.get? a = some o → h2.get? a = some o) → φ h2
def HOk (H : Hp) (h : Heap) : Prop := ∀ a o, H a = some o → ObjOk P w H h a o
end

section
variable {P : Program} {w : World} {H H' : Hp} {h h' : Heap} {a : Addr} {o : HO}
theorem ObjOk.lt (x : ObjOk P w H h a o) : a < h.objs.size := by
  cases o with
  | lst xs => obtain ⟨_, _, _, _, e⟩ := x; exact Heap.lt_size e
  | tup xs => obtain ⟨_, _, _, p⟩ := x; exact p.lt
  | dK kvs => obtain ⟨_, _, _, _, o, _, _, e, _⟩ := x; exact Heap.lt_size e
  | dT kvs => obtain ⟨_, _, _, _, o, _, _, e, _⟩ := x; exact Heap.lt_size e
  | set S n => obtain ⟨o, _, _, _, e, _⟩ := x; exact Heap.lt_size e
  | ins C dx fs => obtain ⟨_, _, _, e, _⟩ := x; exact Heap.lt_size e
  | own y => obtain ⟨_, e⟩ := x; exact Heap.lt_size e
  | xd fs => obtain ⟨_, ⟨_, _, _, e, _⟩, _⟩ := x; exact Heap.lt_size e
  | rng lo hi => obtain ⟨_, _, _, e⟩ := x; exact Heap.lt_size e
  | frz ob u => obtain ⟨e, _⟩ := x; exact Heap.lt_size e
  | tbl ps => exact Heap.lt_size (show h.get? a = some _ from x)
  | met f y => exact Heap.lt_size (show h.get? a = some _ from x)
  | ext φ => obtain ⟨_, ⟨_, e⟩, _⟩ := x; exact Heap.lt_size e
theorem Paired.mapP {α β : Type} {F G : α → β → Prop} : ∀ {l₁ : List α} {l₂ : List β}, Paired F l₁ l₂ → (∀ a b, F a b → G a b) → Paired G l₁ l₂
  | _, _, .nil, _ => .nil
  | _, _, .cons r t, f => .cons (f _ _ r) (Paired.mapP t f)
theorem ObjOk.stay (x : ObjOk P w H h a o) (k : ∀ b u, (b = a ∨ H b = some (.own a)) → h.get? b = some u → h'.get? b = some u)
    (ho : ∀ b, H b = some (.own a) → H' b = some (.own a)) (ht : ∀ b xs, H b = some (.tup xs) → H' b = some (.tup xs)) : ObjOk P w H' h' a o := by
  induction o with
  | lst xs => obtain ⟨z, its, n, r, e⟩ := x; exact ⟨z, its, n, r, k _ _ (.inl rfl) e⟩
  | tup xs => obtain ⟨z, its, r, ob, e, c⟩ := x; exact ⟨z, its, r, ob, k _ _ (.inl rfl) e, c⟩
  | dK kvs => obtain ⟨z, y, vs, r, ob, es, ep, e, c⟩ := x; exact ⟨z, y, vs, r, ob, es, ep, k _ _ (.inl rfl) e, c⟩
  | dT kvs =>
    obtain ⟨z, y, xs, r, ob, es, ep, e, c⟩ := x
    exact ⟨z, y, xs, Paired.mapP r fun p q z => ⟨z.1, ht _ _ z.2.1, z.2.2⟩, ob, es, ep, k _ _ (.inl rfl) e, c⟩
  | set S n => obtain ⟨ob, es, ep, t, e, c⟩ := x; exact ⟨ob, es, ep, t, k _ _ (.inl rfl) e, c⟩
  | ins C dx fs =>
    obtain ⟨d, z, ne, e, mA, ⟨od, es, ep, e2, c⟩, r⟩ := x
    exact ⟨ho _ d, z, ne, k _ _ (.inl rfl) e, mA, ⟨od, es, ep, k _ _ (.inr d) e2, c⟩, r⟩
  | own y => obtain ⟨ob, e⟩ := x; exact ⟨ob, k _ _ (.inl rfl) e⟩
  | xd fs => obtain ⟨mA, ⟨od, es, ep, e, c⟩, r⟩ := x; exact ⟨mA, ⟨od, es, ep, k _ _ (.inl rfl) e, c⟩, r⟩
  | rng lo hi => obtain ⟨t, u, v, e⟩ := x; exact ⟨t, u, v, k _ _ (.inl rfl) e⟩
  | frz ob u ih => obtain ⟨e, q⟩ := x; exact ⟨k _ _ (.inl rfl) e, ih q⟩
  | tbl ps =>
    have e : h.get? a = some { cls := .none, data := .fields ps } := x
    show h'.get? a = some { cls := .none, data := .fields ps }
    exact k a _ (.inl rfl) e
  | met f y =>
    have e : h.get? a = some (PySem.W.methodObj (.ref f) (.ref y)) := x
    show h'.get? a = some (PySem.W.methodObj (.ref f) (.ref y))
    exact k a _ (.inl rfl) e
  | ext φ => obtain ⟨p, ⟨o, e⟩, st⟩ := x; exact ⟨st _ _ p fun o q => k _ _ (.inl rfl) q, ⟨o, k _ _ (.inl rfl) e⟩, st⟩
theorem HOk.lt (x : HOk P w H h) (e : H a = some o) : a < h.objs.size := (x a o e).lt
theorem HOk.fresh (x : HOk P w H h) (e : h.objs.size ≤ a) : H a = none := by
  cases q : H a with
  | none => rfl
  | some u => exact absurd (Nat.lt_of_lt_of_le (x.lt q) e) (Nat.lt_irrefl _)
theorem HOk.kept (x : HOk P w H h) (k : ∀ b u, h.get? b = some u → h'.get? b = some u) : HOk P w H h' := fun a o e =>
  (x a o e).stay (fun b u _ q => k b u q) (fun _ q => q) fun _ _ q => q
theorem HOk.laid (x : HOk P w H h) (k : ∀ b u, h.get? b = some u → h'.get? b = some u) (hp : h.objs.size ≤ a) (new : ObjOk P w (upd H a o) h' a o) : HOk P w (upd H a o) h' := fun b u e => by
  have hn := x.fresh hp
  by_cases hb : b = a
  · subst hb; rw [upd_same] at e; cases e; exact new
  · rw [upd_ne hb] at e
    exact (x b u e).stay (fun c v _ q => k c v q) (fun c q => by rw [upd_ne (ne_of_none q hn)]; exact q) fun c xs q => by rw [upd_ne (ne_of_none q hn)]; exact q
end

def Rd (H : Hp) (a : Addr) (u : HO) : Prop := H a = some u ∨ ∃ o, H a = some (.frz o u)
theorem Rd.ok {P : Program} {w : World} {H : Hp} {h : Heap} {a : Addr} {u : HO} (r : Rd H a u) (x : HOk P w H h) : ObjOk P w H h a u := by
  rcases r with r | ⟨o, r⟩
  · exact x a u r
  · obtain ⟨_, q⟩ := x a _ r
    exact q
def Mut : Option HO → Prop
  | some (.lst _) => True
  | some (.dK _) => True
  | some (.dT _) => True
  | some (.set _ _) => True
  | some (.ins _ _ _) => True
  | some (.ext _) => True
  | _ => False
section
variable {P : Program} {w : World} {H : Hp} {h h' : Heap} {x e : Addr} {o' : HO}
theorem HOk.write (ok : HOk P w H h) (mu : Mut (H x)) (he : e = x ∨ H e = some (.own x)) (k : ∀ b u, b ≠ e → h.get? b = some u → h'.get? b = some u) (heo : ∃ u, h'.get? e = some u)
    (new : ObjOk P w (upd H x o') h' x o') : HOk P w (upd H x o') h' := fun b u q => by
  have nown : ∀ c y, H c = some (.own y) → c ≠ x := fun c y r z => by subst z; rw [r] at mu; exact mu
  have ntup : ∀ c xs, H c = some (.tup xs) → c ≠ x := fun c xs r z => by subst z; rw [r] at mu; exact mu
  by_cases hb : b = x
  · subst hb; rw [upd_same] at q; cases q; exact new
  · rw [upd_ne hb] at q
    by_cases hbe : b = e
    · have q' : H b = some (.own x) := by
        rcases he with z | z
        · exact absurd (hbe.trans z) hb
        · rw [hbe]; exact z
      rw [q] at q'; cases q'
      obtain ⟨v, hv⟩ := heo
      exact ⟨v, by rw [hbe]; exact hv⟩
    · refine (ok b u q).stay (fun c v hc r => k c v ?_ r) (fun c r => by rw [upd_ne (nown c b r)]; exact r) fun c xs r => by rw [upd_ne (ntup c xs r)]; exact r
      rcases hc with rfl | hc
      · exact hbe
      · rintro rfl
        rcases he with z | z
        · exact nown c b hc z
        · rw [hc] at z; cases z; exact hb rfl
end

structure Un (fs ex : List Addr) (H H' : Hp) (h h' : Heap) : Prop where
  keep : ∀ b o, h.get? b = some o → H b = none → b ∉ fs → b ∉ ex → h'.get? b = some o
  slot : ∀ b o, h.get? b = some o → H b = none → b ∈ fs → b ∉ ex → ∃ sl, h'.get? b = some { o with slots := sl }
  free : ∀ b o, h.get? b = some o → H b = none → b ∉ ex → H' b = none
  there : ∀ b o, h.get? b = some o → b ∉ ex → ∃ o', h'.get? b = some o'
  tups : ∀ b xs, H b = some (.tup xs) → H' b = some (.tup xs)
  frzs : ∀ b o u, H b = some (.frz o u) → H' b = some (.frz o u)
  tbls : ∀ b ps, H b = some (.tbl ps) → ∃ more, H' b = some (.tbl (ps ++ more))
section
variable {fs fs' ex ex' : List Addr} {H H1 H2 : Hp} {h h1 h2 h' : Heap} {a x e : Addr} {o : HO}
theorem Un.any (u : Un fs ex H H1 h h1) {b : Addr} {ob : Obj} (q : h.get? b = some ob) (n : H b = none) (hx : b ∉ ex) : ∃ sl, h1.get? b = some { ob with slots := sl } := by
  by_cases hb : b ∈ fs
  · exact u.slot b ob q n hb hx
  · exact ⟨ob.slots, u.keep b ob q n hb hx⟩
theorem Un.trans (a : Un fs ex H H1 h h1) (b : Un fs ex H1 H2 h1 h2) : Un fs ex H H2 h h2 where
  keep := fun c ob q n hc hx => b.keep c ob (a.keep c ob q n hc hx) (a.free c ob q n hx) hc hx
  slot := fun c ob q n hc hx => by
    obtain ⟨sl, e1⟩ := a.slot c ob q n hc hx
    obtain ⟨sl', e2⟩ := b.slot c _ e1 (a.free c ob q n hx) hc hx
    exact ⟨sl', e2⟩
  free := fun c ob q n hx => by
    obtain ⟨o', e1⟩ := a.there c ob q hx
    exact b.free c o' e1 (a.free c ob q n hx) hx
  there := fun c ob q hx => by
    obtain ⟨o', e1⟩ := a.there c ob q hx
    exact b.there c o' e1 hx
  tups := fun c xs q => b.tups c xs (a.tups c xs q)
  frzs := fun c ob xs q => b.frzs c ob xs (a.frzs c ob xs q)
  tbls := fun c ps q => by
    obtain ⟨m1, e1⟩ := a.tbls c ps q
    obtain ⟨m2, e2⟩ := b.tbls c _ e1
    exact ⟨m1 ++ m2, by rw [e2, Array.append_assoc]⟩
theorem Un.kept (k : ∀ b u, h.get? b = some u → h'.get? b = some u) : Un fs ex H H h h' :=
  ⟨fun b ob q _ _ _ => k b ob q, fun b ob q _ _ _ => ⟨ob.slots, k b ob q⟩, fun _ _ _ n _ => n, fun b ob q _ => ⟨ob, k b ob q⟩, fun _ _ q => q, fun _ _ _ q => q, fun _ ps q => ⟨#[], by rw [q]; simp⟩⟩
theorem Un.refl : Un fs ex H H h h := Un.kept fun _ _ q => q
theorem Un.laid (k : ∀ b u, h.get? b = some u → h'.get? b = some u) (hp : h.objs.size ≤ a) (hn : H a = none) : Un fs ex H (upd H a o) h h' where
  keep := fun b u q _ _ _ => k b u q
  slot := fun b u q _ _ _ => ⟨u.slots, k b u q⟩
  free := fun b u q n _ => by rw [upd_ne (Nat.ne_of_lt (Nat.lt_of_lt_of_le (Heap.lt_size q) hp))]; exact n
  there := fun b u q _ => ⟨u, k b u q⟩
  tups := fun b xs q => by rw [upd_ne (ne_of_none q hn)]; exact q
  frzs := fun b u xs q => by rw [upd_ne (ne_of_none q hn)]; exact q
  tbls := fun b ps q => ⟨#[], by rw [upd_ne (ne_of_none q hn), q]; simp⟩
theorem Un.write (mu : Mut (H x)) (he : e = x ∨ H e = some (.own x)) (k : ∀ b u, b ≠ e → h.get? b = some u → h'.get? b = some u) (heo : ∃ u, h'.get? e = some u) : Un fs ex H (upd H x o) h h' := by
  have hx : ∀ b, H b = none → b ≠ x := fun b n z => by subst z; rw [n] at mu; exact mu
  have hb : ∀ b, H b = none → b ≠ e := fun b n z => by
    subst z
    rcases he with r | r
    · exact hx b n r
    · rw [n] at r; cases r
  have hm : ∀ b u, H b = some u → ¬ Mut (some u) → b ≠ x := fun b u q nm z => by subst z; rw [q] at mu; exact nm mu
  refine ⟨fun b u q n _ _ => k b u (hb b n) q, fun b u q n _ _ => ⟨u.slots, k b u (hb b n) q⟩, fun b u q n _ => by rw [upd_ne (hx b n)]; exact n, fun b u q _ => ?_,
    fun b xs q => by rw [upd_ne (hm b _ q fun z => z)]; exact q, fun b u xs q => by rw [upd_ne (hm b _ q fun z => z)]; exact q, fun b ps q => ⟨#[], by rw [upd_ne (hm b _ q fun z => z), q]; simp⟩⟩
  by_cases hbe : b = e
  · subst hbe; exact heo
  · exact ⟨u, k b u hbe q⟩
theorem Un.mono (u : Un fs ex H H1 h h1) (hs : ∀ b ∈ fs, b ∈ fs') (hx : ∀ b ∈ ex, b ∈ ex') : Un fs' ex' H H1 h h1 :=
  ⟨fun b ob q n hb he => u.keep b ob q n (fun z => hb (hs b z)) fun z => he (hx b z), fun _ _ q n _ he => u.any q n fun z => he (hx _ z), fun b ob q n he => u.free b ob q n fun z => he (hx b z), fun b ob q he => u.there b ob q fun z => he (hx b z), u.tups, u.frzs, u.tbls⟩
end

def trk (h : Heap) (H : Hp) : List Addr := (List.range h.objs.size).filter fun a => (H a).isSome
def hidT (h : Heap) (H : Hp) : Heap := PySem.W.hideAll h (trk h H)
theorem hidT_size (h : Heap) (H : Hp) : (hidT h H).objs.size = h.objs.size := PySem.W.hideAll_size _ _
theorem hidT_get {h : Heap} {H : Hp} {b : Addr} {o : Obj} (e : h.get? b = some o) (n : H b = none) : (hidT h H).get? b = some o :=
  PySem.W.hideAll_get _ e fun hm => by
    have q : (H b).isSome = true := (List.mem_filter.mp hm).2
    rw [n] at q; simp at q
theorem of_hidT {h : Heap} {H : Hp} {b : Addr} {o : Obj} (e : (hidT h H).get? b = some o) : h.get? b = some o ∧ H b = none := by
  have e' : h.get? b = some o := PySem.W.of_hideAll (trk h H) e
  refine ⟨e', ?_⟩
  cases q : H b with
  | none => rfl
  | some x =>
    have hm : b ∈ trk h H := List.mem_filter.mpr ⟨List.mem_range.mpr (Heap.lt_size e'), by simp [q]⟩
    have z : (hidT h H).get? b = none := PySem.W.hideAll_none (trk h H) hm
    rw [z] at e; cases e

def allNews (g h : Heap) (L : Addr) : List (Addr × Obj) := (List.range h.objs.size).filterMap fun a => if a = L ∨ (g.get? a).isSome = true then none else (h.get? a).map fun o => (a, o)
def rest (g h : Heap) (L d : Addr) : List (Addr × Obj) := (allNews g h L).filter fun p => decide (p.1 ≠ d)
end L2

namespace L2
open PySem PySem.Spec PyProof.Rows

structure Mod (K : PySem.W.Frag) (mg : Str → Option Value) (base : Heap) : Prop where
  kin : K.In base
  glob : base.Ns mainGlobals mg
  blt : ∃ mb, base.Ns builtinsNs mb ∧ ∀ x : Str, x ≠ "__name__" → mb x = bootBuiltins x
  nolimit : base.NoLimit

structure Cx where
  prog : Program
  w : World
  K : PySem.W.Frag
  mg : Str → Option Value
  base : Heap
  A : Around
  N : List Str
  s₀ : Shared
  H₀ : Hp
  env : Env
  outer : List Env
  stack : List Env
  ex : List Addr
  fn : Str → Bool
  calm : Bool
  pn : List (Addr × Obj)
  xe : Value → Shared → Prop
def frs (l : List Env) : List Addr := l.filterMap (·.frame)
abbrev Cx.fs (X : Cx) : List Addr := frs X.outer

def Vis (sc : Scope) (x : Str) : Prop := sc.names.lookup x = some .local ∨ sc.names.lookup x = some .cell ∨ sc.names.lookup x = some .free
def Loc (sc : Scope) (x : Str) : Prop := sc.names.lookup x = some .local ∨ sc.names.lookup x = some .cell
def Look (env : Env) (h : Heap) (m : Str → Option Value) (x : Str) (u : Value) : Prop :=
  (env.kindOf x = some .local ∧ m x = some u) ∨ ((env.kindOf x = some .cell ∨ env.kindOf x = some .free) ∧ ∃ c, env.cells.lookup x = some c ∧ h.IsCell c (some u))

structure Cx.Ok (X : Cx) : Prop where
  mod : Mod X.K X.mg X.base
  kind : X.env.scope.kind = .function
  glob : X.env.globals = mainGlobals
  blt : X.env.builtins = builtinsNs
  above : X.s₀.heap.objs.size ≤ X.env.locals
  inj : ∀ x y c, X.env.cells.lookup x = some c → X.env.cells.lookup y = some c → x = y
  has : ∀ x, (X.env.kindOf x = some .cell ∨ X.env.kindOf x = some .free) → ∃ c, X.env.cells.lookup x = some c
  cab : ∀ x c, X.fn x = true → X.env.cells.lookup x = some c → X.s₀.heap.objs.size ≤ c
  hd : X.calm = true → X.A.handled = none
  frames : X.A.frames = some X.stack
  stk : X.stack = X.outer ∨ (X.stack = X.env :: X.outer ∧ X.env.frame = some X.env.locals)
  exf : ∀ b ∈ X.ex, b ≠ X.env.locals ∧ ∀ x c, X.env.cells.lookup x = some c → c ≠ b
  bs : ∀ b o, X.base.get? b = some o → X.s₀.heap.get? b = some o ∧ X.H₀ b = none
  bsz : X.base.objs.size ≤ X.s₀.heap.objs.size
  noex : ∀ b o, X.base.get? b = some o → b ∉ X.ex
  exfs : ∀ b ∈ X.ex, b ∉ X.fs
  funs : X.s₀.heap.FunFrames X.base X.outer
  frf : ∀ b ∈ X.fs, X.H₀ b = none

structure Inv (X : Cx) (pins : List (Addr × Obj)) (σ : List (Option V)) (H : Hp) (s : Shared) : Prop where
  ok : X.Ok
  os : s.os = X.s₀.os
  bare : AllBare s.gens
  base : Un X.fs X.ex X.H₀ H X.s₀.heap s.heap
  loc : ∃ m, s.heap.Ns X.env.locals m ∧ ∀ (i : Nat) (x : Str) (v : V), X.N[i]? = some x → σ[i]? = some (some v) → Vis X.env.scope x → ∃ u, RelV v u ∧ Look X.env s.heap m x u
  cell : ∀ x c, X.env.cells.lookup x = some c → ∃ v, s.heap.IsCell c v
  free : H X.env.locals = none
  freeC : ∀ x c, X.env.cells.lookup x = some c → H c = none
  pin : ∀ p ∈ X.pn ++ pins, s.heap.get? p.1 = some p.2 ∧ H p.1 = none ∧ p.1 ≠ X.env.locals ∧ p.1 ∉ X.fs ∧ ∀ v, p.2.data ≠ .cell v
  hok : HOk X.prog X.w H s.heap
  len : σ.length = X.N.length

section
variable {X : Cx} {pins : List (Addr × Obj)} {σ : List (Option V)} {H H' : Hp} {s : Shared} {h' : Heap}

theorem Cx.Ok.nofr (ok : X.Ok) {b : Addr} {o : Obj} (e : X.base.get? b = some o) : b ∉ X.fs := fun hb => by
  have := (ok.funs.mem hb).1
  rw [e] at this; cases this
theorem Inv.bs (I : Inv X pins σ H s) : ∀ b o, X.base.get? b = some o → s.heap.get? b = some o ∧ H b = none := fun b o e =>
  ⟨I.base.keep b o (I.ok.bs b o e).1 (I.ok.bs b o e).2 (I.ok.nofr e) (I.ok.noex b o e), I.base.free b o (I.ok.bs b o e).1 (I.ok.bs b o e).2 (I.ok.noex b o e)⟩
theorem Inv.bk (I : Inv X pins σ H s) : ∀ b o, X.base.get? b = some o → s.heap.get? b = some o := fun b o e => (I.bs b o e).1
theorem Inv.mod (I : Inv X pins σ H s) : Mod X.K X.mg X.base := I.ok.mod
theorem Inv.kIn (I : Inv X pins σ H s) : X.K.In s.heap := I.ok.mod.kin.keeps I.bk
theorem Inv.nolimit (I : Inv X pins σ H s) : s.heap.NoLimit := I.ok.mod.nolimit.keeps I.bk
theorem Inv.lt (I : Inv X pins σ H s) : X.env.locals < s.heap.objs.size := let ⟨_, hn, _⟩ := I.loc; hn.lt
theorem Inv.sz (I : Inv X pins σ H s) : X.s₀.heap.objs.size ≤ s.heap.objs.size := Nat.le_trans I.ok.above (Nat.le_of_lt I.lt)
theorem Inv.nofs (I : Inv X pins σ H s) {a : Addr} (h : s.heap.objs.size ≤ a) : a ∉ X.fs := fun hb => by
  obtain ⟨_, o, ho, _⟩ := I.ok.funs.mem hb
  exact absurd (Nat.lt_of_lt_of_le (Heap.lt_size ho) (Nat.le_trans I.sz h)) (Nat.lt_irrefl _)
theorem Inv.cne (I : Inv X pins σ H s) : ∀ x c, X.env.cells.lookup x = some c → c ≠ X.env.locals := fun x c e z => by
  obtain ⟨v, o, ho, hd⟩ := I.cell x c e
  obtain ⟨m, ⟨o', es, ep, ho', hd', _⟩, _⟩ := I.loc
  rw [z, ho'] at ho; cases ho; rw [hd'] at hd; cases hd
theorem Inv.funs (I : Inv X pins σ H s) : s.heap.FunFrames X.base X.outer := by
  have all : ∀ (l : List Env), (∀ b ∈ frs l, b ∈ X.fs) → X.s₀.heap.FunFrames X.base l → s.heap.FunFrames X.base l := by
    intro l
    induction l with
    | nil => intro _ _; trivial
    | cons env r ih =>
      intro hs hl
      obtain ⟨hk, ⟨L, o, hf, hn, ho, hd⟩, hr⟩ := hl
      have hL : L ∈ X.fs := hs L (by unfold frs; rw [List.filterMap_cons, hf]; exact List.mem_cons_self)
      obtain ⟨sl, e⟩ := I.base.slot L o ho (I.ok.frf L hL) hL fun z => I.ok.exfs L z hL
      exact ⟨hk, ⟨L, _, hf, hn, e, hd⟩, ih (fun b hb => hs b (by unfold frs; rw [List.filterMap_cons, hf]; exact List.mem_cons_of_mem _ hb)) hr⟩
  exact all X.outer (fun _ hb => hb) I.ok.funs

theorem Inv.stack (I : Inv X pins σ H s) : s.heap.FunFrames X.base X.stack := by
  rcases I.ok.stk with e | ⟨e, hf⟩
  · rw [e]; exact I.funs
  · rw [e]
    obtain ⟨m, hn, _⟩ := I.loc
    refine .cons (by rw [I.ok.kind]; decide) hf hn ?_ I.funs
    exact Heap.get?_none_of_le (Nat.le_trans I.ok.bsz I.ok.above)
theorem Inv.stkSub (I : Inv X pins σ H s) : ∀ b ∈ frs X.stack, b ∈ X.env.locals :: X.fs := fun b hb => by
  rcases I.ok.stk with e | ⟨e, hf⟩
  · rw [e] at hb; exact List.mem_cons_of_mem _ hb
  · rw [e] at hb
    unfold frs at hb
    rw [List.filterMap_cons, hf] at hb
    exact hb
theorem Inv.stkFree (I : Inv X pins σ H s) : ∀ b ∈ frs X.stack, H b = none := fun b hb => by
  rcases List.mem_cons.mp (I.stkSub b hb) with e | hb
  · rw [e]; exact I.free
  · obtain ⟨_, o, ho, _⟩ := I.ok.funs.mem hb
    exact I.base.free b o ho (I.ok.frf b hb) fun z => I.ok.exfs b z hb

theorem Inv.step {g' : Array GenState} {t' : Nat} {d' : Drawn} {ch : List Addr} (I : Inv X pins σ H s)
    (hch : ∀ b ∈ ch, (b ∈ X.ex ∨ X.s₀.heap.objs.size ≤ b) ∧ b ≠ X.env.locals ∧ (∀ x c, X.env.cells.lookup x = some c → c ≠ b) ∧ ∀ p ∈ X.pn ++ pins, p.1 ≠ b)
    (keep : ∀ b o, b ≠ X.env.locals → b ∉ X.fs → b ∉ ch → s.heap.get? b = some o → H b = none → h'.get? b = some o)
    (slot : ∀ b o, b ≠ X.env.locals → b ∈ X.fs → b ∉ ch → s.heap.get? b = some o → H b = none → ∃ sl, h'.get? b = some { o with slots := sl }) (free : ∀ b o, b ∉ ch → s.heap.get? b = some o → H b = none → H' b = none)
    (there : ∀ b o, b ∉ ch → s.heap.get? b = some o → ∃ o', h'.get? b = some o')
    (tups : ∀ b xs, H b = some (.tup xs) → H' b = some (.tup xs)) (frzs : ∀ b o u, H b = some (.frz o u) → H' b = some (.frz o u)) (tbls : ∀ b ps, H b = some (.tbl ps) → ∃ more, H' b = some (.tbl (ps ++ more)))
    (ns : ∀ m, s.heap.Ns X.env.locals m → h'.Ns X.env.locals m) (hok : HOk X.prog X.w H' h') (hg : AllBare g') :
    Inv X pins σ H' { s with heap := h', gens := g', drawn := d', toks := t' } := by
  have neL : ∀ b o, X.s₀.heap.get? b = some o → b ≠ X.env.locals := fun b o e => Nat.ne_of_lt (Nat.lt_of_lt_of_le (Heap.lt_size e) I.ok.above)
  have neC : ∀ b o, X.s₀.heap.get? b = some o → b ∉ X.ex → b ∉ ch := fun b o e hx hb => by
    rcases (hch b hb).1 with z | z
    · exact hx z
    · exact absurd (Nat.lt_of_lt_of_le (Heap.lt_size e) z) (Nat.lt_irrefl _)
  have cellK : ∀ x c, X.env.cells.lookup x = some c → ∀ v, s.heap.IsCell c v → h'.IsCell c v := fun x c e v ⟨o, ho, hd⟩ => by
    have nch : c ∉ ch := fun z => (hch c z).2.2.1 x c e rfl
    by_cases hc : c ∈ X.fs
    · obtain ⟨sl, q⟩ := slot c o (I.cne x c e) hc nch ho (I.freeC x c e)
      exact ⟨_, q, hd⟩
    · exact ⟨o, keep c o (I.cne x c e) hc nch ho (I.freeC x c e), hd⟩
  refine ⟨I.ok, I.os, hg, ⟨fun b o e n hb hx => ?_, fun b o e n hb hx => ?_, fun b o e n hx => ?_, fun b o e hx => ?_, fun b xs e => tups b xs (I.base.tups b xs e), fun b o xs e => frzs b o xs (I.base.frzs b o xs e), fun b ps e => ?_⟩, ?_, fun x c e => ?_, ?_, fun x c e => ?_, fun p hp => ?_, hok, I.len⟩
  · exact keep b o (neL b o e) hb (neC b o e hx) (I.base.keep b o e n hb hx) (I.base.free b o e n hx)
  · obtain ⟨sl, e1⟩ := I.base.slot b o e n hb hx
    obtain ⟨sl', e2⟩ := slot b _ (neL b o e) hb (neC b o e hx) e1 (I.base.free b o e n hx)
    exact ⟨sl', e2⟩
  · obtain ⟨o', e1⟩ := I.base.there b o e hx
    exact free b o' (neC b o e hx) e1 (I.base.free b o e n hx)
  · obtain ⟨o', e1⟩ := I.base.there b o e hx
    exact there b o' (neC b o e hx) e1
  · obtain ⟨m1, e1⟩ := I.base.tbls b ps e
    obtain ⟨m2, e2⟩ := tbls b _ e1
    exact ⟨m1 ++ m2, by rw [e2, Array.append_assoc]⟩
  · obtain ⟨m, hn, hl⟩ := I.loc
    refine ⟨m, ns m hn, fun i x v e1 e2 e3 => ?_⟩
    obtain ⟨u, r, l⟩ := hl i x v e1 e2 e3
    refine ⟨u, r, ?_⟩
    rcases l with l | ⟨k, c, e, z⟩
    · exact .inl l
    · exact .inr ⟨k, c, e, cellK x c e _ z⟩
  · obtain ⟨v, z⟩ := I.cell x c e
    exact ⟨v, cellK x c e v z⟩
  · obtain ⟨m, ⟨o, _, _, ho, _⟩, _⟩ := I.loc
    exact free _ o (fun z => (hch _ z).2.1 rfl) ho I.free
  · obtain ⟨v, o, ho, hd⟩ := I.cell x c e
    exact free c o (fun z => (hch c z).2.2.1 x c e rfl) ho (I.freeC x c e)
  · obtain ⟨e, n, ne, nf, d⟩ := I.pin p hp
    have nch : p.1 ∉ ch := fun z => (hch p.1 z).2.2.2 p hp rfl
    exact ⟨keep p.1 p.2 ne nf nch e n, free p.1 p.2 nch e n, ne, nf, d⟩
theorem Inv.un {t' : Nat} (I : Inv X pins σ H s) (u : Un X.fs [] H H' s.heap h') (hok : HOk X.prog X.w H' h') : Inv X pins σ H' { s with heap := h', toks := t' } := by
  obtain ⟨m, ⟨o, es, ep, ho, r⟩, _⟩ := id I.loc
  obtain ⟨sl, hL⟩ := u.any ho I.free (by simp)
  exact I.step (g' := s.gens) (d' := s.drawn) (ch := []) (fun _ z => nomatch z) (fun b o _ hb _ e n => u.keep b o e n hb (by simp)) (fun b o _ hb _ e n => u.slot b o e n hb (by simp)) (fun b o _ e n => u.free b o e n (by simp)) (fun b o _ e => u.there b o e (by simp)) u.tups u.frzs u.tbls (fun m' hm => by
    obtain ⟨o', es', ep', ho', r'⟩ := hm
    rw [ho] at ho'; cases ho'
    exact ⟨_, es', ep', hL, r'⟩) hok I.bare
theorem Inv.call {g' : Array GenState} {t' : Nat} {d' : Drawn} {ch : List Addr} (I : Inv X pins σ H s) (u : Un (frs X.stack) ch H H' s.heap h') (hok : HOk X.prog X.w H' h') (hg : AllBare g')
    (hch : ∀ b ∈ ch, (b ∈ X.ex ∨ X.s₀.heap.objs.size ≤ b) ∧ b ≠ X.env.locals ∧ (∀ x c, X.env.cells.lookup x = some c → c ≠ b) ∧ ∀ p ∈ X.pn ++ pins, p.1 ≠ b) :
    Inv X pins σ H' { s with heap := h', gens := g', drawn := d', toks := t' } := by
  obtain ⟨m, ⟨o, es, ep, ho, r⟩, _⟩ := id I.loc
  obtain ⟨sl, hL⟩ := u.any ho I.free fun z => (hch _ z).2.1 rfl
  exact I.step (ch := ch) hch (fun b o hL hb hc e n => u.keep b o e n (fun z => (List.mem_cons.mp (I.stkSub b z)).elim hL hb) hc) (fun b o _ _ hc e n => u.any e n hc) (fun b o hc e n => u.free b o e n hc) (fun b o hc e => u.there b o e hc) u.tups u.frzs u.tbls (fun m' hm => by
    obtain ⟨o', es', ep', ho', r'⟩ := hm
    rw [ho] at ho'; cases ho'
    exact ⟨_, es', ep', hL, r'⟩) hok hg
theorem Inv.turned {t' : Nat} {it : Addr} (I : Inv X pins σ H s) (k : ∀ b o, b ≠ it → s.heap.get? b = some o → h'.get? b = some o) (hn : H it = none) (hL : it ≠ X.env.locals)
    (h1 : it ∈ X.ex ∨ X.s₀.heap.objs.size ≤ it) (h2 : ∀ x c, X.env.cells.lookup x = some c → c ≠ it) (h3 : ∀ p ∈ X.pn ++ pins, p.1 ≠ it) : Inv X pins σ H { s with heap := h', toks := t' } := by
  have nit : ∀ b u, H b = some u → b ≠ it := fun b u e z => by rw [z, hn] at e; cases e
  refine I.step (g' := s.gens) (d' := s.drawn) (ch := [it]) (fun b hb => ?_) (fun b o _ _ hc e _ => k b o (fun z => hc (by simp [z])) e) (fun b o _ _ hc e _ => ⟨o.slots, k b o (fun z => hc (by simp [z])) e⟩) (fun _ _ _ _ n => n)
    (fun b o hc e => ⟨o, k b o (fun z => hc (by simp [z])) e⟩) (fun _ _ e => e) (fun _ _ _ e => e) (fun b ps e => ⟨#[], by rw [e]; simp⟩) (fun m hm => ?_) (fun b u e => ?_) I.bare
  · have e : b = it := by simpa using hb
    subst e
    exact ⟨h1, hL, h2, h3⟩
  · obtain ⟨o, es, ep, ho, r⟩ := hm
    exact ⟨o, es, ep, k _ o (Ne.symm hL) ho, r⟩
  · refine (I.hok b u e).stay (fun c v hc q => k c v ?_ q) (fun _ q => q) fun _ _ q => q
    rcases hc with z | z
    · rw [z]; exact nit b u e
    · exact nit c _ z
theorem Inv.tok (I : Inv X pins σ H s) (t : Nat) : Inv X pins σ H { s with toks := t } := I.un (h' := s.heap) (t' := t) Un.refl I.hok
theorem Inv.kept {t' : Nat} (I : Inv X pins σ H s) (k : ∀ b u, s.heap.get? b = some u → h'.get? b = some u) : Inv X pins σ H { s with heap := h', toks := t' } := I.un (Un.kept k) (I.hok.kept k)
theorem Inv.laid {a : Addr} {o : HO} {t' : Nat} (I : Inv X pins σ H s) (k : ∀ b u, s.heap.get? b = some u → h'.get? b = some u) (hp : s.heap.objs.size ≤ a) (new : ObjOk X.prog X.w (upd H a o) h' a o) :
    Inv X pins σ (upd H a o) { s with heap := h', toks := t' } := I.un (Un.laid k hp (I.hok.fresh hp)) (I.hok.laid k hp new)
theorem Inv.write {x e : Addr} {o : HO} {t' : Nat} (I : Inv X pins σ H s) (mu : Mut (H x)) (he : e = x ∨ H e = some (.own x)) (k : ∀ b u, b ≠ e → s.heap.get? b = some u → h'.get? b = some u) (heo : ∃ u, h'.get? e = some u)
    (new : ObjOk X.prog X.w (upd H x o) h' x o) : Inv X pins σ (upd H x o) { s with heap := h', toks := t' } := I.un (Un.write mu he k heo) (I.hok.write mu he k heo new)
theorem Inv.pins_of {pins' : List (Addr × Obj)} (I : Inv X pins σ H s) (h : ∀ p ∈ pins', s.heap.get? p.1 = some p.2 ∧ H p.1 = none ∧ p.1 ≠ X.env.locals ∧ p.1 ∉ X.fs ∧ ∀ v, p.2.data ≠ .cell v) : Inv X pins' σ H s :=
  ⟨I.ok, I.os, I.bare, I.base, I.loc, I.cell, I.free, I.freeC, fun p hp => (List.mem_append.mp hp).elim (fun z => I.pin p (List.mem_append_left _ z)) (h p), I.hok, I.len⟩

theorem nodup_ix {N : List Str} (hN : N.Nodup) {i j : Nat} {x : Str} (a : N[i]? = some x) (b : N[j]? = some x) : i = j := by
  obtain ⟨h1, e1⟩ := List.getElem?_eq_some_iff.mp a
  obtain ⟨h2, e2⟩ := List.getElem?_eq_some_iff.mp b
  exact (List.getElem_inj hN).mp (e1.trans e2.symm)

theorem store_ok2 {M : Model} {A : Around} {E : Value → Shared → Prop} {i : Nat} {x : Str} {v : V} {u : Value} {Q : Unit → Shared → Prop} (I : Inv X pins σ H s) (hN : X.N.Nodup) (hi : X.N[i]? = some x) (hx : Loc X.env.scope x) (r : RelV v u)
    (h : ∀ s', Inv X pins (σ.set i (some v)) H s' → (∃ a, Heap.SameBut a s.heap s'.heap ∧ (a = X.env.locals ∨ X.env.cells.lookup x = some a)) → Q () s') (hf : X.fn x = true ∨ X.env.scope.names.lookup x = some .local := by first | exact .inl rfl | exact .inr rfl | assumption) : wpAny M A (storeName X.env x u) Q E s := by
  obtain ⟨m, hn, hl⟩ := id I.loc
  have hcls : (X.env.scope.kind == .class || (X.env.scope.kind == .module && X.env.locals != X.env.globals)) = false := by rw [I.ok.kind]; rfl
  have hiσ : i < σ.length := by rw [I.len]; exact (List.getElem?_eq_some_iff.mp hi).1
  have cne := I.cne
  have tracked : ∀ {a : Addr} {h' : Heap}, (∃ o, s.heap.get? a = some o ∧ H a = none) → Heap.SameBut a s.heap h' → HOk X.prog X.w H h' := fun {a h'} ha hs b ob e => by
    obtain ⟨_, _, hfree⟩ := ha
    refine (I.hok b ob e).stay (fun c w' hc q => (hs.2 c ?_).trans q) (fun _ q => q) fun _ _ q => q
    rintro rfl
    rcases hc with rfl | hc
    · rw [hfree] at e; cases e
    · rw [hfree] at hc; cases hc
  rcases hx with hk | hk
  · refine wpAny_storeName_local hk hn (fun h' hn' hs => ?_) hcls
    obtain ⟨oL, _, _, hoL, _⟩ := id hn
    refine h _ ⟨I.ok, I.os, I.bare, ⟨fun b o e n hb hx => ?_, fun b o e n hb hx => ?_, I.base.free, fun b o e hx => ?_, I.base.tups, I.base.frzs, I.base.tbls⟩, ⟨_, hn', fun j y v' e1 e2 e3 => ?_⟩, fun y c e => ?_, I.free, I.freeC, fun p hp => ?_, tracked ⟨oL, hoL, I.free⟩ hs, by simpa using I.len⟩ ⟨_, hs, .inl rfl⟩
    · exact (hs.2 b (Nat.ne_of_lt (Nat.lt_of_lt_of_le (Heap.lt_size e) I.ok.above))).trans (I.base.keep b o e n hb hx)
    · obtain ⟨sl, e1⟩ := I.base.slot b o e n hb hx
      exact ⟨sl, (hs.2 b (Nat.ne_of_lt (Nat.lt_of_lt_of_le (Heap.lt_size e) I.ok.above))).trans e1⟩
    · obtain ⟨o', e1⟩ := I.base.there b o e hx
      exact ⟨o', (hs.2 b (Nat.ne_of_lt (Nat.lt_of_lt_of_le (Heap.lt_size e) I.ok.above))).trans e1⟩
    · by_cases hj : j = i
      · subst hj
        rw [hi] at e1; cases e1
        rw [List.getElem?_set_self hiσ] at e2
        cases e2
        exact ⟨u, r, .inl ⟨hk, by simp⟩⟩
      · rw [List.getElem?_set_ne (Ne.symm hj)] at e2
        obtain ⟨u', r', q⟩ := hl j y v' e1 e2 e3
        refine ⟨u', r', ?_⟩
        rcases q with ⟨k, e⟩ | ⟨k, c, e, z⟩
        · refine .inl ⟨k, ?_⟩
          have : y ≠ x := fun e => hj (nodup_ix hN e1 (e ▸ hi))
          simp [this, e]
        · exact .inr ⟨k, c, e, z.sameBut hs (cne y c e)⟩
    · obtain ⟨w', z⟩ := I.cell y c e
      exact ⟨w', z.sameBut hs (cne y c e)⟩
    · obtain ⟨e, n, ne, nf, d⟩ := I.pin p hp
      exact ⟨(hs.2 p.1 ne).trans e, n, ne, nf, d⟩
  · have hfn : X.fn x = true := by
      rcases hf with z | z
      · exact z
      · rw [z] at hk; cases hk
    obtain ⟨c, hc⟩ := I.ok.has x (.inl hk)
    obtain ⟨w', z⟩ := I.cell x c hc
    refine wpAny_storeName_cell I.ok.kind hk hc z (fun h' hc' hs => ?_)
    obtain ⟨oc, hoc, hocd⟩ := id z
    refine h { s with heap := h' } ⟨I.ok, I.os, I.bare, ⟨fun b o e n hb hx => ?_, fun b o e n hb hx => ?_, I.base.free, fun b o e hx => ?_, I.base.tups, I.base.frzs, I.base.tbls⟩, ⟨m, hn.sameBut hs (Ne.symm (cne x c hc)), fun j y v' e1 e2 e3 => ?_⟩, fun y c' e => ?_, I.free, I.freeC, fun p hp => ?_, tracked ⟨oc, hoc, I.freeC x c hc⟩ hs, by simpa using I.len⟩ ⟨c, hs, .inr hc⟩
    · exact (hs.2 b (Nat.ne_of_lt (Nat.lt_of_lt_of_le (Heap.lt_size e) (I.ok.cab x c hfn hc)))).trans (I.base.keep b o e n hb hx)
    · obtain ⟨sl, e1⟩ := I.base.slot b o e n hb hx
      exact ⟨sl, (hs.2 b (Nat.ne_of_lt (Nat.lt_of_lt_of_le (Heap.lt_size e) (I.ok.cab x c hfn hc)))).trans e1⟩
    · obtain ⟨o', e1⟩ := I.base.there b o e hx
      exact ⟨o', (hs.2 b (Nat.ne_of_lt (Nat.lt_of_lt_of_le (Heap.lt_size e) (I.ok.cab x c hfn hc)))).trans e1⟩
    · by_cases hj : j = i
      · subst hj
        rw [hi] at e1; cases e1
        rw [List.getElem?_set_self hiσ] at e2
        cases e2
        exact ⟨u, r, .inr ⟨.inl hk, c, hc, hc'⟩⟩
      · rw [List.getElem?_set_ne (Ne.symm hj)] at e2
        obtain ⟨u', r', q⟩ := hl j y v' e1 e2 e3
        refine ⟨u', r', ?_⟩
        rcases q with q | ⟨k, c', e, z'⟩
        · exact .inl q
        · refine .inr ⟨k, c', e, z'.sameBut hs ?_⟩
          rintro rfl
          exact hj (nodup_ix hN e1 (I.ok.inj _ _ _ e hc ▸ hi))
    · by_cases hcc : c' = c
      · subst hcc; exact ⟨_, hc'⟩
      · obtain ⟨w2, z2⟩ := I.cell y c' e
        exact ⟨w2, z2.sameBut hs hcc⟩
    · obtain ⟨e, n, ne, nf, d⟩ := I.pin p hp
      refine ⟨(hs.2 p.1 ?_).trans e, n, ne, nf, d⟩
      intro q
      rw [q, hoc] at e
      have q' : oc = p.2 := Option.some.inj e
      exact d w' (by rw [← q']; exact hocd)
theorem store_ok {M : Model} {A : Around} {E : Value → Shared → Prop} {i : Nat} {x : Str} {v : V} {u : Value} {Q : Unit → Shared → Prop} (I : Inv X pins σ H s) (hN : X.N.Nodup) (hi : X.N[i]? = some x) (hx : Loc X.env.scope x) (r : RelV v u)
    (h : ∀ s', Inv X pins (σ.set i (some v)) H s' → Q () s') (hf : X.fn x = true ∨ X.env.scope.names.lookup x = some .local := by first | exact .inl rfl | exact .inr rfl | assumption) : wpAny M A (storeName X.env x u) Q E s :=
  store_ok2 I hN hi hx r (fun s' I' _ => h s' I') hf
theorem Inv.call' {s' : Shared} {ch : List Addr} (I : Inv X pins σ H s) (ho : s'.os = s.os) (u : Un (frs X.stack) ch H H' s.heap s'.heap) (hok : HOk X.prog X.w H' s'.heap) (hg : AllBare s'.gens)
    (hch : ∀ b ∈ ch, (b ∈ X.ex ∨ X.s₀.heap.objs.size ≤ b) ∧ b ≠ X.env.locals ∧ (∀ x c, X.env.cells.lookup x = some c → c ≠ b) ∧ ∀ p ∈ X.pn ++ pins, p.1 ≠ b) : Inv X pins σ H' s' := by
  obtain ⟨h', g', d', t', o'⟩ := s'
  have e : o' = s.os := ho
  subst e
  exact I.call (g' := g') (t' := t') (d' := d') u hok hg hch
end

abbrev XK := Value → Option Addr → Hp → Prop
abbrev St := List (Option V)
abbrev VK := V → Hp → Prop
abbrev TE := St → Hp → VK → Prop
abbrev TT := St → Hp → (Bool → Hp → Prop) → Prop
abbrev TA := St → Hp → (List V → Hp → Prop) → Prop
structure Ends where
  nx : St → Hp → Prop
  rt : VK
  bk : St → Hp → Prop := fun _ _ => False
  ct : St → Hp → Prop := fun _ _ => False
abbrev TS := Ends → St → Hp → Prop

def EP (X : Cx) (pins : List (Addr × Obj)) (σ : St) (Q : VK) (u : Value) (s' : Shared) : Prop := ∃ v H', Inv X pins σ H' s' ∧ RelV v u ∧ Q v H'
def TP (X : Cx) (pins : List (Addr × Obj)) (σ : St) (Q : Bool → Hp → Prop) (b : Bool) (s' : Shared) : Prop := ∃ H', Inv X pins σ H' s' ∧ Q b H'
def AP (X : Cx) (pins : List (Addr × Obj)) (σ : St) (Q : List V → Hp → Prop) (us : List Value) (s' : Shared) : Prop := ∃ vs H', Inv X pins σ H' s' ∧ Vals vs us ∧ Q vs H'
def SP (X : Cx) (pins : List (Addr × Obj)) (D : Ends) (f : Flow) (s' : Shared) : Prop :=
  match f with
  | .next => ∃ σ' H', Inv X pins σ' H' s' ∧ D.nx σ' H'
  | .brk => ∃ σ' H', Inv X pins σ' H' s' ∧ D.bk σ' H'
  | .cont => ∃ σ' H', Inv X pins σ' H' s' ∧ D.ct σ' H'
  | .ret u => ∃ v σ' H', Inv X pins σ' H' s' ∧ RelV v u ∧ D.rt v H'

def PE (X : Cx) (e : Expr) (t : TE) : Prop :=
  ∀ (pins : List (Addr × Obj)) (s : Shared) (σ : St) (H : Hp) (Q : VK), Inv X pins σ H s → t σ H Q → wpAny (model X.prog X.w) X.A (eval e X.env) (EP X pins σ Q) X.xe s
def PT (X : Cx) (e : Expr) (t : TT) : Prop :=
  ∀ (pins : List (Addr × Obj)) (s : Shared) (σ : St) (H : Hp) (Q : Bool → Hp → Prop), Inv X pins σ H s → t σ H Q → wpAny (model X.prog X.w) X.A (isTrue e X.env (eval e X.env)) (TP X pins σ Q) X.xe s
def PW (X : Cx) (e : Expr) (t : TT) : Prop :=
  ∀ (whole : Sem Value) (pins : List (Addr × Obj)) (s : Shared) (σ : St) (H : Hp) (Q : Bool → Hp → Prop), Inv X pins σ H s → t σ H Q → wpAny (model X.prog X.w) X.A (isTrue e X.env whole) (TP X pins σ Q) X.xe s
theorem PW.pt {X : Cx} {e : Expr} {t : TT} (h : PW X e t) : PT X e t := h _
def PA (X : Cx) (es : List Expr) (t : TA) : Prop :=
  ∀ (pos : Pos) (pins : List (Addr × Obj)) (s : Shared) (σ : St) (H : Hp) (Q : List V → Hp → Prop), Inv X pins σ H s → t σ H Q → wpAny (model X.prog X.w) X.A (spliced (backTo pos (starEach es X.env))) (AP X pins σ Q) X.xe s
def PS (X : Cx) (st : Stmt) (t : TS) : Prop :=
  ∀ (pins : List (Addr × Obj)) (s : Shared) (σ : St) (H : Hp) (D : Ends), Inv X pins σ H s → t D σ H → wpAny (model X.prog X.w) X.A (exec st X.env) (SP X pins D) X.xe s
def PSs (X : Cx) (st : List Stmt) (t : TS) : Prop :=
  ∀ (pins : List (Addr × Obj)) (s : Shared) (σ : St) (H : Hp) (D : Ends), Inv X pins σ H s → t D σ H → wpAny (model X.prog X.w) X.A (execs st X.env) (SP X pins D) X.xe s
theorem thn {α : Type} {t : Sem α} {Q Q' : α → Shared → Prop} {M : Model} {A : Around} {E : Value → Shared → Prop} {s : Shared} (h : wpAny M A t Q E s) (hQ : ∀ a s, Q a s → Q' a s) : wpAny M A t Q' E s := wpAny_mono h hQ fun _ _ x => x
end L2

namespace L2
open PySem PySem.Spec PyProof.Rows
section
variable {X : Cx}

theorem bin {a b : Expr} {ta tb : TE} (ha : PE X a ta) (hb : PE X b tb) {pins : List (Addr × Obj)} {s : Shared} {σ : St} {H : Hp} {R : V → V → Hp → Prop} (I : Inv X pins σ H s) (h : ta σ H fun x H1 => tb σ H1 fun y H2 => R x y H2)
    {α : Type} {Q : α → Shared → Prop} {f : Value → Value → Sem α}
    (hf : ∀ v u s2 x y H2, Inv X pins σ H2 s2 → RelV x v → RelV y u → R x y H2 → wpAny (model X.prog X.w) X.A (f v u) Q X.xe s2) :
    wpAny (model X.prog X.w) X.A (eval a X.env) (fun v s₁ => wpAny (model X.prog X.w) X.A (eval b X.env) (fun u s₂ => wpAny (model X.prog X.w) X.A (f v u) Q X.xe s₂) X.xe s₁) X.xe s := by
  refine thn (ha pins s σ H _ I h) fun v s1 ⟨x, H1, I1, r1, q1⟩ => ?_
  refine thn (hb pins s1 σ H1 _ I1 q1) fun u s2 ⟨y, H2, I2, r2, q2⟩ => ?_
  exact hf v u s2 x y H2 I2 r1 r2 q2

def tVar (i : Nat) : TE := fun σ H Q => ∃ v, σ[i]? = some (some v) ∧ Q v H
def tC (v : V) : TE := fun _ H Q => Q v H
theorem pe_var {i : Nat} {x : Str} {pos : Pos} (hN : X.N[i]? = some x) (hv : Vis X.env.scope x) (hd : (x == ("__debug__" : Str)) = false := by decide) (hcd : (x == ("__classdict__" : Str)) = false := by decide) : PE X (.Name x pos) (tVar i) := by
  intro pins s σ H Q I h
  obtain ⟨v, e, h⟩ := h
  obtain ⟨m, hn, hl⟩ := I.loc
  obtain ⟨u, r, l⟩ := hl i x v hN e hv
  have fin : EP X pins σ Q u s := ⟨v, H, I, r, h⟩
  rcases l with ⟨hk, hm⟩ | ⟨hk, c, hc, hcell⟩
  · exact wpAny_Name (wpAny_loadName_local I.ok.kind hk hn hm fin) hd
  · rcases hk with hk | hk
    · exact wpAny_Name (wpAny_loadName_cell I.ok.kind hk hc hcell fin) hd
    · exact wpAny_Name (wpAny_loadName_free I.ok.kind hk hc hcell fin hcd) hd
theorem pe_int {i j pos} : PE X (.Constant (.int i) j pos) (tC (.int i)) := fun _ _ _ H _ I h => wpAny_Constant_int ⟨.int i, H, I.tok _, ⟨_, rfl⟩, h⟩
theorem pe_bl {b j pos} : PE X (.Constant (.bool b) j pos) (tC (.bl b)) := fun _ _ _ H _ I h => Constant_bool ⟨.bl b, H, I, rfl, h⟩
theorem pe_str {x j pos} : PE X (.Constant (.str x) j pos) (tC (.str x)) := fun _ _ _ H _ I h => Calls.Constant_str ⟨.str x, H, I.tok _, ⟨_, rfl⟩, h⟩

def Gl (X : Cx) (x : Str) : Prop := X.env.kindOf x = some .globalImplicit
theorem ld_glob {E : Value → Shared → Prop} {pins : List (Addr × Obj)} {s : Shared} {σ : St} {H : Hp} {x : Str} {u : Value} {pos : Pos} {Q : Value → Shared → Prop} (I : Inv X pins σ H s) (hg : Gl X x) (hm : X.mg x = some u) (h : Q u s)
    (hd : (x == ("__debug__" : Str)) = false := by decide) : wpAny (model X.prog X.w) X.A (eval (.Name x pos) X.env) Q E s :=
  Calls.Name_function_global I.ok.kind hg (Calls.loadGlobal_global (by rw [I.ok.glob]; exact I.mod.glob.keeps I.bk) hm h) hd
theorem ld_blt {E : Value → Shared → Prop} {pins : List (Addr × Obj)} {s : Shared} {σ : St} {H : Hp} {x : Str} {u : Value} {pos : Pos} {Q : Value → Shared → Prop} (I : Inv X pins σ H s) (hg : Gl X x) (hm : X.mg x = none) (hv : bootBuiltins x = some u) (h : Q u s)
    (hn : x ≠ "__name__" := by decide) (hd : (x == ("__debug__" : Str)) = false := by decide) : wpAny (model X.prog X.w) X.A (eval (.Name x pos) X.env) Q E s := by
  obtain ⟨mb, h1, h2⟩ := I.mod.blt
  exact Calls.Name_function_global I.ok.kind hg (Calls.loadGlobal_builtin (by rw [I.ok.glob]; exact I.mod.glob.keeps I.bk) hm (by rw [I.ok.blt]; exact h1.keeps I.bk) ((h2 x hn).trans hv) h) hd
theorem pe_bltn {x : Str} {v : V} {u : Value} {pos : Pos} (hg : Gl X x) (hm : X.mg x = none) (hv : bootBuiltins x = some u) (r : RelV v u) (hn : x ≠ "__name__" := by decide) (hd : (x == ("__debug__" : Str)) = false := by decide) : PE X (.Name x pos) (tC v) :=
  fun _ _ _ H _ I h => ld_blt I hg hm hv ⟨v, H, I, r, h⟩ hn hd

variable {a b : Expr} {ta tb : TE} {pos : Pos}

def PC (X : Cx) (op : CmpOp) (a b : Expr) (t : TE) : Prop :=
  ∀ (pins : List (Addr × Obj)) (s : Shared) (σ : St) (H : Hp) (Q : VK), Inv X pins σ H s → t σ H Q →
    wpAny (model X.prog X.w) X.A (eval a X.env) (fun v s₁ => wpAny (model X.prog X.w) X.A (eval b X.env) (fun u s₂ => wpAny (model X.prog X.w) X.A (compareOp op v u) (EP X pins σ Q) X.xe s₂) X.xe s₁) X.xe s
theorem nobehind (b : Expr) {op : CmpOp} (h : op ≠ .In) (h2 : op ≠ .NotIn) : behindInMarks op b = false := by
  have e1 : (op == CmpOp.In) = false := by cases op <;> first | rfl | exact absurd rfl h
  have e2 : (op == CmpOp.NotIn) = false := by cases op <;> first | rfl | exact absurd rfl h2
  cases b <;> simp [behindInMarks, e1, e2]
def tB (t : TE) : TT := fun σ H Q => t σ H fun x H1 => ∃ c, x = .bl c ∧ Q c H1
theorem pt_cmp {op : CmpOp} {t : TE} (h : PC X op a b t) (h1 : behindInMarks op b = false := by first | exact nobehind _ (by decide) (by decide) | rfl) : PT X (.Compare a [op] [b] pos) (tB t) := by
  intro pins s σ H Q I hw
  refine wpAny_isTrue_Compare1 (thn (h pins s σ H _ I hw) fun v s1 h1 => thn h1 fun u s2 h2 => thn h2 fun c s3 ⟨x, H1, I1, r1, q1⟩ => ?_) h1
  obtain ⟨d, rfl, q⟩ := q1
  cases r1
  exact wpAny_truthy_bool ⟨H1, I1, q⟩
theorem pt_val {e : Expr} {t : TE} (h : PE X e t) (he : ∀ whole, isTrue e X.env whole = (do let v ← whole; standAt e.pos; holding [v] (truthy v)) := by intro _; rfl) : PT X e (tB t) := by
  intro pins s σ H Q I hw
  refine isTrue_plain (thn (h pins s σ H _ I hw) fun v s1 ⟨x, H1, I1, r1, q1⟩ => ?_) (he _)
  obtain ⟨d, rfl, q⟩ := q1
  cases r1
  exact wpAny_truthy_bool ⟨H1, I1, q⟩

variable {tA tB' : TT} {rest : List Expr}
def tOr (t u : TT) : TT := fun σ H Q => t σ H fun c H1 => if c = true then Q true H1 else u σ H1 Q
def tNot (t : TT) : TT := fun σ H Q => t σ H fun c H1 => Q (!c) H1
theorem pw_or1 (ha : PT X a tA) : PW X (.BoolOp .Or [a] pos) tA := by
  intro wh pins s σ H Q I h
  refine isTrue_or (thn (ha pins s σ H Q I h) fun c s1 e => ?_)
  cases c with
  | false => exact isTrue_or_nil e
  | true => exact e
theorem pw_or (ha : PT X a tA) (hb : PW X (.BoolOp .Or (b :: rest) pos) tB') : PW X (.BoolOp .Or (a :: b :: rest) pos) (tOr tA tB') := by
  intro wh pins s σ H Q I h
  refine isTrue_or (thn (ha pins s σ H _ I h) fun c s1 ⟨H1, I1, q1⟩ => ?_)
  cases c with
  | true => exact ⟨H1, I1, q1⟩
  | false => exact hb wh pins s1 σ H1 Q I1 q1
theorem pt_not (ha : PT X a tA) : PT X (.UnaryOp .Not a pos) (tNot tA) := by
  intro pins s σ H Q I h
  exact isTrue_not (ha pins s σ H (fun c H1 => Q (!c) H1) I h)
end
end L2

namespace L2
open PySem PySem.Spec PyProof.Rows

def SqL (K : PySem.W.Frag) (H : Hp) (a : Addr) (xs : List V) : Prop :=
  Rd H a (.lst xs) ∨
    ∃ (o : Obj) (its : Array Value) (n : Nat), K.lookup a = some o ∧ o.cls = .type "list" ∧ o.dict = none ∧ o.data = .seq its n ∧ its.size ≤ sizeLine ∧ Vals xs its.toList
def SqT (K : PySem.W.Frag) (H : Hp) (a : Addr) (xs : List V) : Prop :=
  Rd H a (.tup xs) ∨
    ∃ (o : Obj) (its : Array Value) (n : Nat), K.lookup a = some o ∧ o.cls = .type "tuple" ∧ o.data = .seq its n ∧ its.size ≤ sizeLine ∧ Vals xs its.toList
def absV : Value → Option V
  | .none => some .non
  | .bool b => some (.bl b)
  | .int i _ => some (.int i)
  | .str x _ => some (.str x)
  | .bytes b _ => some (.byt b)
  | .float b _ => some (.flt b)
  | .ref a => some (.ref a)
  | .type n => some (.ty n)
  | _ => none
theorem RelV.abs {x : V} {u : Value} (r : RelV x u) : absV u = some x := by
  cases x with
  | non => cases r; rfl
  | bl _ => cases r; rfl
  | int _ => obtain ⟨t, rfl⟩ := r; rfl
  | str _ => obtain ⟨t, rfl⟩ := r; rfl
  | byt _ => obtain ⟨t, rfl⟩ := r; rfl
  | flt _ => obtain ⟨t, rfl⟩ := r; rfl
  | ref _ => cases r; rfl
  | ty _ => cases r; rfl
theorem RelV.inj {x y : V} {u : Value} (r : RelV x u) (q : RelV y u) : x = y := Option.some.inj (r.abs.symm.trans q.abs)
theorem Vals.inj : ∀ {xs ys : List V} {us : List Value}, Vals xs us → Vals ys us → xs = ys
  | _, _, _, .nil, .nil => rfl
  | _, _, _, .cons r t, .cons r' t' => by rw [r.inj r', Vals.inj t t']
section
variable {X : Cx} {pins : List (Addr × Obj)} {σ : St} {H : Hp} {s : Shared} {a : Addr} {xs ys : List V}
theorem SqL.of {K : PySem.W.Frag} (h : H a = some (.lst xs)) : SqL K H a xs := .inl (.inl h)
theorem Inv.list (I : Inv X pins σ H s) (h : SqL X.K H a xs) : ∃ its : List Value, Vals xs its ∧ PlainL s.heap a its.toArray ∧ xs.length ≤ sizeLine := by
  rcases h with h | ⟨o, its, n, hk, hc, hd, hs, hz, r⟩
  · obtain ⟨z, its, n, r, e⟩ := h.ok I.hok
    exact ⟨its, r, ⟨_, n, e, rfl, rfl, rfl⟩, z⟩
  · refine ⟨its.toList, r, ⟨o, n, I.kIn a o hk, hc, hd, by simpa using hs⟩, ?_⟩
    have e := r.length
    simp only [Array.length_toList] at e
    omega
theorem Inv.tuple (I : Inv X pins σ H s) (h : SqT X.K H a xs) : ∃ its : List Value, Vals xs its ∧ IsTup s.heap a its.toArray ∧ xs.length ≤ sizeLine := by
  rcases h with h | ⟨o, its, n, hk, hc, hs, hz, r⟩
  · obtain ⟨z, its, r, p⟩ := h.ok I.hok
    exact ⟨its, r, p, z⟩
  · refine ⟨its.toList, r, ⟨o, I.kIn a o hk, hc, n, by simpa using hs⟩, ?_⟩
    have e := r.length
    simp only [Array.length_toList] at e
    omega
theorem Inv.list_inj (I : Inv X pins σ H s) (h : SqL X.K H a xs) (h' : SqL X.K H a ys) : xs = ys := by
  obtain ⟨its, r, ⟨o, n, e, _, _, d⟩, _⟩ := I.list h
  obtain ⟨its', r', ⟨o', n', e', _, _, d'⟩, _⟩ := I.list h'
  rw [e] at e'; cases e'
  rw [d] at d'
  injection d' with d1 _
  have : its = its' := by simpa using congrArg Array.toList d1
  subst this
  exact r.inj r'
theorem Inv.tuple_inj (I : Inv X pins σ H s) (h : SqT X.K H a xs) (h' : SqT X.K H a ys) : xs = ys := by
  obtain ⟨its, r, ⟨o, e, _, n, d⟩, _⟩ := I.tuple h
  obtain ⟨its', r', ⟨o', e', _, n', d'⟩, _⟩ := I.tuple h'
  rw [e] at e'; cases e'
  rw [d] at d'
  injection d' with d1 _
  have : its = its' := by simpa using congrArg Array.toList d1
  subst this
  exact r.inj r'
end

abbrev Cx.wish (X : Cx) (E : Value → Shared → Prop) : Cx := { X with xe := E }
abbrev Cx.nox (X : Cx) : Cx := X.wish fun _ _ => False
theorem Cx.Ok.wish {X : Cx} (ok : X.Ok) (E : Value → Shared → Prop) : (X.wish E).Ok :=
  ⟨ok.mod, ok.kind, ok.glob, ok.blt, ok.above, ok.inj, ok.has, ok.cab, ok.hd, ok.frames, ok.stk, ok.exf, ok.bs, ok.bsz, ok.noex, ok.exfs, ok.funs, ok.frf⟩
theorem Cx.Ok.unwish {X : Cx} {E : Value → Shared → Prop} (ok : (X.wish E).Ok) : X.Ok :=
  ⟨ok.mod, ok.kind, ok.glob, ok.blt, ok.above, ok.inj, ok.has, ok.cab, ok.hd, ok.frames, ok.stk, ok.exf, ok.bs, ok.bsz, ok.noex, ok.exfs, ok.funs, ok.frf⟩
section
variable {X : Cx} {pins : List (Addr × Obj)} {σ : St} {H : Hp} {s : Shared} {E : Value → Shared → Prop}
theorem Inv.wish (I : Inv X pins σ H s) (E : Value → Shared → Prop) : Inv (X.wish E) pins σ H s := ⟨I.ok.wish E, I.os, I.bare, I.base, I.loc, I.cell, I.free, I.freeC, I.pin, I.hok, I.len⟩
theorem Inv.unwish (I : Inv (X.wish E) pins σ H s) : Inv X pins σ H s := ⟨I.ok.unwish, I.os, I.bare, I.base, I.loc, I.cell, I.free, I.freeC, I.pin, I.hok, I.len⟩
theorem SP.unwish {D : Ends} {f : Flow} {s' : Shared} (h : SP (X.wish E) pins D f s') : SP X pins D f s' := by
  cases f with
  | next => obtain ⟨σ', H', I, q⟩ := h; exact ⟨σ', H', I.unwish, q⟩
  | brk => obtain ⟨σ', H', I, q⟩ := h; exact ⟨σ', H', I.unwish, q⟩
  | cont => obtain ⟨σ', H', I, q⟩ := h; exact ⟨σ', H', I.unwish, q⟩
  | ret u => obtain ⟨v, σ', H', I, r, q⟩ := h; exact ⟨v, σ', H', I.unwish, r, q⟩
theorem PSs.nox {st : List Stmt} {t : TS} (h : PSs X.nox st t) : PSs X st t := fun pins s σ H D I hw =>
  wpAny_mono (h pins s σ H D (I.wish _) hw) (fun _ _ q => q.unwish) fun _ _ z => False.elim z
end

section
variable {X : Cx} {st : Stmt} {rest : List Stmt} {t u : TS} {e : Expr} {te : TE} {pos : Pos}
def tNext : TS := fun D σ H => D.nx σ H
def tSeq (t u : TS) : TS := fun D σ H => t { D with nx := u D } σ H
theorem pss_nil : PSs X [] tNext := fun _ _ σ H _ I h => wpAny_execs_nil ⟨σ, H, I, h⟩
theorem pss_cons (h1 : PS X st t) (h2 : PSs X rest u) : PSs X (st :: rest) (tSeq t u) := by
  intro pins s σ H D I h
  refine wpAny_execs_cons (thn (h1 pins s σ H { D with nx := u D } I h) fun f s1 q => ?_)
  cases f with
  | next =>
    obtain ⟨σ', H', I', q⟩ := q
    exact h2 pins s1 σ' H' D I' q
  | ret v => exact q
  | brk => exact q
  | cont => exact q
theorem pss_one (h1 : PS X st t) : PSs X [st] t := by
  intro pins s σ H D I h
  refine wpAny_execs_cons (thn (h1 pins s σ H D I h) fun f s1 q => ?_)
  cases f with
  | next => exact wpAny_execs_nil q
  | ret v => exact q
  | brk => exact q
  | cont => exact q
theorem Inv.quiet {pins : List (Addr × Obj)} {σ : St} {H : Hp} {s : Shared} (I : Inv X pins σ H s) : interactive X.env = false := by simp [interactive, I.ok.kind]
def tDrop (te : TE) : TS := fun D σ H => te σ H fun _ H1 => D.nx σ H1
theorem ps_expr (he : PE X e te) (hs : swapsWith e none pos.line X.env = pure false := by rfl) : PS X (.Expr e pos) (tDrop te) := by
  intro pins s σ H D I h
  exact wpAny_Expr_any (thn (he pins s σ H _ I h) fun v s1 ⟨x, H1, I1, r1, q1⟩ => ⟨σ, H1, I1, q1⟩) I.quiet hs
def tRet (te : TE) : TS := fun D σ H => te σ H D.rt
theorem ps_ret (he : PE X e te) : PS X (.Return (some e) pos) (tRet te) := by
  intro pins s σ H D I h
  exact wpAny_Return_some (thn (he pins s σ H _ I h) fun v s1 ⟨x, H1, I1, r1, q1⟩ => ⟨x, σ, H1, I1, r1, q1⟩)
def tIfS (c : TT) (t u : TS) : TS := fun D σ H => c σ H fun b H1 => if b = true then t D σ H1 else u D σ H1
theorem ps_if {c : Expr} {a b : List Stmt} {tc : TT} (hc : PT X c tc) (ha : PSs X a t) (hb : PSs X b u) : PS X (.If c a b pos) (tIfS tc t u) := by
  intro pins s σ H D I h
  refine wpAny_If (thn (hc pins s σ H _ I h) fun d s1 ⟨H1, I1, q1⟩ => ?_)
  cases d with
  | true => exact ha pins s1 σ H1 D I1 q1
  | false => exact hb pins s1 σ H1 D I1 q1
end

abbrev TG := V → St → Hp → (St → Hp → Prop) → Prop
def PG (X : Cx) (target : Expr) (t : TG) : Prop :=
  ∀ (pins : List (Addr × Obj)) (s : Shared) (σ : St) (H : Hp) (v : V) (u : Value) (Q : St → Hp → Prop), Inv X pins σ H s → RelV v u → t v σ H Q →
    wpAny (model X.prog X.w) X.A (assign target X.env u) (fun _ s' => ∃ σ' H', Inv X pins σ' H' s' ∧ Q σ' H') X.xe s
section
variable {X : Cx} {pos : Pos}
def gName (i : Nat) : TG := fun v σ H Q => Q (σ.set i (some v)) H
theorem pg_name {i : Nat} {x : Str} (hN : X.N.Nodup) (hi : X.N[i]? = some x) (hx : Loc X.env.scope x) (hf : X.fn x = true ∨ X.env.scope.names.lookup x = some .local := by first | exact .inl rfl | exact .inr rfl | assumption) : PG X (.Name x pos) (gName i) := by
  intro pins s σ H v u Q I r h
  exact wpAny_assign_Name (store_ok I hN hi hx r (fun s' I' => ⟨_, H, I', h⟩) hf)
def tAsg (te : TE) (g : TG) : TS := fun D σ H => te σ H fun x H1 => g x σ H1 D.nx
theorem ps_set {i : Nat} {x : Str} {e : Expr} {te : TE} {pos' : Pos} (hN : X.N.Nodup) (hi : X.N[i]? = some x) (hx : Loc X.env.scope x) (he : PE X e te) (hs : swapsWith e (some (.Name x pos')) pos.line X.env = pure false := by rfl) (hf : X.fn x = true ∨ X.env.scope.names.lookup x = some .local := by first | exact .inl rfl | exact .inr rfl | assumption) :
    PS X (.Assign [.Name x pos'] e pos) (tAsg te (gName i)) := by
  intro pins s σ H D I h
  refine wpAny_Assign_Name (thn (he pins s σ H _ I h) fun v s1 ⟨y, H1, I1, r1, q1⟩ => ?_) hs
  exact store_ok I1 hN hi hx r1 (fun s2 I2 => ⟨_, H1, I2, q1⟩) hf
end

section
variable {X : Cx} {pos : Pos}
end

structure It where
  go : Nat → Hp → Prop
  yld : Nat → Hp → V → Hp → Prop
  stop : Nat → Hp → Prop
def FpOk (X : Cx) (pins : List (Addr × Obj)) (H : Hp) (b : Addr) : Prop :=
  H b = none ∧ b ≠ X.env.locals ∧ b ∉ X.fs ∧ (b ∈ X.ex ∨ X.s₀.heap.objs.size ≤ b) ∧ (∀ x c, X.env.cells.lookup x = some c → c ≠ b) ∧ ∀ p ∈ X.pn ++ pins, p.1 ≠ b
theorem Inv.fpOk {X : Cx} {pins : List (Addr × Obj)} {σ : St} {H H' : Hp} {s : Shared} {b : Addr} (I : Inv X pins σ H s) (hb : s.heap.objs.size ≤ b) (hn : H' b = none) : FpOk X pins H' b := by
  refine ⟨hn, Nat.ne_of_gt (Nat.lt_of_lt_of_le I.lt hb), I.nofs hb, .inr (Nat.le_trans I.sz hb), fun x c e z => ?_, fun p hp z => ?_⟩
  · obtain ⟨v, q⟩ := I.cell x c e
    exact absurd (Nat.lt_of_lt_of_le q.lt (by rw [z]; exact hb)) (Nat.lt_irrefl _)
  · exact absurd (Nat.lt_of_lt_of_le (Heap.lt_size (I.pin p hp).1) (by rw [z]; exact hb)) (Nat.lt_irrefl _)
structure Turn (P : Program) (w : World) (K : PySem.W.Frag) (tg : Expr) (J : It) (fp : List Addr) (it : Addr) (tn : Nat → Heap → Prop) : Prop where
  mem : it ∈ fp
  obj : ∀ i h, tn i h → ∀ b ∈ fp, ∃ o, h.get? b = some o ∧ ∀ v, o.data ≠ .cell v
  keep : ∀ i h h', tn i h → (∀ b ∈ fp, ∀ o, h.get? b = some o → h'.get? b = some o) → tn i h'
  item : ∀ (X : Cx), X.prog = P → X.w = w → X.K = K → X.calm = true → ∀ (i : Nat) (pins : List (Addr × Obj)) (s : Shared) (σ : St) (H : Hp) (E : Value → Shared → Prop), Inv X pins σ H s → (∀ b ∈ fp, FpOk X pins H b) → tn i s.heap → J.go i H →
    wpAny (model P w) X.A (pyNext (.ref it)) (fun r s1 => ∃ u, r = some u ∧
      wpAny (model P w) X.A (letOwnedTupleGo tg (.ref it) u) (fun _ s2 => ∃ x H', Inv X pins σ H' s2 ∧ RelV x u ∧ J.yld i H x H' ∧ tn (i + 1) s2.heap ∧ ∀ b ∈ fp, H' b = none) E s1) E s
  done : ∀ (X : Cx), X.prog = P → X.w = w → X.K = K → X.calm = true → ∀ (i : Nat) (pins : List (Addr × Obj)) (s : Shared) (σ : St) (H : Hp) (E : Value → Shared → Prop), Inv X pins σ H s → (∀ b ∈ fp, FpOk X pins H b) → tn i s.heap → J.stop i H →
    wpAny (model P w) X.A (pyNext (.ref it)) (fun r s1 => r = none ∧ Inv X pins σ H s1) E s
  self : ∀ (A : Around) (i : Nat) (s : Shared) (Q : Value → Shared → Prop) (E : Value → Shared → Prop), tn i s.heap → Q (.ref it) s → wpAny (model P w) A (pyIter (.ref it)) Q E s
abbrev TI := St → Hp → (It → Hp → Prop) → Prop
def PIE (X : Cx) (pins : List (Addr × Obj)) (σ : St) (tg : Expr) (R : It → Hp → Prop) (itv : Value) (s2 : Shared) : Prop :=
  ∃ (it : Addr) (fp : List Addr) (tn : Nat → Heap → Prop) (J : It) (H' : Hp), itv = .ref it ∧ Inv X pins σ H' s2 ∧ Turn X.prog X.w X.K tg J fp it tn ∧ tn 0 s2.heap ∧ (∀ b ∈ fp, FpOk X pins H' b) ∧ R J H'
def PI (X : Cx) (tg iter : Expr) (wi : TI) : Prop :=
  ∀ (pins : List (Addr × Obj)) (s : Shared) (σ : St) (H : Hp) (R : It → Hp → Prop), Inv X pins σ H s → wi σ H R →
    wpAny (model X.prog X.w) X.A (eval iter X.env) (fun v s1 => wpAny (model X.prog X.w) X.A (pyIter v) (PIE X pins σ tg R) X.xe s1) X.xe s

theorem go_of {M : Model} {A : Around} {E : Value → Shared → Prop} {s : Shared} {tg : Expr} {it : Addr} {u : Value} {o : Obj} {n : String} {vs : Array Value} {Q : Unit → Shared → Prop} (ho : s.heap.get? it = some o) (hc : o.cls = .type n) (hd : o.data = .fields vs)
    (hn : ["enumerate", "zip", "dict_itemiterator", "dict_reverseitemiterator", "odict_iterator", "itertools.zip_longest", "itertools.pairwise"].contains n = false) (hQ : Q () s) : wpAny M A (letOwnedTupleGo tg (.ref it) u) Q E s := by
  unfold letOwnedTupleGo
  cases tg <;> first
    | exact wpAny_pure hQ
    | (cases u <;> first
        | exact wpAny_pure hQ
        | (refine wpAny_bind (wpAny_load ho ?_)
           rw [hc, hd]
           show wpAny M A (if (["enumerate", "zip", "dict_itemiterator", "dict_reverseitemiterator", "odict_iterator", "itertools.zip_longest", "itertools.pairwise"].contains n && vs[0]? == some (rawInt _)) = true then _ else _) Q E s
           rw [if_neg (by intro h; rw [hn, Bool.false_and] at h; cases h)]
           exact wpAny_pure hQ))

def Itl (K : PySem.W.Frag) (a : Addr) : It :=
  ⟨fun i H => ∃ xs x, SqL K H a xs ∧ xs[i]? = some x, fun i H x H' => H' = H ∧ ∀ xs, SqL K H a xs → xs[i]? = some x, fun i H => ∃ xs, SqL K H a xs ∧ xs.length ≤ i⟩
def Itr (lo : Int) (n : Nat) : It := ⟨fun i _ => i < n, fun i H x H' => H' = H ∧ x = .int (lo + i), fun i _ => n ≤ i⟩
theorem turn_list {P : Program} {w : World} {K : PySem.W.Frag} {tg : Expr} (a it : Addr) : Turn P w K tg (Itl K a) [it] it (fun i h => h.IsListIter it a i) where
  mem := by simp
  obj := fun i h st b hb => by
    have e : b = it := by simpa using hb
    subst e
    obtain ⟨o, e, c, d⟩ := st
    exact ⟨o, e, fun v z => by rw [d] at z; cases z⟩
  keep := fun i h h' st k => st.at fun o e => k it (by simp) o e
  item := by
    intro X hP hw hK hc i pins s σ H E I hf st hg
    subst hP hw hK
    obtain ⟨xs, x, hq, hx⟩ := hg
    obtain ⟨its, rv, p, hz⟩ := I.list hq
    obtain ⟨u, hu, ru⟩ := rv.get hx
    obtain ⟨f0, f1, f2, f3, f4, f5⟩ := hf it (by simp)
    refine wpAny_pyNext_list_item st p.isList (x := u) (by simpa using hu) fun h' st' sb => ?_
    have I1 : Inv X pins σ H { s with heap := h' } := I.turned (t' := s.toks) (fun b o hb e => (sb.2 b hb).trans e) f0 f1 f3 f4 f5
    obtain ⟨o, e, c, d⟩ := id st'
    exact ⟨u, rfl, go_of (s := { s with heap := h' }) e c d (by decide) ⟨x, H, I1, ru, ⟨rfl, fun ys hy => by rw [I.list_inj hy hq]; exact hx⟩, st', fun b hb => (hf b hb).1⟩⟩
  done := by
    intro X hP hw hK hc i pins s σ H E I hf st hg
    subst hP hw hK
    obtain ⟨xs, hq, hx⟩ := hg
    obtain ⟨its, rv, p, hz⟩ := I.list hq
    obtain ⟨f0, f1, f2, f3, f4, f5⟩ := hf it (by simp)
    have hl := rv.length
    exact wpAny_pyNext_list_end (I.ok.hd hc) st p.isList (by simp; omega) fun h' eb => ⟨rfl, I.turned (t' := s.toks) (fun b o hb e => eb b o hb e) f0 f1 f3 f4 f5⟩
  self := fun _ _ _ _ _ st h => wpAny_pyIter_listiter st h
theorem turn_range {P : Program} {w : World} {K : PySem.W.Frag} {tg : Expr} (it : Addr) (lo : Int) (n : Nat) : Turn P w K tg (Itr lo n) [it] it (fun i h => IsRangeIter h it (lo + (i : Nat) * 1) ((n : Int) - (i : Nat)) 1) where
  mem := by simp
  obj := fun i h st b hb => by
    have e : b = it := by simpa using hb
    subst e
    exact ⟨_, st, fun v z => by
      have z' : Data.fields _ = Data.cell v := z
      cases z'⟩
  keep := fun i h h' st k => k it (by simp) _ st
  item := by
    intro X hP hw hK hc i pins s σ H E I hf st hg
    subst hP hw hK
    obtain ⟨f0, f1, f2, f3, f4, f5⟩ := hf it (by simp)
    have W := Walks.range (prog := X.prog) (w := X.w) (I.ok.hd hc) it lo 1 n
    refine W.item i s _ _ hg st fun v h' tk hv st' kk => ?_
    obtain ⟨t, rfl⟩ := hv
    have I1 : Inv X pins σ H { s with heap := h', toks := tk } := I.turned (fun b o hb e => kk b o (by simpa using hb) e) f0 f1 f3 f4 f5
    refine ⟨_, rfl, go_of (s := { s with heap := h', toks := tk }) (n := "range_iterator") st' rfl rfl (by decide) ⟨.int (lo + i), H, I1, ⟨t, ?_⟩, ⟨rfl, rfl⟩, st', fun b hb => (hf b hb).1⟩⟩
    rw [Int.mul_one]
  done := by
    intro X hP hw hK hc i pins s σ H E I hf st hg
    subst hP hw hK
    obtain ⟨f0, f1, f2, f3, f4, f5⟩ := hf it (by simp)
    exact wpAny_pyNext_range_end (I.ok.hd hc) st (by have : n ≤ i := hg; omega) fun h' eb => ⟨rfl, I.turned (t' := s.toks) (fun b o hb e => eb b o hb e) f0 f1 f3 f4 f5⟩
  self := fun _ _ _ _ _ st h => wpAny_pyIter_rangeiter st h
end L2

namespace L2
open PySem PySem.Spec PyProof.Rows
section
variable {X : Cx} {tg : Expr}
def iList (K : PySem.W.Frag) (tl : TE) : TI := fun σ H R => tl σ H fun x H1 => ∃ a, x = .ref a ∧ (∃ xs, SqL K H1 a xs) ∧ R (Itl K a) H1
theorem pi_list {l : Expr} {tl : TE} (hl : PE X l tl) : PI X tg l (iList X.K tl) := by
  intro pins s σ H R I h
  refine thn (hl pins s σ H _ I h) fun v s1 ⟨x, H1, I1, r1, q1⟩ => ?_
  obtain ⟨a, e, ⟨xs, hq⟩, q⟩ := q1
  subst e
  cases r1
  obtain ⟨its, rv, p, hz⟩ := I1.list hq
  refine wpAny_pyIter_list p.isList ?_
  refine ⟨s1.heap.objs.size, [s1.heap.objs.size], _, _, H1, rfl, I1.kept (t' := s1.toks) fun b o e => Heap.get?_push_of_some _ e, turn_list a _, ⟨_, Heap.get?_push_size _ rfl, rfl, rfl⟩, fun b hb => ?_, q⟩
  have e : b = s1.heap.objs.size := by simpa using hb
  subst e
  exact I1.fpOk (Nat.le_refl _) (I1.hok.fresh (Nat.le_refl _))
theorem range_it {pins : List (Addr × Obj)} {σ : St} {H : Hp} {s : Shared} {R : It → Hp → Prop} {E : Value → Shared → Prop} {lo hi : Int} {t u v : Tok} {tk : Nat} (I : Inv X pins σ H s) (h1 : -(2 ^ 62) ≤ lo) (h2 : lo < 2 ^ 62) (h3 : -(2 ^ 62) ≤ hi) (h4 : hi < 2 ^ 62)
    (q : R (Itr lo (hi - lo).toNat) H) : wpAny (model X.prog X.w) X.A (pyIter (.ref s.heap.objs.size)) (PIE X pins σ tg R) E { s with heap := s.heap.push { cls := .type "range", data := .fields #[.int lo t, .int hi u, .int 1 v] }, toks := tk } := by
  refine wpAny_pyIter_range (IsRange.new ..) (small_one h1 h2 h3 h4) ?_
  have I1 : Inv X pins σ H { s with heap := s.heap.push { cls := .type "range", data := .fields #[.int lo t, .int hi u, .int 1 v] }, toks := tk } := I.kept fun b o e => Heap.get?_push_of_some _ e
  refine ⟨(s.heap.push { cls := .type "range", data := .fields #[.int lo t, .int hi u, .int 1 v] }).objs.size, [(s.heap.push { cls := .type "range", data := .fields #[.int lo t, .int hi u, .int 1 v] }).objs.size], _, _, H, rfl,
    I1.kept (t' := tk) fun b o e => Heap.get?_push_of_some _ e, turn_range _ lo (hi - lo).toNat, ?_, fun b hb => ?_, q⟩
  · have e1 : lo + ((0 : Nat) : Int) * 1 = lo := by simp
    have e2 : (((hi - lo).toNat : Nat) : Int) - ((0 : Nat) : Int) = Builtin.Range.rangeSize lo hi 1 := by rw [rangeSize_one]; split <;> omega
    show IsRangeIter _ _ (lo + ((0 : Nat) : Int) * 1) ((((hi - lo).toNat : Nat) : Int) - ((0 : Nat) : Int)) 1
    rw [e1, e2]
    exact Heap.get?_push_size _ rfl
  · have e : b = (s.heap.push { cls := .type "range", data := .fields #[.int lo t, .int hi u, .int 1 v] }).objs.size := by simpa using hb
    subst e
    exact I1.fpOk (Nat.le_refl _) (I1.hok.fresh (Nat.le_refl _))
def iRng1 (ta : TA) : TI := fun σ H R => ta σ H fun vs H1 => ∃ j : Int, vs = [.int j] ∧ -(2 ^ 62) ≤ j ∧ j < 2 ^ 62 ∧ R (Itr 0 j.toNat) H1
theorem pi_range1 {a : Expr} {ta : TA} {p pos : Pos} (hg : Gl X "range") (hm : X.mg "range" = none) (ha : PA X [a] ta) (hs : starEach [a] X.env = [(false, eval a X.env)] := by rfl) : PI X tg (.Call (.Name "range" p) [a] [] pos) (iRng1 ta) := by
  intro pins s σ H R I h
  refine Call_ (ld_blt I hg hm boot_range (PyProof.Rows.callWith_type1 (thn (ha pos pins s σ H _ I h) fun us s1 ⟨vs, H1, I1, r1, q1⟩ => ?_) hs rfl))
  obtain ⟨j, e, q1, q2, q⟩ := q1
  subst e
  cases r1 with
  | cons r rr =>
    cases rr
    obtain ⟨t, rfl⟩ := r
    exact call_range_1 (range_it I1 (by omega) (by omega) q1 q2 (by simpa using q))

def tFor (wi : TI) (g : TG) (tb : TS) : TS := fun D σ H => wi σ H fun J H1 => ∃ W : Nat → Nat → St → Hp → Prop, (∃ m, W 0 m σ H1) ∧ ∀ i m σ H, W i m σ H →
  (J.stop i H ∧ D.nx σ H) ∨ (J.go i H ∧ ∃ N : St → Hp → Prop, (∀ σ' H', N σ' H' → ∃ m', m' < m ∧ W (i + 1) m' σ' H') ∧ ∀ x H', J.yld i H x H' → g x σ H' fun σ2 H2 => tb { D with nx := N, ct := N, bk := D.nx } σ2 H2)
def pinsAt (fp : List Addr) (h : Heap) : List (Addr × Obj) := fp.filterMap fun b => (h.get? b).map fun o => (b, o)
theorem mem_pinsAt {fp : List Addr} {h : Heap} {b : Addr} {o : Obj} (hb : b ∈ fp) (e : h.get? b = some o) : (b, o) ∈ pinsAt fp h := List.mem_filterMap.mpr ⟨b, hb, by rw [e]; rfl⟩
theorem of_pinsAt {fp : List Addr} {h : Heap} {p : Addr × Obj} (hp : p ∈ pinsAt fp h) : p.1 ∈ fp ∧ h.get? p.1 = some p.2 := by
  obtain ⟨b, hb, e⟩ := List.mem_filterMap.mp hp
  cases q : h.get? b with
  | none => rw [q] at e; cases e
  | some o =>
    rw [q] at e
    have e' : (b, o) = p := Option.some.inj e
    subst e'
    exact ⟨hb, q⟩
theorem Inv.pinned {pins : List (Addr × Obj)} {σ : St} {H : Hp} {s : Shared} {fp : List Addr} (I : Inv X pins σ H s) (hf : ∀ b ∈ fp, FpOk X pins H b) (ho : ∀ b ∈ fp, ∃ o, s.heap.get? b = some o ∧ ∀ v, o.data ≠ .cell v) : Inv X (pins ++ pinsAt fp s.heap) σ H s :=
  I.pins_of fun p hp => (List.mem_append.mp hp).elim (fun z => I.pin p (List.mem_append_right _ z)) fun z => by
    obtain ⟨hb, e⟩ := of_pinsAt z
    obtain ⟨f0, f1, f2, _⟩ := hf p.1 hb
    obtain ⟨o, e', d⟩ := ho p.1 hb
    rw [e] at e'; cases e'
    exact ⟨e, f0, f1, f2, d⟩
theorem Inv.unpinned {pins pl : List (Addr × Obj)} {σ : St} {H : Hp} {s : Shared} (I : Inv X (pins ++ pl) σ H s) : Inv X pins σ H s := I.pins_of fun p hp => I.pin p (List.mem_append_right _ (List.mem_append_left _ hp))
theorem ps_for {iter : Expr} {body : List Stmt} {wi : TI} {g : TG} {tb : TS} {pos : Pos} (hp : PassesOwn (model X.prog X.w) X.A X.env X.xe) (hc : X.calm = true) (hi : PI X tg iter wi) (hg : PG X tg g) (hb : PSs X body tb)
    (hs : ∀ x, foldedSetIterable iter X.env x = pure x := by intro _; rfl) : PS X (.For tg iter body [] pos) (tFor wi g tb) := by
  intro pins s σ H D I h
  refine wpAny_For (thn (hi pins s σ H _ I h) fun v s1 h1 => thn h1 fun itv s2 h2 => ?_) hs
  obtain ⟨it, fp, tn, J, H2, e, I2, T, st2, f2, W, ⟨m0, w0⟩, turn⟩ := h2
  subst e
  -- what stays true of the iterator's objects through the loop
  have stat : ∀ {H' : Hp}, (∀ b ∈ fp, H' b = none) → ∀ b ∈ fp, FpOk X pins H' b := fun hn b hb => ⟨hn b hb, (f2 b hb).2⟩
  refine codeAny_forLoop_any (fun n s' => ∃ i σ' H', Inv X pins σ' H' s' ∧ tn i s'.heap ∧ (∀ b ∈ fp, H' b = none) ∧ W i n σ' H') ?_ m0 ⟨0, σ, H2, I2, st2, fun b hb => (f2 b hb).1, w0⟩
  rintro n s3 ⟨i, σ3, H3, I3, st3, fr3, w3⟩
  rcases turn i n σ3 H3 w3 with ⟨stop, qn⟩ | ⟨go, N, hN, step⟩
  · refine wpAny_passesOwn hp (thn (T.done X rfl rfl rfl hc i pins s3 σ3 H3 X.xe I3 (stat fr3) st3 stop) fun r s4 ⟨hr, I4⟩ => ?_)
    subst hr
    exact wpAny_execs_nil ⟨σ3, H3, I4, qn⟩
  · refine wpAny_passesOwn hp (thn (T.item X rfl rfl rfl hc i pins s3 σ3 H3 X.xe I3 (stat fr3) st3 go) fun r s4 ⟨u, hr, h4⟩ => ?_)
    subst hr
    refine wpAny_passesOwn hp (thn h4 fun _ s5 ⟨x, H5, I5, r5, y5, st5, fr5⟩ => ?_)
    have I5' := I5.pinned (stat fr5) (T.obj _ _ st5)
    refine wpAny_passesOwn hp (thn (hg _ s5 σ3 H5 x u _ I5' r5 (step x H5 y5)) fun _ s6 ⟨σ6, H6, I6, q6⟩ => ?_)
    refine wpAny_passesOwn hp (thn (hb _ s6 σ6 H6 _ I6 q6) fun f s7 q7 => ?_)
    have again : ∀ {σ7 : St} {H7 : Hp}, Inv X (pins ++ pinsAt fp s5.heap) σ7 H7 s7 → N σ7 H7 → ∃ m, m < n ∧ ∃ i σ' H', Inv X pins σ' H' s7 ∧ tn i s7.heap ∧ (∀ b ∈ fp, H' b = none) ∧ W i m σ' H' := fun {σ7 H7} I7 n7 => by
      obtain ⟨m', hm, w7⟩ := hN σ7 H7 n7
      refine ⟨m', hm, i + 1, σ7, H7, I7.unpinned, T.keep _ _ _ st5 fun b hb o e => (I7.pin (b, o) (List.mem_append_right _ (List.mem_append_right _ (mem_pinsAt hb e)))).1, fun b hb => ?_, w7⟩
      obtain ⟨o, e, d⟩ := T.obj _ _ st5 b hb
      exact (I7.pin (b, o) (List.mem_append_right _ (List.mem_append_right _ (mem_pinsAt hb e)))).2.1
    cases f with
    | next => obtain ⟨σ7, H7, I7, n7⟩ := q7; exact again I7 n7
    | cont => obtain ⟨σ7, H7, I7, n7⟩ := q7; exact again I7 n7
    | brk => obtain ⟨σ7, H7, I7, q7⟩ := q7; exact ⟨σ7, H7, I7.unpinned, q7⟩
    | ret v => obtain ⟨x7, σ7, H7, I7, r7, q7⟩ := q7; exact ⟨x7, σ7, H7, I7.unpinned, r7, q7⟩
end

end L2

namespace L2
open PySem PySem.Spec PyProof.Rows

abbrev R2 := V → V → Hp → VK → Prop
def OpR (X : Cx) (f : Value → Value → Sem Value) (r : R2) : Prop :=
  ∀ (pins : List (Addr × Obj)) (s : Shared) (σ : St) (H : Hp) (x y : V) (v u : Value) (Q : VK), Inv X pins σ H s → RelV x v → RelV y u → r x y H Q →
    wpAny (model X.prog X.w) X.A (f v u) (EP X pins σ Q) X.xe s
def CallR (X : Cx) (f : Value) (r : List V → Hp → VK → Prop) : Prop :=
  ∀ (pins : List (Addr × Obj)) (s : Shared) (σ : St) (H : Hp) (xs : List V) (us : List Value) (Q : VK), Inv X pins σ H s → Vals xs us → r xs H Q →
    wpAny (model X.prog X.w) X.A (call f us) (EP X pins σ Q) X.xe s

def tOp (r : R2) (ta tb : TE) : TE := fun σ H Q => ta σ H fun x H1 => tb σ H1 fun y H2 => r x y H2 Q
def rI (C : Int → Int → Prop) (g : Int → Int → V) : R2 := fun x y H Q => ∃ i j, x = .int i ∧ y = .int j ∧ C i j ∧ Q (g i j) H
def rI0 (g : Int → Int → V) : R2 := fun x y H Q => ∃ i j, x = .int i ∧ y = .int j ∧ Q (g i j) H

section
variable {X : Cx} {a b c : Expr} {ta tb tc : TE} {pos : Pos}

theorem binT (ha : PE X a ta) (hb : PE X b tb) {pins : List (Addr × Obj)} {s : Shared} {σ : St} {H : Hp} {R : V → V → Hp → Prop} (I : Inv X pins σ H s)
    (h : ta σ H fun x H1 => tb σ H1 fun y H2 => R x y H2) {Q : Value → Shared → Prop} {f : Value → Value → Sem Value}
    (hf : ∀ v u s2 x y H2, Inv X pins σ H2 s2 → RelV x v → RelV y u → R x y H2 → wpAny (model X.prog X.w) X.A (f v u) Q X.xe s2) :
    wpAny (model X.prog X.w) X.A (eval a X.env) (fun v s₁ => wpAny (model X.prog X.w) X.A (eval b X.env) (fun u s₂ => wpAny (model X.prog X.w) X.A (f v u) Q X.xe s₂) X.xe s₁) X.xe s := by
  refine thn (ha pins s σ H _ I h) fun v s1 ⟨x, H1, I1, r1, q1⟩ => ?_
  refine thn (hb pins s1 σ H1 _ I1 q1) fun u s2 ⟨y, H2, I2, r2, q2⟩ => ?_
  exact hf v u s2 x y H2 I2 r1 r2 q2

theorem pe_op {op : Operator} {r : R2} (ho : OpR X (binaryOp op) r) (ha : PE X a ta) (hb : PE X b tb) : PE X (.BinOp a op b pos) (tOp r ta tb) := by
  intro pins s σ H Q I h
  exact wpAny_BinOp (binT ha hb I h fun v u s2 x y H2 I2 rx ry q => ho pins s2 σ H2 x y v u Q I2 rx ry q)

theorem opI {f : Value → Value → Sem Value} {C : Int → Int → Prop} {g : Int → Int → Int}
    (rule : ∀ (i j : Int) (t u : Tok) (s : Shared) (Q : Value → Shared → Prop) (E : Value → Shared → Prop), C i j → Q (.int (g i j) s.toks) { s with toks := s.toks + 1 } → wpAny (model X.prog X.w) X.A (f (.int i t) (.int j u)) Q E s) :
    OpR X f (rI C fun i j => .int (g i j)) := by
  intro pins s σ H x y v u Q I rx ry h
  obtain ⟨i, j, rfl, rfl, hc, q⟩ := h
  obtain ⟨t, rfl⟩ := rx
  obtain ⟨t', rfl⟩ := ry
  exact rule i j t t' s _ _ hc ⟨.int (g i j), H, I.tok _, ⟨_, rfl⟩, q⟩
theorem opI0 {f : Value → Value → Sem Value} {g : Int → Int → Int}
    (rule : ∀ (i j : Int) (t u : Tok) (s : Shared) (Q : Value → Shared → Prop) (E : Value → Shared → Prop), Q (.int (g i j) s.toks) { s with toks := s.toks + 1 } → wpAny (model X.prog X.w) X.A (f (.int i t) (.int j u)) Q E s) :
    OpR X f (rI0 fun i j => .int (g i j)) := by
  intro pins s σ H x y v u Q I rx ry h
  obtain ⟨i, j, rfl, rfl, q⟩ := h
  obtain ⟨t, rfl⟩ := rx
  obtain ⟨t', rfl⟩ := ry
  exact rule i j t t' s _ _ ⟨.int (g i j), H, I.tok _, ⟨_, rfl⟩, q⟩

def CDiv (i j : Int) : Prop := 0 < j ∧ j < 1073741824
def CPow (i j : Int) : Prop := 0 ≤ j ∧ j ≤ 1000000 ∧ i.natAbs < 2 ^ 64
def CMul (i j : Int) : Prop := (-(2 ^ 64) < i ∧ i < 2 ^ 64) ∨ (-(2 ^ 64) < j ∧ j < 2 ^ 64)
theorem CMul.ok {i j : Int} (h : CMul i j) : IntMulOk i j := by
  rcases h with ⟨h1, h2⟩ | ⟨h1, h2⟩
  · exact .of_left (intBits_le_64 h1 h2)
  · exact .of_right (intBits_le_64 h1 h2)

theorem op_add : OpR X (binaryOp .Add) (rI0 fun i j => .int (i + j)) := opI0 fun _ _ _ _ _ _ _ q => add_int q
theorem op_mul : OpR X (binaryOp .Mult) (rI CMul fun i j => .int (i * j)) := opI fun _ _ _ _ _ _ _ hc q => mul_int q hc.ok
theorem op_fdiv : OpR X (binaryOp .FloorDiv) (rI CDiv fun i j => .int (i / j)) := opI fun i j _ _ _ _ _ hc q => by
  have h1 : (0 : Int) < j := hc.1
  have h2 : j < 1073741824 := hc.2
  exact floordiv_int (by omega) (by rw [Int.fdiv_eq_ediv_of_nonneg i (by omega)]; exact q) (.inl (PyProof.noPylong_small (by omega)))
theorem op_mod : OpR X (binaryOp .Mod) (rI (fun _ j => 0 < j) fun i j => .int (i % j)) := opI fun i j _ _ _ _ _ hc q => by
  have h1 : (0 : Int) < j := hc
  exact mod_int' (by omega) (by rw [Int.fmod_eq_emod_of_nonneg i (by omega)]; exact q)
theorem op_pow : OpR X (binaryOp .Pow) (rI CPow fun i j => .int (i ^ j.toNat)) := opI fun _ _ _ _ _ _ _ hc q => pow_int_small hc.1 hc.2.1 hc.2.2 q



end

def scal : V → V → Bool
  | .non, .non => true | .non, .int _ => true | .int _, .non => true | .non, .bl _ => true | .bl _, .non => true | .non, .str _ => true | .str _, .non => true
  | .int _, .int _ => true | .bl _, .bl _ => true | .str _, .str _ => true | .byt _, .byt _ => true
  | .int _, .str _ => true | .str _, .int _ => true | .bl _, .str _ => true | .str _, .bl _ => true
  | _, _ => false
def rEq : R2 := fun x y H Q => scal x y = true ∧ Q (.bl (decide (x = y))) H
def rNe : R2 := fun x y H Q => scal x y = true ∧ Q (.bl (!decide (x = y))) H

theorem dec_int {i j : Int} : decide (V.int i = V.int j) = (i == j) := by
  rw [Bool.eq_iff_iff]
  simp
theorem dec_bl {i j : Bool} : decide (V.bl i = V.bl j) = (i == j) := by
  rw [Bool.eq_iff_iff]
  simp
theorem dec_str {i j : Str} : decide (V.str i = V.str j) = (i == j) := by
  rw [Bool.eq_iff_iff]
  simp
theorem dec_byt {i j : Array UInt8} : decide (V.byt i = V.byt j) = (i.toList == j.toList) := by
  rw [Bool.eq_iff_iff]
  cases i
  cases j
  simp

section
variable {X : Cx} {a b c : Expr} {ta tb tc : TE} {pos : Pos}
theorem fin_bl {pins : List (Addr × Obj)} {σ : St} {H : Hp} {s : Shared} {Q : VK} {k k' : Bool} (I : Inv X pins σ H s) (q : Q (.bl k) H) (e : k = k') : EP X pins σ Q (.bool k') s := by
  subst e
  exact ⟨.bl k, H, I, rfl, q⟩
theorem op_eq : OpR X (compareOp .Eq) rEq := by
  intro pins s σ H x y v u Q I rx ry h
  obtain ⟨hs, q⟩ := h
  cases x with
  | non =>
    cases rx
    cases y with
    | non => cases ry; exact PySem.EqNone.eq_none_none (fin_bl I q (by simp))
    | bl j => cases ry; exact PySem.EqNone.eq_none_bool (fin_bl I q (by simp))
    | int j => obtain ⟨t', rfl⟩ := ry; exact PySem.EqNone.eq_none_int (fin_bl I q (by simp))
    | str j => obtain ⟨t', rfl⟩ := ry; exact PySem.EqNone.eq_none_str (fin_bl I q (by simp))
    | _ => exact absurd (show false = true from hs) Bool.false_ne_true
  | bl i =>
    cases rx
    cases y with
    | non => cases ry; exact PySem.EqNone.eq_bool_none (fin_bl I q (by simp))
    | bl j => cases ry; exact eq_bool (fin_bl I q dec_bl)
    | str j => obtain ⟨t', rfl⟩ := ry; exact PySem.EqMixed.eq_bool_str (fin_bl I q (by simp))
    | _ => exact absurd (show false = true from hs) Bool.false_ne_true
  | int i =>
    obtain ⟨t, rfl⟩ := rx
    cases y with
    | non => cases ry; exact PySem.EqNone.eq_int_none (fin_bl I q (by simp))
    | int j => obtain ⟨t', rfl⟩ := ry; exact eq_int (fin_bl I q dec_int)
    | str j => obtain ⟨t', rfl⟩ := ry; exact PySem.EqMixed.eq_int_str (fin_bl I q (by simp))
    | _ => exact absurd (show false = true from hs) Bool.false_ne_true
  | str i =>
    obtain ⟨t, rfl⟩ := rx
    cases y with
    | non => cases ry; exact PySem.EqNone.eq_str_none (fin_bl I q (by simp))
    | bl j => cases ry; exact PySem.EqMixed.eq_str_bool (fin_bl I q (by simp))
    | int j => obtain ⟨t', rfl⟩ := ry; exact PySem.EqMixed.eq_str_int (fin_bl I q (by simp))
    | str j => obtain ⟨t', rfl⟩ := ry; exact eq_str (fin_bl I q dec_str)
    | _ => exact absurd (show false = true from hs) Bool.false_ne_true
  | byt i =>
    obtain ⟨t, rfl⟩ := rx
    cases y with
    | byt j => obtain ⟨t', rfl⟩ := ry; exact PySem.W.eq_bytes (fin_bl I q dec_byt)
    | _ => exact absurd (show false = true from hs) Bool.false_ne_true
  | _ => cases y <;> exact absurd (show false = true from hs) Bool.false_ne_true
theorem op_ne : OpR X (compareOp .NotEq) rNe := by
  intro pins s σ H x y v u Q I rx ry h
  obtain ⟨hs, q⟩ := h
  cases x with
  | non =>
    cases rx
    cases y with
    | non => cases ry; exact PySem.EqNone.ne_none_none (fin_bl I q (by simp))
    | bl j => cases ry; exact PySem.EqNone.ne_none_bool (fin_bl I q (by simp))
    | int j => obtain ⟨t', rfl⟩ := ry; exact PySem.EqNone.ne_none_int (fin_bl I q (by simp))
    | str j => obtain ⟨t', rfl⟩ := ry; exact PySem.EqNone.ne_none_str (fin_bl I q (by simp))
    | _ => exact absurd (show false = true from hs) Bool.false_ne_true
  | bl i =>
    cases rx
    cases y with
    | non => cases ry; exact PySem.EqNone.ne_bool_none (fin_bl I q (by simp))
    | bl j => cases ry; exact ne_bool (fin_bl I q (congrArg not dec_bl))
    | str j => obtain ⟨t', rfl⟩ := ry; exact PySem.EqMixed.ne_bool_str (fin_bl I q (by simp))
    | _ => exact absurd (show false = true from hs) Bool.false_ne_true
  | int i =>
    obtain ⟨t, rfl⟩ := rx
    cases y with
    | non => cases ry; exact PySem.EqNone.ne_int_none (fin_bl I q (by simp))
    | int j => obtain ⟨t', rfl⟩ := ry; exact ne_int (fin_bl I q (congrArg not dec_int))
    | str j => obtain ⟨t', rfl⟩ := ry; exact PySem.EqMixed.ne_int_str (fin_bl I q (by simp))
    | _ => exact absurd (show false = true from hs) Bool.false_ne_true
  | str i =>
    obtain ⟨t, rfl⟩ := rx
    cases y with
    | non => cases ry; exact PySem.EqNone.ne_str_none (fin_bl I q (by simp))
    | bl j => cases ry; exact PySem.EqMixed.ne_str_bool (fin_bl I q (by simp))
    | int j => obtain ⟨t', rfl⟩ := ry; exact PySem.EqMixed.ne_str_int (fin_bl I q (by simp))
    | str j => obtain ⟨t', rfl⟩ := ry; exact ne_str (fin_bl I q (congrArg not dec_str))
    | _ => exact absurd (show false = true from hs) Bool.false_ne_true
  | byt i =>
    obtain ⟨t, rfl⟩ := rx
    cases y with
    | byt j => obtain ⟨t', rfl⟩ := ry; exact PySem.W.ne_bytes (fin_bl I q (congrArg not dec_byt))
    | _ => exact absurd (show false = true from hs) Bool.false_ne_true
  | _ => cases y <;> exact absurd (show false = true from hs) Bool.false_ne_true





theorem nomark (b : Expr) {op : CmpOp} (h : op ≠ .In := by decide) (h2 : op ≠ .NotIn := by decide) : behindInMarks op b = false := by
  have e1 : (op == CmpOp.In) = false := by cases op <;> first | rfl | exact absurd rfl h
  have e2 : (op == CmpOp.NotIn) = false := by cases op <;> first | rfl | exact absurd rfl h2
  cases b <;> simp [behindInMarks, e1, e2]
def tTest (t : TE) : TT := fun σ H Q => t σ H fun x H' => ∃ k, x = .bl k ∧ Q k H'
theorem pt_cmpR {op : CmpOp} {r : R2} (ho : OpR X (compareOp op) r) (ha : PE X a ta) (hb : PE X b tb) (hm : behindInMarks op b = false) : PT X (.Compare a [op] [b] pos) (tTest (tOp r ta tb)) := by
  intro pins s σ H Q I h
  refine wpAny_isTrue_Compare1 (thn (ha pins s σ H _ I h) fun v s1 ⟨x, H1, I1, r1, q1⟩ => thn (hb pins s1 σ H1 _ I1 q1) fun u s2 ⟨y, H2, I2, r2, q2⟩ =>
    thn (ho pins s2 σ H2 x y v u _ I2 r1 r2 q2) fun c s3 ⟨z, H3, I3, r3, k, e, q3⟩ => ?_) hm
  subst e
  cases r3
  exact wpAny_truthy_bool ⟨H3, I3, q3⟩

theorem line63 : (sizeLine : Nat) < 2 ^ 63 := by rw [sizeLine_eq]; decide



theorem vals2 {x y : V} {us : List Value} (r : Vals [x, y] us) : ∃ u w', us = [u, w'] ∧ RelV x u ∧ RelV y w' := by
  cases r with
  | cons r1 r2 =>
    cases r2 with
    | cons r3 r4 => cases r4; exact ⟨_, _, rfl, r1, r3⟩
end
end L2

namespace L2
open PySem PySem.Spec PyProof.Rows




section
variable {prog : Program} {w : World} {A : Around} {E : Value → Shared → Prop} {s : Shared} {K : PySem.W.Frag} {x dx C f : Addr} {mA : Str → Option Value} {name : Str} {v : Value}





end



section
variable {P : Program} {w : World} {H H' : Hp} {h h' : Heap} {a C dx : Addr} {fs fs' : List (Str × V)}
end

def NoAttr (K : PySem.W.Frag) (C : Addr) (f : Str) : Prop := PySem.W.findIn K (.ref C) f = some none
theorem NoAttr.taker {K : PySem.W.Frag} {C : Addr} {f : Str} (n : NoAttr K C f) : PySem.W.takerIn K C f = some none := by
  unfold PySem.W.takerIn
  rw [show PySem.W.findIn K (.ref C) f = some none from n]
  rfl

section
variable {X : Cx} {pins : List (Addr × Obj)} {σ : St} {H : Hp} {s : Shared} {a C dx : Addr} {fs : List (Str × V)} {f : Str} {v : V} {A : Around} {E : Value → Shared → Prop}





theorem Inv.made (I : Inv X pins σ H s) : Inv X pins σ (upd (upd H s.heap.objs.size (.own (s.heap.objs.size + 1))) (s.heap.objs.size + 1) (.ins C s.heap.objs.size []))
    { s with heap := (s.heap.push PySem.W.emptyDict).push (PySem.W.instObj C s.heap.objs.size) } := by
  have e1 : (s.heap.push PySem.W.emptyDict).get? s.heap.objs.size = some PySem.W.emptyDict := Heap.get?_push_size s.heap rfl
  have e2 : ((s.heap.push PySem.W.emptyDict).push (PySem.W.instObj C s.heap.objs.size)).get? (s.heap.objs.size + 1) = some (PySem.W.instObj C s.heap.objs.size) := by
    have := Heap.get?_push_size (s.heap.push PySem.W.emptyDict) (o := PySem.W.instObj C s.heap.objs.size) rfl
    rwa [Heap.size_push] at this
  have e3 : (s.heap.push PySem.W.emptyDict).Ns s.heap.objs.size (fun _ => none) := ⟨PySem.W.emptyDict, #[], _, e1, rfl, (fun e he => absurd he (by simp)), fun _ => rfl⟩
  have I1 := I.laid (a := s.heap.objs.size) (o := .own (s.heap.objs.size + 1)) (h' := s.heap.push PySem.W.emptyDict) (t' := s.toks) (fun b u q => Heap.get?_push_of_some _ q) (Nat.le_refl _) ⟨_, e1⟩
  refine I1.laid (a := s.heap.objs.size + 1) (o := .ins C s.heap.objs.size []) (t' := s.toks) (fun b u q => Heap.get?_push_of_some _ q) (Nat.le_of_eq (Heap.size_push _ _)) ?_
  have ne : s.heap.objs.size ≠ s.heap.objs.size + 1 := Nat.ne_of_lt (Nat.lt_succ_self _)
  refine ⟨by rw [upd_ne ne, upd_same], Nat.zero_le _, ne, e2, fun _ => none, (Heap.Ns1.of_empty e3).at fun o q => Heap.get?_push_of_some _ q, fun _ => True.intro, fun y hy => absurd rfl hy⟩

theorem attr_of {prog : Program} {w : World} {env : Env} {e : Expr} {f : Str} {pos : Pos} {s : Shared} {Q : Value → Shared → Prop} (hb : attributeBase e f env (eval e env) = eval e env)
    (h : wpAny (model prog w) A (eval e env) (fun o s₁ => wpAny (model prog w) A (getAttr o f true) Q E s₁) E s) : wpAny (model prog w) A (eval (.Attribute e f pos) env) Q E s :=
  Attribute_any_ h (by rw [arm_eval_Attribute, hb])
end


section
variable {X : Cx} {o e value : Expr} {f : Str} {pos pos' tpos : Pos} {ta tv : TE}

end

section
variable {X : Cx} {pins : List (Addr × Obj)} {σ : St} {H : Hp} {s : Shared} {A : Around} {E : Value → Shared → Prop} {Q : Value → Shared → Prop} {c : Value} {b : Bool}
end
end L2

namespace L2
open PySem PySem.Spec PyProof.Rows

structure Room (k : Nat) (A : Around) : Prop where
  hd : A.handled = none
  dp : A.depth + 3 * k + 5 < recursionLimit
  un : A.units + 16 * k + 200 < cLine
theorem Room.mono {j k : Nat} {A : Around} (r : Room k A) (h : j ≤ k) : Room j A := ⟨r.hd, by have := r.dp; omega, by have := r.un; omega⟩
theorem Room.deeper {k : Nat} {A : Around} (r : Room (k + 1) A) (env : Env) : Room k (A.deeper env) :=
  ⟨r.hd, by have := r.dp; show A.depth + 1 + 3 * k + 5 < _; omega, by have := r.un; show A.units + 3 + 16 * k + 200 < _; omega⟩
theorem make_depth {A : Around} {C : Addr} {us : List Value} {kw : List (Str × Value)} : (A.under (.builtin "type.__call__" ⟨.ref C :: us, kw⟩)).depth = A.depth + 1 := by
  first | rfl | simp [Around.under, Code.weight, Code.isCreation, Code.isGuard, Code.isCaller, Code.frames, Code.isFrame, guardIds]
theorem make_units {A : Around} {C : Addr} {us : List Value} {kw : List (Str × Value)} : (A.under (.builtin "type.__call__" ⟨.ref C :: us, kw⟩)).units = A.units + 1 := by
  first | rfl | simp [Around.under, Code.cUnits, Code.frames, Code.isFrame]
theorem Room.make {k : Nat} {A : Around} (r : Room (k + 1) A) (C : Addr) (us : List Value) (kw : List (Str × Value)) : Room k (A.under (.builtin "type.__call__" ⟨.ref C :: us, kw⟩)) :=
  ⟨r.hd, by have := r.dp; rw [make_depth]; omega, by have := r.un; rw [make_units]; omega⟩
theorem Room.depth {k : Nat} {A : Around} (r : Room k A) : A.depth < recursionLimit := by have := r.dp; omega
theorem Room.units {k : Nat} {A : Around} (r : Room k A) : A.units + 64 < cLine := by have := r.un; omega

def tNil : TA := fun _ H Q => Q [] H
def tCons (ta : TE) (tr : TA) : TA := fun σ H Q => ta σ H fun x H1 => tr σ H1 fun xs H2 => Q (x :: xs) H2
section
variable {X : Cx} {e : Expr} {es : List Expr} {te : TE} {t : TA} {pos : Pos}
theorem pa_nil : PA X [] tNil := fun _ _ _ _ H Q I h => Calls.spliced_nil ⟨[], H, I, .nil, h⟩
theorem pa_cons (ha : PE X e te) (hr : PA X es t) (hs : starEach (e :: es) X.env = (false, eval e X.env) :: starEach es X.env := by rfl) : PA X (e :: es) (tCons te t) := by
  intro pos pins s σ H Q I h
  rw [hs]
  show wpAny _ _ (spliced ((false, eval e X.env) :: backTo pos (starEach es X.env))) _ _ s
  refine Calls.spliced_cons (thn (ha pins s σ H _ I h) fun u s1 ⟨x, H1, I1, r1, q1⟩ => ?_)
  exact thn (hr pos pins s1 σ H1 _ I1 q1) fun us s2 ⟨xs, H2, I2, r2, q2⟩ => ⟨x :: xs, H2, I2, .cons r1 r2, q2⟩

def tLst (t : TA) : TE := fun σ H Q => t σ H fun xs H1 => xs.length ≤ sizeLine ∧ ∀ p, H1 p = none → Q (.ref p) (upd H1 p (.lst xs))
theorem pe_lst (h : PA X es t) : PE X (.List es pos) (tLst t) := by
  intro pins s σ H Q I hq
  refine wpAny_List_spliced (thn (h pos pins s σ H _ I hq) fun us s1 ⟨xs, H1, I1, r, z, q⟩ => ⟨by rw [← r.length]; exact z, ?_⟩)
  have hf : H1 s1.heap.objs.size = none := I1.hok.fresh (Nat.le_refl _)
  refine ⟨.ref s1.heap.objs.size, upd H1 s1.heap.objs.size (.lst xs), I1.laid (t' := s1.toks) (fun b u e => Heap.get?_push_of_some _ e) (Nat.le_refl _) ?_, rfl, q _ hf⟩
  exact ⟨z, us, 0, r, Heap.get?_push_size _ rfl⟩
end

abbrev Sp := List V → Hp → VK → XK → Prop
abbrev CXT := List Env → Hp → Shared → XK → Value → Shared → Prop

structure Env0 (P : Program) (w : World) (K : PySem.W.Frag) (mg : Str → Option Value) (base : Heap) (A : Around) (outer : List Env) (s : Shared) (H : Hp) : Prop where
  frames : A.frames = some outer
  mod : Mod K mg base
  bs : ∀ b o, base.get? b = some o → s.heap.get? b = some o ∧ H b = none
  bsz : base.objs.size ≤ s.heap.objs.size
  funs : s.heap.FunFrames base outer
  frf : ∀ b ∈ frs outer, H b = none
  hok : HOk P w H s.heap
  bare : AllBare s.gens
def CE (outer : List Env) (P : Program) (w : World) (H : Hp) (s : Shared) (Q : VK) (u : Value) (s' : Shared) : Prop :=
  ∃ v H', s'.os = s.os ∧ AllBare s'.gens ∧ Un (frs outer) [] H H' s.heap s'.heap ∧ HOk P w H' s'.heap ∧ RelV v u ∧ Q v H'
def CR (CX : CXT) (outer : List Env) (P : Program) (w : World) (H : Hp) (s : Shared) (Q : VK) (E : XK) (r : Result) (s' : Shared) : Prop :=
  match r with
  | .ok (.ret u) => CE outer P w H s Q u s'
  | .ok _ => False
  | .error e => CX outer H s E e s'
structure FnOk (P : Program) (w : World) (K : PySem.W.Frag) (mg : Str → Option Value) (base : Heap) (CX : CXT) (k : Nat) (f : Addr) (fd : FuncData) (ps : List Str) (sp : Sp) : Prop where
  len : ∀ vs H Q E, sp vs H Q E → vs.length = ps.length
  run : ∀ (A : Around) (outer : List Env) (s : Shared) (H : Hp) (args : Args) (us : List Value) (vs : List V) (Q : VK) (E : XK), Room k A → Env0 P w K mg base A outer s H → BindsTo s fd args (ps.zip us) → Vals vs us → sp vs H Q E →
    codeAny (model P w) A (.call (.ref f) args) (CR CX outer P w H s Q E) s
theorem FnOk.mono {P : Program} {w : World} {K : PySem.W.Frag} {mg : Str → Option Value} {base : Heap} {CX : CXT} {j k : Nat} {f : Addr} {fd : FuncData} {ps : List Str} {sp : Sp} (F : FnOk P w K mg base CX j f fd ps sp) (h : j ≤ k) :
    FnOk P w K mg base CX k f fd ps sp := ⟨F.len, fun A outer s H args us vs Q E hr => F.run A outer s H args us vs Q E (hr.mono h)⟩

theorem Env0.make {P : Program} {w : World} {K : PySem.W.Frag} {mg : Str → Option Value} {base : Heap} {A : Around} {outer : List Env} {s : Shared} {H : Hp} (e : Env0 P w K mg base A outer s H) (C : Addr) (us : List Value) (kw : List (Str × Value)) :
    Env0 P w K mg base (A.under (.builtin "type.__call__" ⟨.ref C :: us, kw⟩)) outer s H := ⟨by first | exact e.frames | (simpa [Around.under, Code.envs, Code.isFrame, pushEnvs] using e.frames), e.mod, e.bs, e.bsz, e.funs, e.frf, e.hok, e.bare⟩

section
variable {X : Cx} {pins : List (Addr × Obj)} {σ : St} {H : Hp} {s s' : Shared}
theorem Inv.env0 (I : Inv X pins σ H s) : Env0 X.prog X.w X.K X.mg X.base X.A X.stack s H :=
  ⟨I.ok.frames, I.ok.mod, I.bs, Nat.le_trans I.ok.bsz I.sz, I.stack, I.stkFree, I.hok, I.bare⟩
theorem Inv.after {Q : VK} {u : Value} (I : Inv X pins σ H s) (h : CE X.stack X.prog X.w H s Q u s') : EP X pins σ Q u s' := by
  obtain ⟨v, H', os, bare, un, hok, r, q⟩ := h
  obtain ⟨hh, g, d, t, os'⟩ := s'
  obtain rfl : os' = s.os := os
  exact ⟨v, H', I.call (h' := hh) (g' := g) (d' := d) (t' := t) (ch := []) un hok bare (fun b z => absurd z (by simp)), r, q⟩
end

def tCall (sp : Sp) (dvs : List V) (E : XK) (t : TA) : TE := fun σ H Q => t σ H fun vs H1 => sp (vs ++ dvs) H1 Q E

def Binds (K : PySem.W.Frag) (fd : FuncData) (ps : List Str) (ds : List Value) : Prop :=
  ∀ (s : Shared) (us : List Value), K.In s.heap → (us ++ ds).length = ps.length → BindsTo s fd ⟨us, []⟩ (ps.zip (us ++ ds))
theorem Binds.all {K : PySem.W.Frag} {fd : FuncData} {ps : List Str} (h : ∀ us : List Value, us.length = ps.length → bindArgs fd ⟨us, []⟩ = pure (ps.zip us)) : Binds K fd ps [] := fun s us _ hl => by
  rw [List.append_nil] at hl ⊢
  exact .of_eq (h us hl)

def Passes (CX : CXT) (X : Cx) (E : XK) : Prop := ∀ (pins : List (Addr × Obj)) (σ : St) (H : Hp) (s : Shared) (e : Value) (s' : Shared), Inv X pins σ H s → CX X.stack H s E e s' → X.xe e s'

section
variable {X : Cx} {CX : CXT} {k : Nat} {f C : Addr} {fd : FuncData} {ps : List Str} {sp : Sp} {dvs : List V} {ds : List Value} {E : XK} {x m : Str} {p pos apos : Pos} {e o : Expr} {es : List Expr} {ta : TE} {t : TA}

theorem run_fn {pins : List (Addr × Obj)} {σ : St} {H : Hp} {s : Shared} {Q : VK} {us : List Value} {vs : List V} (F : FnOk X.prog X.w X.K X.mg X.base CX k f fd ps sp) (hr : Room k X.A) (hb : Binds X.K fd ps ds) (hd : Vals dvs ds) (hx : Passes CX X E)
    (I : Inv X pins σ H s) (r : Vals vs us) (h : sp (vs ++ dvs) H Q E) : wpAny (model X.prog X.w) X.A (call (.ref f) us) (EP X pins σ Q) X.xe s := by
  have r2 : Vals (vs ++ dvs) (us ++ ds) := r.append hd
  have hl : (us ++ ds).length = ps.length := by rw [← r2.length]; exact F.len _ _ _ _ h
  refine wpAny_call (codeAny_mono (F.run X.A X.stack s H ⟨us, []⟩ (us ++ ds) (vs ++ dvs) Q E hr I.env0 (hb s us I.kIn hl) r2 h) fun r s' hq => ?_)
  cases r with
  | error e => exact hx pins σ H s e s' I hq
  | ok fl =>
    cases fl with
    | ret u => exact I.after hq
    | next => exact False.elim hq
    | brk => exact False.elim hq
    | cont => exact False.elim hq

theorem pe_call (F : FnOk X.prog X.w X.K X.mg X.base CX k f fd ps sp) (hr : Room k X.A) (hg : Gl X x) (hm : X.mg x = some (.ref f)) (hk : PySem.W.keepIn X.K (.ref f) = true) (hb : Binds X.K fd ps ds) (hd : Vals dvs ds) (hx : Passes CX X E)
    (ha : PA X (e :: es) t) (hdb : (x == ("__debug__" : Str)) = false := by decide) (he : starEach (e :: es) X.env = (false, eval e X.env) :: starEach es X.env := by rfl) (hpl : (backTo pos (starEach es X.env)).any (·.1) = false := by rfl) :
    PE X (.Call (.Name x p) (e :: es) [] pos) (tCall sp dvs E t) := by
  intro pins s σ H Q I h
  refine wpAny_Call_Name_kw (ld_glob I hg hm ?_ hdb)
  refine PySem.W.callWith_K (h₀ := X.base) I.ok.mod.kin hk (thn (ha pos pins s σ H _ I h) fun us s1 ⟨vs, H1, I1, r, q⟩ => ⟨I1.kIn, ?_⟩) he hpl
  exact run_fn F hr hb hd hx I1 r q



end

section
variable {X : Cx} {CX : CXT} {k : Nat} {f C : Addr} {fd : FuncData} {ps ks : List Str} {sp : Sp} {E : XK} {x m : Str} {p pos apos kpos : Pos} {e o : Expr} {es : List Expr} {kws : List Keyword} {te ta : TE} {t tk : TA} {nm : Option Str}

variable {g : List Value → List Value → List Value} {gV : List V → List V → List V}
end

structure FnScope (N P : List Str) (sc : Scope) : Prop where
  kind : sc.kind = .function
  co : sc.isCoroutine = false
  gen : sc.isGenerator = false
  nd : N.Nodup
  pre : N.take P.length = P
  par : ∀ x ∈ P, sc.names.lookup x = some .local ∨ sc.names.lookup x = some .cell
  nofree : ∀ y ∈ sc.names, y.2 ≠ .free

theorem bindL_out {kindOf : Str → Option NameKind} {x : Str} : ∀ {binds : List (Str × Value)} {m : Str → Option Value}, (∀ v, (x, v) ∉ binds) → bindL kindOf binds m x = m x
  | [], _, _ => rfl
  | (n, v) :: r, m, h => by
    unfold bindL
    rw [bindL_out fun w hw => h w (List.mem_cons_of_mem _ hw)]
    split
    · have : x ≠ n := by rintro rfl; exact h v List.mem_cons_self
      simp [this]
    · rfl
theorem bindC_out {kindOf : Str → Option NameKind} {x : Str} : ∀ {binds : List (Str × Value)} {m : Str → Option Value}, (∀ v, (x, v) ∉ binds) → bindC kindOf binds m x = m x
  | [], _, _ => rfl
  | (n, v) :: r, m, h => by
    unfold bindC
    rw [bindC_out fun w hw => h w (List.mem_cons_of_mem _ hw)]
    split
    · rfl
    · have : x ≠ n := by rintro rfl; exact h v List.mem_cons_self
      simp [this]
theorem bindL_get {kindOf : Str → Option NameKind} {x : Str} {v : Value} : ∀ {P : List Str} {vs : List Value} {i : Nat} {m : Str → Option Value}, P.Nodup → P[i]? = some x → vs[i]? = some v → kindOf x = some .local →
    bindL kindOf (P.zip vs) m x = some v
  | [], _, _, _, _, h, _, _ => by simp at h
  | _ :: _, [], _, _, _, _, h, _ => by simp at h
  | p :: P, w :: vs, 0, m, nd, h1, h2, hk => by
    simp at h1 h2; subst h1; subst h2
    show bindL kindOf ((p, w) :: P.zip vs) m p = _
    unfold bindL
    rw [bindL_out fun v hv => (List.nodup_cons.mp nd).1 (List.of_mem_zip hv).1, if_pos hk]
    simp
  | p :: P, w :: vs, i + 1, m, nd, h1, h2, hk => by
    show bindL kindOf ((p, w) :: P.zip vs) m x = _
    unfold bindL
    exact bindL_get (i := i) (List.nodup_cons.mp nd).2 (by simpa using h1) (by simpa using h2) hk
theorem bindC_get {kindOf : Str → Option NameKind} {x : Str} {v : Value} : ∀ {P : List Str} {vs : List Value} {i : Nat} {m : Str → Option Value}, P.Nodup → P[i]? = some x → vs[i]? = some v → kindOf x ≠ some .local →
    bindC kindOf (P.zip vs) m x = some v
  | [], _, _, _, _, h, _, _ => by simp at h
  | _ :: _, [], _, _, _, _, h, _ => by simp at h
  | p :: P, w :: vs, 0, m, nd, h1, h2, hk => by
    simp at h1 h2; subst h1; subst h2
    show bindC kindOf ((p, w) :: P.zip vs) m p = _
    unfold bindC
    rw [bindC_out fun v hv => (List.nodup_cons.mp nd).1 (List.of_mem_zip hv).1, if_neg hk]
    simp
  | p :: P, w :: vs, i + 1, m, nd, h1, h2, hk => by
    show bindC kindOf ((p, w) :: P.zip vs) m x = _
    unfold bindC
    exact bindC_get (i := i) (List.nodup_cons.mp nd).2 (by simpa using h1) (by simpa using h2) hk

def start (N : List Str) (vs : List V) : St := vs.map some ++ List.replicate (N.length - vs.length) none

def cxOf (CX : CXT) (P : Program) (w : World) (K : PySem.W.Frag) (mg : Str → Option Value) (base : Heap) (N : List Str) (qual : Str) (scope : Scope) (f : Addr) (cd : Value) (A : Around) (outer : List Env) (s : Shared) (H : Hp) (E : XK) : Cx where
  prog := P
  w := w
  K := K
  mg := mg
  base := base
  A := A.deeper (envOfC qual scope s.heap.objs.size f cd)
  N := N
  s₀ := s
  H₀ := H
  env := envOfC qual scope s.heap.objs.size f cd
  outer := outer
  stack := envOfC qual scope s.heap.objs.size f cd :: outer
  ex := []
  calm := true
  fn := fun _ => true
  pn := []
  xe := fun e s' => wpAny (model P w) (A.deeper (envOfC qual scope s.heap.objs.size f cd)) (leaving (envOfC qual scope s.heap.objs.size f cd) e) (fun _ s'' => CX outer H s E e s'') (fun e' s'' => CX outer H s E e' s'') s'

theorem cell_has {sc : Scope} {n : Nat} {x : Str} (h : sc.names.lookup x = some .cell) : ∃ c, (cellsFrom n sc.names []).lookup x = some c := by
  have q := PySem.W.cellsFrom_some sc.names n [] (.inl h)
  exact Option.isSome_iff_exists.mp q

theorem inv_start {CX : CXT} {P : Program} {w : World} {K : PySem.W.Frag} {mg : Str → Option Value} {base : Heap} {N ps : List Str} {qual : Str} {scope : Scope} {f : Addr} {cd : Value} {A : Around} {outer : List Env} {s s1 : Shared} {H : Hp} {E : XK} {us : List Value} {vs : List V}
    (S : FnScope N ps scope) (hd : A.handled = none) (e0 : Env0 P w K mg base A outer s H) (hl : vs.length = ps.length) (r : Vals vs us)
    (x : InCallC s s.heap.objs.size (bindL (envOfC qual scope s.heap.objs.size f cd).kindOf (ps.zip us) fun _ => none) (cellsFrom (s.heap.objs.size + 1) scope.names []) (bindC (envOfC qual scope s.heap.objs.size f cd).kindOf (ps.zip us) fun _ => none) s1) :
    Inv (cxOf CX P w K mg base N qual scope f cd A outer s H E) [] (start N vs) H s1 := by
  have hpl : ps.length ≤ N.length := by have := congrArg List.length S.pre; rw [List.length_take] at this; omega
  obtain ⟨h1, tk, rfl, hk⟩ := x.done
  have noA : ∀ b : Addr, b ∉ (cxOf CX P w K mg base N qual scope f cd A outer s H E).ex := fun b z => absurd (show b ∈ ([] : List Addr) from z) (by simp)
  refine ⟨⟨e0.mod, S.kind, rfl, rfl, Nat.le_refl _, fun y z c h1 h2 => ?_, fun y hy => ?_, fun y c _ h => ?_, fun _ => hd, Around.frames_deeper e0.frames, .inr ⟨rfl, rfl⟩, fun b z => absurd z (noA b), e0.bs, e0.bsz, fun b _ _ => noA b, fun b z => absurd z (noA b), e0.funs, e0.frf⟩,
    rfl, e0.bare, Un.kept hk, ⟨_, x.toInCall.ns, fun i y v h1 h2 h3 => ?_⟩, fun y c h => ⟨_, x.cell y c h⟩, e0.hok.fresh (Nat.le_refl _), fun y c h => ?_, fun p hp => absurd (show p ∈ ([] : List (Addr × Obj)) from hp) (by simp), e0.hok.kept hk, ?_⟩
  · exact name_of_addr x.apart (PySem.mem_of_lookup h1) (PySem.mem_of_lookup h2)
  · have hy : scope.names.lookup y = some .cell ∨ scope.names.lookup y = some .free := hy
    rcases hy with hy | hy
    · exact cell_has hy
    · exact absurd rfl (S.nofree _ (PySem.mem_of_lookup hy))
  · exact Nat.le_of_lt (x.above y c (PySem.mem_of_lookup h))
  · have hi : i < vs.length := by
      unfold start at h2
      by_cases hi : i < vs.length
      · exact hi
      · rw [List.getElem?_append_right (by simpa using hi)] at h2
        rw [List.getElem?_replicate] at h2
        split at h2 <;> cases h2
    have ha : vs[i]? = some v := by
      unfold start at h2
      rw [List.getElem?_append_left (by simpa using hi), List.getElem?_map] at h2
      cases e : vs[i]? with
      | none => rw [e] at h2; cases h2
      | some a => rw [e] at h2; cases h2; rfl
    obtain ⟨u, hu, rv⟩ := r.get ha
    have hp : ps[i]? = some y := by
      rw [← S.pre, List.getElem?_take_of_lt (by omega)]; exact h1
    have ndP : ps.Nodup := by rw [← S.pre]; exact S.nd.sublist (List.take_sublist _ _)
    refine ⟨u, rv, ?_⟩
    rcases S.par y (List.mem_of_getElem? hp) with k | k
    · exact .inl ⟨k, bindL_get ndP hp hu k⟩
    · obtain ⟨c, e⟩ := cell_has (n := s.heap.objs.size + 1) k
      refine .inr ⟨.inl k, c, e, ?_⟩
      have q := x.cell y c e
      rw [bindC_get ndP hp hu (by show scope.names.lookup y ≠ _; rw [k]; decide)] at q
      exact q
  · exact e0.hok.fresh (Nat.le_of_lt (x.above y c (PySem.mem_of_lookup h)))
  · unfold start
    show _ = N.length
    rw [List.length_append, List.length_map, List.length_replicate]
    omega

theorem fn_of {CX : CXT} {P : Program} {w : World} {K : PySem.W.Frag} {mg : Str → Option Value} {base : Heap} {k : Nat} {f : Addr} {name qual : Str} {params : Arguments} {body : List Stmt} {scope : Scope} {dV kV doc pm cdv ct oc : Value} {an od : Option Addr}
    {osl : Array (Option Value)} {N ps : List Str} {sp : Sp} (lk : K.lookup f = some ⟨oc, od, .func (PySem.W.fnOf name qual params body scope dV kV doc pm an cdv ct), osl⟩) (hcd : PySem.W.codeIn K cdv qual = true) (S : FnScope N ps scope)
    (len : ∀ vs H Q E, sp vs H Q E → vs.length = ps.length)
    (hbody : ∀ (A : Around) (outer : List Env) (s : Shared) (H : Hp) (vs : List V) (Q : VK) (E : XK), Room k (A.deeper (envOfC qual scope s.heap.objs.size f cdv)) → sp vs H Q E →
      ∃ t, PSs (cxOf CX P w K mg base N qual scope f cdv A outer s H E) body t ∧ t { nx := fun _ H' => Q .non H', rt := Q } (start N vs) H) :
    FnOk P w K mg base CX (k + 1) f (PySem.W.fnOf name qual params body scope dV kV doc pm an cdv ct) ps sp := by
  refine ⟨len, fun A outer s H args us vs Q E hr e0 hb r hsp => ?_⟩
  have hl := len _ _ _ _ hsp
  have KX : K.In s.heap := e0.mod.kin.keeps fun b o e => (e0.bs b o e).1
  have lim : s.heap.NoLimit := e0.mod.nolimit.keeps fun b o e => (e0.bs b o e).1
  have hkind : ∀ y ∈ ps.zip us, scope.names.lookup y.1 = some .local ∨ (scope.names.lookup y.1 = some .cell ∧ ((cellsFrom (s.heap.objs.size + 1) scope.names []).lookup y.1).isSome = true) := fun ⟨n, v⟩ hy => by
    rcases S.par n (List.of_mem_zip hy).1 with q | q
    · exact .inl q
    · exact .inr ⟨q, PySem.W.cellsFrom_some _ _ _ (.inl q)⟩
  refine codeAny_call_function hr.depth (KX _ _ lk) rfl S.co S.gen rfl (PySem.W.codeRec_of KX hcd) (hb _ _ _ _ ?_)
  refine wpAny_newFunctionEnv_cells S.kind hkind fun env he s1 x => ?_
  subst he
  refine ⟨lim.keeps x.toInCall.keep, codeAny_func ?_⟩
  obtain ⟨t, ht, hq⟩ := hbody A outer s H vs Q E (hr.deeper _) hsp
  have I : Inv (cxOf CX P w K mg base N qual scope f cdv A outer s H E) [] (start N vs) H s1 := inv_start S hr.hd e0 hl r x
  refine wpAny_mono (ht [] s1 (start N vs) H _ I hq) (fun fl s' hs => ?_) fun e s' hs => hs
  have fin : ∀ {σ' : St} {H' : Hp} {v : V} {u : Value}, Inv (cxOf CX P w K mg base N qual scope f cdv A outer s H E) [] σ' H' s' → RelV v u → Q v H' → CE outer P w H s Q u s' :=
    fun {σ' H' v u} J rv q => ⟨v, H', J.os, J.bare, J.base, J.hok, rv, q⟩
  cases fl with
  | ret u =>
    obtain ⟨v, σ', H', J, rv, q⟩ := hs
    exact fin J rv q
  | next =>
    obtain ⟨σ', H', J, q⟩ := hs
    exact fin (v := V.non) (u := Value.none) J rfl q
  | brk =>
    obtain ⟨_, _, _, q⟩ := hs
    exact False.elim q
  | cont =>
    obtain ⟨_, _, _, q⟩ := hs
    exact False.elim q
end L2

namespace L2
open PySem PySem.Spec PyProof.Rows
section
variable {X : Cx} {x : Str} {p pos : Pos} {e : Expr} {es : List Expr} {t : TA} {id T : String} {r : List V → Hp → VK → Prop}

def tCB (r : List V → Hp → VK → Prop) (t : TA) : TE := fun σ H Q => t σ H fun vs H1 => r vs H1 Q
theorem pe_callB (hc : CallR X (.builtin id) r) (hg : Gl X x) (hm : X.mg x = none) (hv : bootBuiltins x = some (.builtin id)) (ha : PA X (e :: es) t) (hn : x ≠ "__name__" := by decide) (hdb : (x == ("__debug__" : Str)) = false := by decide)
    (he : starEach (e :: es) X.env = (false, eval e X.env) :: starEach es X.env := by rfl) (hpl : (backTo pos (starEach es X.env)).any (·.1) = false := by rfl) : PE X (.Call (.Name x p) (e :: es) [] pos) (tCB r t) := by
  intro pins s σ H Q I h
  refine wpAny_Call_Name_kw (ld_blt I hg hm hv ?_ hn hdb)
  exact PyProof.Rows.callWith_builtin1 (thn (ha pos pins s σ H _ I h) fun us s1 ⟨vs, H1, I1, r1, q1⟩ => hc pins s1 σ H1 vs us Q I1 r1 q1) he hpl
end
end L2

namespace HT
open PySem PyProof.Rows



section
open PySem.SeqAt
open PySem.AutoSeq1 (wpAny_loadPart')
open PySem.MeetsSeq PySem.MeetsSeq2 PySem.MeetsSeq3

end

section
variable {prog : Program} {w : World} {A : Around} {E : Value → Shared → Prop} {s : Shared}




end
end HT

namespace L2
open PySem PySem.Spec PyProof.Rows

abbrev TO := St → Hp → (Option Int → Hp → Prop) → Prop


section
variable {X : Cx} {e : Expr} {te : TE} {lo hi : Option Expr} {tl th : TO} {pos p2 : Pos}




end
end L2

namespace L2
open PySem PySem.Spec PyProof.Rows

def ixN (n : Nat) (i : Int) : Option Nat := if 0 ≤ i then (if i < n then some i.toNat else none) else if -(n : Int) ≤ i then some (i + n).toNat else none
def atI {α : Type} (xs : List α) (i : Int) : Option α := (ixN xs.length i).bind fun j => xs[j]?
theorem ixN_seq {n : Nat} {i : Int} {j : Nat} (h : ixN n i = some j) : seqIndex? i n = some j ∧ j < n ∧ -(n : Int) ≤ i ∧ i < n := by
  unfold ixN at h
  by_cases h0 : 0 ≤ i
  · rw [if_pos h0] at h
    by_cases h1 : i < n
    · rw [if_pos h1] at h
      have e : i.toNat = j := Option.some.inj h
      exact ⟨by rw [seqIndex_of h0 h1, e], by omega, by omega, h1⟩
    · rw [if_neg h1] at h; cases h
  · rw [if_neg h0] at h
    by_cases h1 : -(n : Int) ≤ i
    · rw [if_pos h1] at h
      have e : (i + n).toNat = j := Option.some.inj h
      exact ⟨by rw [seqIndex_neg (by omega) h1, e], by omega, h1, by omega⟩
    · rw [if_neg h1] at h; cases h
theorem atI_get {α : Type} {xs : List α} {i : Int} {v : α} (h : atI xs i = some v) : ∃ j, seqIndex? i xs.length = some j ∧ xs[j]? = some v ∧ j < xs.length ∧ -(xs.length : Int) ≤ i ∧ i < xs.length := by
  unfold atI at h
  cases e : ixN xs.length i with
  | none => rw [e] at h; cases h
  | some j =>
    rw [e] at h
    obtain ⟨h1, h2, h3, h4⟩ := ixN_seq e
    exact ⟨j, h1, h, h2, h3, h4⟩
theorem atI_nat {α : Type} {xs : List α} {j : Nat} {v : α} (h : xs[j]? = some v) : atI xs (j : Int) = some v := by
  have hj : j < xs.length := (List.getElem?_eq_some_iff.mp h).1
  have e : ixN xs.length (j : Int) = some j := by
    unfold ixN
    rw [if_pos (by omega), if_pos (by omega)]; simp
  unfold atI; rw [e]; exact h

def PlainIx (b : Expr) : Prop := ∀ o i, subscripted b false o i = operate [o, i] (getItem o i)
def IxR (X : Cx) (r : R2) : Prop :=
  ∀ (value slice : Expr) (pins : List (Addr × Obj)) (s : Shared) (σ : St) (H : Hp) (x y : V) (v u : Value) (Q : VK), Inv X pins σ H s → RelV x v → RelV y u → r x y H Q →
    subscripted slice false v u = operate [v, u] (getItem v u) → wpAny (model X.prog X.w) X.A (subscriptTail value slice v u) (EP X pins σ Q) X.xe s
def MtR (X : Cx) (id : String) (r : V → List V → Hp → VK → Prop) : Prop :=
  ∀ (pins : List (Addr × Obj)) (s : Shared) (σ : St) (H : Hp) (x : V) (xs : List V) (v : Value) (us : List Value) (Q : VK), Inv X pins σ H s → RelV x v → Vals xs us → r x xs H Q →
    wpAny (model X.prog X.w) X.A (call (.builtin id) (v :: us)) (EP X pins σ Q) X.xe s
section
variable {X : Cx} {a b : Expr} {ta tb : TE} {pos : Pos}
theorem IxR.or {r r' : R2} (h : IxR X r) (h' : IxR X r') : IxR X (fun x y H Q => r x y H Q ∨ r' x y H Q) := by
  intro value slice pins s σ H x y v u Q I rx ry q hs
  rcases q with q | q
  · exact h value slice pins s σ H x y v u Q I rx ry q hs
  · exact h' value slice pins s σ H x y v u Q I rx ry q hs
theorem pe_ix {r : R2} (hr : IxR X r) (ha : PE X a ta) (hb : PE X b tb) (hs : PlainIx b) : PE X (.Subscript a b pos) (tOp r ta tb) := by
  intro pins s σ H Q I h
  exact Subscript_ (binT ha hb I h fun v u s2 x y H2 I2 rx ry q => hr a b pins s2 σ H2 x y v u Q I2 rx ry q (hs _ _))

def rIxL (K : PySem.W.Frag) : R2 := fun x y H Q => ∃ p xs i v, x = .ref p ∧ y = .int i ∧ SqL K H p xs ∧ atI xs i = some v ∧ Q v H
def rIxT (K : PySem.W.Frag) : R2 := fun x y H Q => ∃ p xs i v, x = .ref p ∧ y = .int i ∧ SqT K H p xs ∧ atI xs i = some v ∧ Q v H
def rIxS : R2 := fun x y H Q => ∃ z i c, x = .str z ∧ y = .int i ∧ z.length ≤ sizeLine ∧ atI z.cps.toList i = some c ∧ Q (.str ⟨#[c]⟩) H
theorem ix_list : IxR X (rIxL X.K) := by
  intro value slice pins s σ H x y v u Q I rx ry h hs
  obtain ⟨p, xs, i, z, rfl, rfl, hq, he, q⟩ := h
  cases rx
  obtain ⟨t, rfl⟩ := ry
  obtain ⟨its, r, pl, hz⟩ := I.list hq
  obtain ⟨j, h1, h2, h3, h4, h5⟩ := atI_get he
  obtain ⟨w, ew, rw'⟩ := r.get h2
  have hl := r.length
  have hn := line63
  have fin : EP X pins σ Q w s := ⟨z, H, I, rw', q⟩
  by_cases h0 : 0 ≤ i
  · have hj : i.toNat = j := by
      rw [seqIndex_of h0 h5] at h1
      exact Option.some.inj h1
    exact item_listR pl.isList h0 (by omega) (by rw [hj]; simpa using ew) fin hs
  · have hj : (i + (its.toArray.size : Int)).toNat = j := by
      rw [seqIndex_neg (by omega) h4] at h1
      rw [List.size_toArray, ← hl]
      exact Option.some.inj h1
    exact subscriptTail_builtinR (x := w) pl.isList.typeIs slot_list_getitem.lookup
      (wpAny_getItem_list_neg (Q := fun r s' => r = w ∧ EP X pins σ Q r s') pl.isList (by omega) (by rw [List.size_toArray] <;> omega) (by omega) (by rw [hj]; simpa using ew) ⟨rfl, fin⟩) hs
theorem ix_tup : IxR X (rIxT X.K) := by
  intro value slice pins s σ H x y v u Q I rx ry h hs
  obtain ⟨p, xs, i, z, rfl, rfl, hq, he, q⟩ := h
  cases rx
  obtain ⟨t, rfl⟩ := ry
  obtain ⟨its, r, pl, hz⟩ := I.tuple hq
  obtain ⟨j, h1, h2, h3, h4, h5⟩ := atI_get he
  obtain ⟨w, ew, rw'⟩ := r.get h2
  have hl := r.length
  have hn := line63
  have fin : EP X pins σ Q w s := ⟨z, H, I, rw', q⟩
  exact subscriptTail_builtinR (x := w) pl.typeIs slot_tuple_getitem.lookup
    (getItem_tuple (j := j) (Q := fun r s' => r = w ∧ EP X pins σ Q r s') pl (by omega) (by omega) (by rw [List.size_toArray, ← hl]; exact h1) (by simpa using ew) ⟨rfl, fin⟩) hs
theorem ix_str : IxR X rIxS := by
  intro value slice pins s σ H x y v u Q I rx ry h hs
  obtain ⟨z, i, c, rfl, rfl, hz, he, q⟩ := h
  obtain ⟨t, rfl⟩ := rx
  obtain ⟨t', rfl⟩ := ry
  obtain ⟨j, h1, h2, h3, h4, h5⟩ := atI_get he
  have hl : z.cps.toList.length = z.length := by simp [Str.length]
  rw [hl] at h1 h4 h5
  have hn := line63
  exact tail_any (typeIs_str s z t) slot_str_getitem.lookup (getItem_str (c := c) (by
    have e1 : decide (i < -(2 ^ 63 : Int)) = false := decide_eq_false (by omega)
    have e2 : decide (i ≥ 2 ^ 63) = false := decide_eq_false (by omega)
    rw [e1, e2, Bool.or_false]) (by rw [h1]; simpa using h2) ⟨.str ⟨#[c]⟩, H, I.tok _, ⟨_, rfl⟩, q⟩) hs
def rIx (K : PySem.W.Frag) : R2 := fun x y H Q => rIxL K x y H Q ∨ rIxT K x y H Q ∨ rIxS x y H Q
theorem ix_seq : IxR X (rIx X.K) := ix_list.or (ix_tup.or ix_str)





def tyV (K : PySem.W.Frag) (T : String) (x : V) (H : Hp) : Prop := match x with
  | .str _ => T = "str"
  | .int _ => T = "int"
  | .ref p => (T = "list" ∧ ∃ xs, SqL K H p xs) ∨ (T = "tuple" ∧ ∃ o, K.lookup p = some o ∧ o.cls = .type "tuple" ∧ o.dict = none) ∨
      (T = "dict" ∧ ((∃ kvs, H p = some (.dK kvs)) ∨ ∃ kvs, H p = some (.dT kvs))) ∨ (T = "set" ∧ ∃ S n, H p = some (.set S n))
  | _ => False
theorem tyV_is {pins : List (Addr × Obj)} {σ : St} {H : Hp} {s : Shared} {T : String} {x : V} {v : Value} (I : Inv X pins σ H s) (r : RelV x v) (ty : tyV X.K T x H) :
    s.TypeIs v T ∧ ∀ a, v = .ref a → ∃ ob, s.heap.get? a = some ob ∧ ob.dict = none := by
  cases x with
  | str z =>
    obtain ⟨t, rfl⟩ := r
    cases (show T = "str" from ty)
    exact ⟨typeIs_str s z t, fun _ e => nomatch e⟩
  | int i =>
    obtain ⟨t, rfl⟩ := r
    cases (show T = "int" from ty)
    exact ⟨typeIs_int s i t, fun _ e => nomatch e⟩
  | ref p =>
    cases r
    rcases ty with ⟨rfl, xs, hq⟩ | ⟨rfl, o, hk, hc, hd⟩ | ⟨rfl, hk⟩ | ⟨rfl, S, n, hk⟩
    · obtain ⟨its, _, pl, _⟩ := I.list hq
      refine ⟨pl.isList.typeIs, fun a e => ?_⟩
      cases e
      obtain ⟨o, n, e, c, hd, _⟩ := pl
      exact ⟨o, e, hd⟩
    · refine ⟨⟨o, I.kIn p o hk, hc⟩, fun a e => ?_⟩
      cases e
      exact ⟨o, I.kIn _ o hk, hd⟩
    · have z : ∃ o, s.heap.get? p = some o ∧ o.ExactDict := by
        rcases hk with ⟨kvs, hk⟩ | ⟨kvs, hk⟩
        · obtain ⟨_, _, _, _, o, _, _, e, ex, _⟩ := I.hok p _ hk
          exact ⟨o, e, ex⟩
        · obtain ⟨_, _, _, _, o, _, _, e, ex, _⟩ := I.hok p _ hk
          exact ⟨o, e, ex⟩
      obtain ⟨o, e, ex⟩ := z
      refine ⟨⟨o, e, ex.1⟩, fun a e2 => ?_⟩
      cases e2
      exact ⟨o, e, ex.2.1⟩
    · obtain ⟨o, _, _, _, e, ex, _⟩ := I.hok p _ hk
      refine ⟨⟨o, e, ex.1⟩, fun a e2 => ?_⟩
      cases e2
      exact ⟨o, e, ex.2.1⟩
  | _ => exact False.elim ty
def tBM (K : PySem.W.Frag) (T : String) (r : V → List V → Hp → VK → Prop) (to : TE) (t : TA) : TE := fun σ H Q => to σ H fun x H1 => tyV K T x H1 ∧ t σ H1 fun xs H2 => r x xs H2 Q
variable {o e : Expr} {es : List Expr} {to : TE} {t : TA} {name : Str} {apos cpos : Pos} {T id : String} {r : V → List V → Hp → VK → Prop}
theorem pe_bm (pa : PlainAttrs T) (slot : Slot T name id) (hty : typeOf (.builtin id) = pure (.type "method_descriptor")) (hm : MtR X id r) (ho : PE X o to) (ha : PA X (e :: es) t)
    (hbase : attributeBase o name X.env (eval o X.env) = eval o X.env := by rfl)
    (hfew : ((backTo cpos (starEach (e :: es) X.env)).all (fun x => !x.1) && (backToKw cpos (keywordEach [] X.env)).all (fun x => x.1.isSome)
      && decide ((e :: es).length + ([] : List Keyword).length + (if ([] : List Keyword).isEmpty then 0 else 1) < 30)) = true := by rfl)
    (hline : (apos.endLine == cpos.line) = true := by rfl) (hs : starEach (e :: es) X.env = (false, eval e X.env) :: starEach es X.env := by rfl) (hplain : (backTo cpos (starEach es X.env)).any (·.1) = false := by rfl) :
    PE X (.Call (.Attribute o name apos) (e :: es) [] cpos) (tBM X.K T r to t) := by
  intro pins s σ H Q I h
  refine wpAny_Call_method_late hbase hfew hline rfl (thn (ho pins s σ H _ I h) fun v s1 ⟨x, H1, I1, r1, ty, q1⟩ => ?_)
  obtain ⟨h1, h2⟩ := tyV_is I1 r1 ty
  refine ⟨T, id, pa, slot, hty, h1, h2, ?_⟩
  have hA := ha cpos pins s1 σ H1 _ I1 q1
  rw [hs] at hA ⊢
  refine Calls.callWith_builtin (by show (false || (backTo cpos (starEach es X.env)).any (·.1)) = false; rw [hplain] <;> rfl) (Calls.evalArgs_plain ?_)
  exact thn hA fun us s2 ⟨vs, H2, I2, r2, q2⟩ => hm pins s2 σ H2 x vs v us Q I2 r1 r2 q2
/- xs.append(e), list.index on a module's tuple .. are MtR facts of 06m -/
end
end L2

namespace L2
open PySem PySem.Spec PyProof.Rows

def MtM (X : Cx) (id : String) (r : V → List V → Hp → VK → Prop) : Prop :=
  ∀ (pins : List (Addr × Obj)) (s : Shared) (σ : St) (H : Hp) (x : V) (xs : List V) (v : Value) (us : List Value) (Q : VK), Inv X pins σ H s → RelV x v → Vals xs us → r x xs H Q →
    wpAny (model X.prog X.w) X.A (call (.builtin id) (v :: us)) (EP X pins σ Q) X.xe s

theorem Vals.one : ∀ {x : V} {us : List Value}, Vals [x] us → ∃ u, us = [u] ∧ RelV x u
  | _, _, .cons r .nil => ⟨_, rfl, r⟩
theorem Vals.two : ∀ {x y : V} {us : List Value}, Vals [x, y] us → ∃ u v, us = [u, v] ∧ RelV x u ∧ RelV y v
  | _, _, _, .cons r (.cons q .nil) => ⟨_, _, rfl, r, q⟩
theorem Vals.zero : ∀ {us : List Value}, Vals [] us → us = []
  | _, .nil => rfl

section
variable {X : Cx} {pins : List (Addr × Obj)} {σ : St} {H : Hp} {s : Shared} {l b : Addr} {xs ys zs : List V}

theorem Inv.lset {its its' : List Value} {n : Nat} {f : Array Value → Array Value} {t' : Nat} (I : Inv X pins σ H s) (hH : H l = some (.lst xs))
    (e : s.heap.get? l = some { cls := .type "list", data := .seq its.toArray n }) (hf : f its.toArray = its'.toArray) (hv : Vals ys its') (hz : ys.length ≤ sizeLine) :
    Inv X pins σ (upd H l (.lst ys)) { s with heap := s.heap.update l (Obj.mapSeq f), toks := t' } := by
  have q := PySem.IsL.update e f
  rw [hf] at q
  refine I.write (x := l) (e := l) (by rw [hH]; exact trivial) (.inl rfl) (fun b' u hb hu => (Heap.get?_update_other s.heap (Obj.mapSeq f) (Ne.symm hb)).trans hu) ⟨_, q⟩ ?_
  exact ⟨hz, its', _, hv, q⟩
theorem Inv.lnew {its : List Value} {t' : Nat} (I : Inv X pins σ H s) (hv : Vals ys its) (hz : ys.length ≤ sizeLine) :
    Inv X pins σ (upd H s.heap.objs.size (.lst ys)) { s with heap := s.heap.push { cls := .type "list", data := .seq its.toArray }, toks := t' } :=
  I.laid (fun _ _ q => Heap.get?_push_of_some _ q) (Nat.le_refl _) ⟨hz, its, 0, hv, Heap.get?_push_size _ rfl⟩
theorem Inv.fresh (I : Inv X pins σ H s) : H s.heap.objs.size = none := I.hok.fresh (Nat.le_refl _)
theorem Inv.lstM (I : Inv X pins σ H s) (hH : H l = some (.lst xs)) : xs.length ≤ sizeLine ∧ ∃ (its : List Value) (n : Nat), Vals xs its ∧ xs.length = its.length ∧ s.heap.get? l = some { cls := .type "list", data := .seq its.toArray n } := by
  obtain ⟨z, its, n, r, e⟩ := I.hok l _ hH
  exact ⟨z, its, n, r, r.length, e⟩

end

section
variable {X : Cx}

def rAppend : V → List V → Hp → VK → Prop := fun x vs H Q => ∃ l xs y, x = .ref l ∧ vs = [y] ∧ H l = some (.lst xs) ∧ xs.length < sizeLine ∧ Q .non (upd H l (.lst (xs ++ [y])))
theorem mt_append : MtM X "list.append" rAppend := by
  intro pins s σ H x vs v us Q I rx rv h
  obtain ⟨l, xs, y, rfl, rfl, hH, hz, q⟩ := h
  cases rx
  obtain ⟨u, rfl, ru⟩ := rv.one
  obtain ⟨z, its, n, r, hl, e⟩ := I.lstM hH
  refine call_meets F.slot_list_append ⟨_, e, rfl⟩ F.entry_list_append (F.args_list_append_2 _ _) (PySem.list_append l its.toArray n u (by rw [List.size_toArray]; omega)) ⟨e, ?_⟩
  refine ⟨.non, _, I.lset (its' := its ++ [u]) hH e (by simp) (r.append (.cons ru .nil)) ?_, rfl, q⟩
  rw [List.length_append, List.length_singleton]
  omega







end

section
variable {prog : Program} {w : World} {A : Around} {E : Value → Shared → Prop} {s : Shared}
end

section
variable {X : Cx}
end
end L2

namespace Att
open PySem PySem.W PySem.Calls PyProof.Rows

theorem ints_of_wellAll {P : Params} {h : Heap} : ∀ (ns : List Int) (vs : List Value), WellAll P h vs (ns.map WData.int) → IntsAre vs ns := by
  intro ns
  induction ns with
  | nil =>
    intro vs w
    rw [List.map_nil] at w
    cases w
    exact .nil
  | cons n ns ih =>
    intro vs w
    rw [List.map_cons] at w
    cases w with
    | cons a b =>
      cases a
      exact .cons _ _ (ih _ b)

theorem script_of {l : OpenLaw} {n : Nat} (hn : l.most = some n) {P : Params} {h : Heap} {args : List WData} {vals : List Value}
    (hpre : l.row.toRowW.claim.pre args = true) (hwl : WellAll P h vals args) :
    ∃ a vs ns, vals = [Value.ref a] ∧ args = [WData.list (ns.map WData.int)] ∧ h.get? a = some { cls := .type "list", data := .seq vs.toArray } ∧ IntsAre vs ns ∧ ns.length ≤ n := by
  have hsh : WShape.hasAll [] args [.list .int] = true := (pre_splitW hpre).1
  have hc : l.pre.holds [] { args := args } = true := (pre_splitW hpre).2
  obtain ⟨d, r, rfl, h1, h2⟩ := hasAllW_cons hsh
  obtain rfl := hasAllW_nil h2
  obtain ⟨xs, rfl, h3⟩ := hasW_list h1
  obtain ⟨ns, rfl⟩ := items_int h3
  have hlen : ns.length ≤ n := by
    unfold OpenLaw.pre at hc
    have h4 : (WTm.not (.lt (.lit (.int (n : Int))) (.len (.arg 0)))).holds [] { args := [.list (ns.map .int)] } = true := by
      have h4 := (holds_andW hc).1
      rw [hn] at h4
      exact h4
    have h5 := condW_of h4 (w_not (w_lt w_lit (w_len_list (w_arg rfl))))
    rw [List.length_map] at h5
    refine Nat.le_of_not_lt fun q => ?_
    have q' : (n : Int) < ((ns.length : Nat) : Int) := by omega
    first
      | (rw [decide_eq_true q'] at h5; exact absurd h5 (by decide))
      | (simp at h5; omega)
  cases hwl with
  | cons w1 w2 =>
    cases w2
    cases w1 with
    | list ho hall => exact ⟨_, _, ns, rfl, rfl, ho, ints_of_wellAll ns _ hall, hlen⟩

theorem post_true (l : OpenLaw) (args : List WData) : l.row.toRowW.claim.post args (.bool true) args = true :=
  postW_of (r := l.row.toRowW) (X := (true == true))
    (show WShape.has [] (.bool true) .bool = true by first | rfl | decide | simp [WShape.has, WShape.arms, WShape.armsAll])
    (show (WTm.eq .res (.lit (.bool true))).value [] { args := args, res := some (.bool true), after := args } = some (.bool (true == true)) from w_eq_bool (w_res rfl) w_lit) rfl


theorem attach_call {l : OpenLaw} {n : Nat} {q : Program} {loose : List Str} {XP : (Str → Option Value) → Heap → Prop} {YP : World → Heap → Prop} {d : DefRec}
    (hn : l.most = some n) (hdf : d.params.defaults = [])
    (call : ∀ (w : World) (s₀ s₁ : Shared) (mg mb : Str → Option Value) (fa : Addr) (o : Obj) (pm cd doc : Value) (a : Addr) (vs : List Value) (ns : List Int),
      Ground q loose [] XP w s₀ mg mb s₁.heap → YP w s₁.heap →
      s₁.heap.get? fa = some o → o.data = .func (docDef d.name d.params d.body d.scope pm cd doc) → s₁.heap.CodeRec cd d.name → mg d.name = some (.ref fa) →
      s₁.heap.get? a = some { cls := .type "list", data := .seq vs.toArray } → IntsAre vs ns → ns.length ≤ n → s₁.gens = #[] →
      codeAny (model l.prog w) callerA (.call (.ref fa) ⟨[.ref a], []⟩) (fun r s' => r = .ok (.ret (.bool true)) ∧ OldK s₁.heap s'.heap ∧ s'.os = s₁.os ∧ AllBare s'.gens) s₁) :
    WalkO q loose XP YP l.row.toRowW d [] (fun f vs => PySem.call f vs) := by
  intro w s₀ s₁ mg mb G Y fa o pm cd doc dV kV ho hd hcd hD hmg hg args vals as hpre hlay hrd hwl hlo
  obtain rfl : dV = .none := Dflts.none hD hdf
  obtain rfl : kV = .none := Dflts.noKw hD
  obtain ⟨a, vs, ns, rfl, rfl, hobj, hints, hlen⟩ := script_of hn hpre hwl
  refine enter_call (codeAny_mono (call w s₀ s₁ mg mb fa o pm cd doc a vs ns G Y ho (fd_plain hd) hcd hmg hobj hints hlen hg) fun r s' hq => ?_)
  obtain ⟨rfl, h2, h3, h4⟩ := hq
  exact ⟨.inl ⟨.bool true, .bool true, [], rfl, fun _ => rfl, .bool true, post_true l _, fun _ => ⟨List.Pairwise.nil, fun _ hm => (nomatch hm)⟩⟩, h2, h3, h4⟩


section
variable {prog : Program} {w : World} {A : Around} {E : Value → Shared → Prop} {s : Shared} {K : Frag}






end
end Att

namespace L2
open PySem PySem.Spec PyProof.Rows

theorem vals_ints : ∀ {vs : List Value} {ns : List Int}, IntsAre vs ns → Vals (ns.map V.int) vs
  | _, _, .nil => .nil
  | _, _, .cons n t h => .cons ⟨t, rfl⟩ (vals_ints h)

def Only (H : Hp) : Prop := ∀ b, H b = none ∨ ∃ o xs, H b = some (.frz o (.lst xs))

theorem law_call {P : Program} {w : World} {K : PySem.W.Frag} {mg mb : Str → Option Value} {CX : CXT} {k : Nat} {fa a : Addr} {fd : FuncData} {x : Str} {sp : Sp} {s₁ : Shared} {vs : List Value} {ns : List Int}
    (KX : K.In s₁.heap) (hns : s₁.heap.Ns mainGlobals mg) (hb : s₁.heap.Ns builtinsNs mb) (hbb : ∀ x : Str, x ≠ "__name__" → mb x = bootBuiltins x) (hlim : s₁.heap.NoLimit) (hg : s₁.gens = #[])
    (ha : s₁.heap.get? a = some { cls := .type "list", data := .seq vs.toArray }) (hi : IntsAre vs ns) (hl : ns.length ≤ sizeLine) (hr : Room k callerA)
    (F : ∀ base : Heap, K.In base → base.Ns mainGlobals mg → FnOk P w K mg base CX k fa fd [x] sp) (hbind : ∀ (s : Shared) (u : Value), BindsTo s fd ⟨[u], []⟩ [(x, u)])
    (hsp : ∀ H : Hp, Only H → SqL K H a (ns.map V.int) → sp [.ref a] H (fun v _ => v = .bl true) fun _ _ _ => False)
    (hCX : ∀ H e s', CX [] H s₁ (fun _ _ _ => False) e s' → False) :
    codeAny (model P w) callerA (.call (.ref fa) ⟨[.ref a], []⟩) (fun r s' => r = .ok (.ret (.bool true)) ∧ OldK s₁.heap s'.heap ∧ s'.os = s₁.os ∧ AllBare s'.gens) s₁ := by
  have rv := vals_ints hi
  have lenV := hi.length
  -- from an abstract heap in which nothing but the script may be tracked
  have core : ∀ H : Hp, Only H → SqL K H a (ns.map V.int) → HOk P w H s₁.heap → (∀ b, H b ≠ none → b = a) → (H a ≠ none → K.lookup a = none) →
      codeAny (model P w) callerA (.call (.ref fa) ⟨[.ref a], []⟩) (fun r s' => r = .ok (.ret (.bool true)) ∧ OldK s₁.heap s'.heap ∧ s'.os = s₁.os ∧ AllBare s'.gens) s₁ := by
    intro H hO hS hok hA hK
    have base_of : ∀ {b : Addr} {o : Obj}, s₁.heap.get? b = some o → H b = none → (hidT s₁.heap H).get? b = some o := fun e n => hidT_get e n
    have noA : ∀ {b : Addr} {o : Obj} {es : Array DictEntry} {ep : Nat}, s₁.heap.get? b = some o → o.data = .dict es ep → H b = none := fun {b o es ep} e d => by
      cases q : H b with
      | none => rfl
      | some u =>
        have e' : b = a := hA b (by rw [q]; simp)
        subst e'
        rw [ha] at e; cases e
        have d' : Data.seq vs.toArray _ = Data.dict es ep := d
        cases d'
    have nsK : ∀ {b : Addr} {m : Str → Option Value}, s₁.heap.Ns b m → (hidT s₁.heap H).Ns b m := fun {b m} ⟨o, es, ep, e, d, r⟩ => ⟨o, es, ep, base_of e (noA e d), d, r⟩
    have hKb : K.In (hidT s₁.heap H) := fun b o e => base_of (KX b o e) (by
      cases q : H b with
      | none => rfl
      | some u =>
        have e' : b = a := hA b (by rw [q]; simp)
        subst e'
        rw [hK (by rw [q]; simp)] at e; cases e)
    have hM : Mod K mg (hidT s₁.heap H) := ⟨hKb, nsK hns, ⟨mb, nsK hb, hbb⟩, let ⟨mc, h1, h2⟩ := hlim; ⟨mc, nsK h1, h2⟩⟩
    have e0 : Env0 P w K mg (hidT s₁.heap H) callerA [] s₁ H := ⟨rfl, hM, fun b o e => of_hidT e, Nat.le_of_eq (hidT_size _ _), trivial, fun b hb => absurd (show b ∈ ([] : List Addr) from hb) (by simp), hok, .of_eq hg⟩
    refine codeAny_mono ((F _ hKb (nsK hns)).run callerA [] s₁ H ⟨[.ref a], []⟩ [.ref a] [.ref a] _ _ hr e0 (hbind s₁ (.ref a)) (.cons rfl .nil) (hsp H hO hS)) fun r s' h => ?_
    cases r with
    | error e => exact (hCX H e s' h).elim
    | ok fl =>
      cases fl with
      | next => exact False.elim h
      | brk => exact False.elim h
      | cont => exact False.elim h
      | ret u =>
        obtain ⟨v, H', os, bare, un, hok', r', q⟩ := h
        have q' : v = .bl true := q
        subst q'
        obtain rfl : u = Value.bool true := r'
        refine ⟨rfl, OldK.of_keep fun b o e => ?_, os, bare⟩
        cases q : H b with
        | none => exact un.keep b o e q (by intro z; exact absurd (show b ∈ ([] : List Addr) from z) (by simp)) (by simp)
        | some u =>
          rcases hO b with z | ⟨ob, xs, z⟩
          · rw [q] at z; cases z
          · have z2 := un.frzs b ob _ z
            obtain ⟨e1, _⟩ := hok b _ z
            obtain ⟨e2, _⟩ := hok' b _ z2
            rw [e] at e1; cases e1
            exact e2
  cases hk : K.lookup a with
  | some o =>
    -- the script is one of the module's own objects
    have e := KX a o hk
    rw [ha] at e
    cases e
    refine core (fun _ => none) (fun _ => .inl rfl) (.inr ⟨_, vs.toArray, _, hk, rfl, rfl, rfl, by rw [List.size_toArray, lenV]; exact hl, by simpa using rv⟩) (fun b u z => by have z' : (none : Option HO) = some u := z; cases z') (fun b z => absurd rfl z) fun z => absurd rfl z
  | none =>
    refine core (fun b => if b = a then some (.frz { cls := .type "list", data := .seq vs.toArray } (.lst (ns.map V.int))) else none) (fun b => ?_) (.inl (.inr ⟨{ cls := .type "list", data := .seq vs.toArray }, if_pos rfl⟩)) (fun b u z => ?_) (fun b z => ?_) fun _ => hk
    · by_cases hb : b = a
      · exact .inr ⟨_, _, if_pos hb⟩
      · exact .inl (if_neg hb)
    · by_cases hb : b = a
      · have z' := (if_pos hb).symm.trans z
        cases z'
        subst hb
        exact ⟨ha, by rw [List.length_map]; exact hl, vs, _, rv, ha⟩
      · have z' := (if_neg hb).symm.trans z
        cases z'
    · by_cases hb : b = a
      · exact hb
      · exact absurd (if_neg hb) z
end L2

namespace L2
open PySem PySem.Spec PyProof.Rows


theorem walk_of {l : PySem.W.OpenLaw} {n k : Nat} {q : Program} {loose : List Str} {XP : (Str → Option Value) → Heap → Prop} {YP : World → Heap → Prop} {d : DefRec} {K : Params → PySem.W.Frag} {CX : World → CXT} {sp : World → Sp} {x : Str}
    (hn : l.most = some n) (hn2 : n ≤ sizeLine) (hdf : d.params.defaults = []) (hr : Room k callerA)
    (hY : ∀ (w : World) (h : Heap), YP w h → (K w.params).In h)
    (F : ∀ (w : World) (mg : Str → Option Value) (fa : Addr) (h : Heap), (K w.params).In h → h.Ns mainGlobals mg → mg d.name = some (.ref fa) →
      ∃ fd : FuncData, (∀ (s : Shared) (u : Value), BindsTo s fd ⟨[u], []⟩ [(x, u)]) ∧
        ∀ base : Heap, (K w.params).In base → base.Ns mainGlobals mg → FnOk l.prog w (K w.params) mg base (CX w) k fa fd [x] (sp w))
    (hsp : ∀ (w : World) (H : Hp) (a : Addr) (ns : List Int), ns.length ≤ n → Only H → SqL (K w.params) H a (ns.map V.int) → sp w [.ref a] H (fun v _ => v = .bl true) fun _ _ _ => False)
    (hCX : ∀ (w : World) (H : Hp) (s : Shared) (e : Value) (s' : Shared), CX w [] H s (fun _ _ _ => False) e s' → False) :
    PySem.W.WalkO q loose XP YP l.row.toRowW d [] (fun f vs => PySem.call f vs) := by
  refine Att.attach_call hn hdf fun w s₀ s₁ mg mb fa o pm cd doc a vs ns G Y ho hd hcd hmg hobj hints hlen hg => ?_
  have KX := hY w _ Y
  obtain ⟨fd, hb, hF⟩ := F w mg fa _ KX G.T.g hmg
  exact law_call KX G.T.g G.T.b G.T.builtins G.T.nolimit hg hobj hints (Nat.le_trans hlen hn2) hr hF hb (fun H hO hS => hsp w H a ns hlen hO hS) fun H e s' => hCX w H s₁ e s'
end L2

/- THE LAST THEOREM (shape; LID, My.* are yours):
   My.Adr: a structure of the addresses that your layer names (classes, functions); My.Txt K t: a structure (Prop) of the equations over K;
   My.txt_mk : {K} {implicit addresses ..} (e1 : nsIn K mainGlobals "law" = some (some (.ref f))) (e2 : K.lookup f = some ⟨oc, od, .func (fnOf "law" "law" params body scope dV kV doc pm an cdv ct), sl⟩) (e3 : codeIn K cdv "law" = true) .. : ∃ t, My.Txt K t

(the tactic k_is has no namespace: write k_is) -/

namespace L2
open PySem PySem.Spec PyProof.Rows

def inClass (s : Stmt) (j : Nat) : Stmt := match s with
  | .ClassDef _ _ _ body _ _ _ _ _ _ _ => body.getD j (.Pass ⟨0, 0, 0, 0⟩)
  | _ => .Pass ⟨0, 0, 0, 0⟩
def defArgs (s : Stmt) : Arguments := match s with
  | .FunctionDef _ a _ _ _ _ _ _ _ _ => a
  | _ => { posonlyargs := [], args := [], vararg := none, kwonlyargs := [], kw_defaults := [], kwarg := none, defaults := [] }
def defBody (s : Stmt) : List Stmt := match s with
  | .FunctionDef _ _ b _ _ _ _ _ _ _ => b
  | _ => []
def defScope (s : Stmt) : Scope := match s with
  | .FunctionDef _ _ _ _ _ _ sc _ _ _ => sc
  | _ => { kind := .function, names := [], isGenerator := false, isCoroutine := false }

abbrev CX0 : CXT := fun _ _ _ _ _ _ => False
abbrev E0 : XK := fun _ _ _ => False
theorem pass0 {X : Cx} : Passes CX0 X E0 := fun _ _ _ _ _ _ _ h => h.elim

structure Fun (K : PySem.W.Frag) (x qual : Str) (st : Stmt) (f : Addr) (fd : FuncData) : Prop where
  ex : ∃ (oc : Value) (od : Option Addr) (kV doc pm : Value) (an : Option Addr) (cdv ct : Value) (osl : Array (Option Value)),
    fd = PySem.W.fnOf x qual (defArgs st) (defBody st) (defScope st) .none kV doc pm an cdv ct ∧ K.lookup f = some ⟨oc, od, .func fd, osl⟩ ∧ PySem.W.codeIn K cdv qual = true
  kp : PySem.W.keepIn K (.ref f) = true
section
variable {P : Program} {w : World} {K : PySem.W.Frag} {mg : Str → Option Value} {base : Heap}
theorem Fun.ok {x qual : Str} {st : Stmt} {f : Addr} {fd : FuncData} {N ps : List Str} {k : Nat} {sp : Sp} (F : Fun K x qual st f fd) (S : FnScope N ps (defScope st)) (len : ∀ vs H Q E, sp vs H Q E → vs.length = ps.length)
    (hbody : ∀ (cdv : Value) (A : Around) (outer : List Env) (s : Shared) (H : Hp) (vs : List V) (Q : VK) (E : XK), Room k (A.deeper (envOfC qual (defScope st) s.heap.objs.size f cdv)) → sp vs H Q E →
      ∃ t, PSs (cxOf CX0 P w K mg base N qual (defScope st) f cdv A outer s H E).nox (defBody st) t ∧ t { nx := fun _ H' => Q .non H', rt := Q } (start N vs) H) : FnOk P w K mg base CX0 (k + 1) f fd ps sp := by
  obtain ⟨oc, od, kV, doc, pm, an, cdv, ct, osl, rfl, lk, hcd⟩ := F.ex
  refine fn_of lk hcd S len fun A outer s H vs Q E hr hsp => ?_
  obtain ⟨t, h, q⟩ := hbody cdv A outer s H vs Q E hr hsp
  exact ⟨t, h.nox, q⟩
theorem Fun.binds {x qual : Str} {st : Stmt} {f : Addr} {fd : FuncData} {ps : List Str} (F : Fun K x qual st f fd)
    (h : ∀ (kV doc pm : Value) (an : Option Addr) (cdv ct : Value) (us : List Value), us.length = ps.length → bindArgs (PySem.W.fnOf x qual (defArgs st) (defBody st) (defScope st) .none kV doc pm an cdv ct) ⟨us, []⟩ = pure (ps.zip us)) : Binds K fd ps [] := by
  obtain ⟨oc, od, kV, doc, pm, an, cdv, ct, osl, rfl, lk, hcd⟩ := F.ex
  exact .all (h kV doc pm an cdv ct)
theorem fun_mk {x qual : Str} {st : Stmt} {f : Addr} {oc : Value} {od an : Option Addr} {osl : Array (Option Value)} {kV doc pm cdv ct : Value} (l : K.lookup f = some ⟨oc, od, .func (PySem.W.fnOf x qual (defArgs st) (defBody st) (defScope st) .none kV doc pm an cdv ct), osl⟩)
    (c : PySem.W.codeIn K cdv qual = true) (k : PySem.W.keepIn K (.ref f) = true) : Fun K x qual st f (PySem.W.fnOf x qual (defArgs st) (defBody st) (defScope st) .none kV doc pm an cdv ct) := ⟨⟨oc, od, kV, doc, pm, an, cdv, ct, osl, rfl, l, c⟩, k⟩
end

section
variable {X : Cx}
end

theorem iteF {A B : Prop} (h : B) : if false = true then A else B := by
  rw [if_neg Bool.false_ne_true]
  exact h
theorem iteT {A B : Prop} (h : A) : if true = true then A else B := by
  rw [if_pos rfl]
  exact h

def Same (H H' : Hp) : Prop := ∀ b o, H b = some o → H' b = some o
theorem Same.refl (H : Hp) : Same H H := fun _ _ h => h
theorem Same.trans {H H1 H2 : Hp} (a : Same H H1) (b : Same H1 H2) : Same H H2 := fun c o h => b c o (a c o h)
theorem Same.free {H H' : Hp} (e : Same H H') {l : Addr} (h : H' l = Option.none) : H l = Option.none := by
  cases q : H l with
  | none => rfl
  | some o =>
    rw [e l o q] at h
    cases h

end L2

namespace L2
open PySem PySem.Spec PyProof.Rows
open PySem.AutoSeq1 (wpAny_loadPart')
open PySem.SeqAt PySem.MeetsSeq PySem.MeetsSeq2 PySem.MeetsSeq3
theorem list_addQ (l b : Addr) (items items2 : Array Value) (n n2 : Nat) (dd dd2 : Option Addr) (sl sl2 : Array (Option Value)) (hc0 : items.size + items2.size ≤ sizeLine) :
    Meets (Builtin.«list.__add__» ⟨[.ref l, .ref b], []⟩) (fun _ R s => s.heap.get? l = some { cls := .type "list", dict := dd, data := .seq items n, slots := sl } ∧ s.heap.get? b = some { cls := .type "list", dict := dd2, data := .seq items2 n2, slots := sl2 } ∧ R (.ok (.ret (Value.ref s.heap.objs.size))) { s with heap := s.heap.push { cls := Value.type "list", data := Data.seq (items ++ items2) }, toks := s.toks }) :=
  .of_wp fun prog w A R s h => by obtain ⟨hp, g, d, tk, os⟩ := s; obtain ⟨hl, hb, h⟩ := h; have f1 := AutoSeq1.idx_int; have f2 := AutoSeq1.sub_tuple_tuple; have f3 := AutoSeq1.sub_list_list; have f4 := AutoSeq1.sub_tuple_list; have f5 := AutoSeq1.sub_list_tuple; wp_walk using wpAny_loadPart' hl, wpAny_loadPart' hb; exact ⟨_, rfl, h⟩
section
variable {X : Cx}
theorem op_catQ : OpR X (binaryOp .Add) (fun x y H Q => ∃ l b xs zs, x = .ref l ∧ y = .ref b ∧ SqL X.K H l xs ∧ SqL X.K H b zs ∧ xs.length + zs.length ≤ sizeLine ∧ ∀ p, H p = none → Q (.ref p) (upd H p (.lst (xs ++ zs)))) := by
  intro pins s σ H x y v u Q I rx ry h
  obtain ⟨l, b, xs, zs, rfl, rfl, hH, hB, hz, q⟩ := h
  cases rx
  cases ry
  obtain ⟨its, r, ⟨⟨c1, d1, t1, sl1⟩, n, e, k1, k2, k3⟩, z⟩ := I.list hH
  obtain ⟨its2, r2, ⟨⟨c2, d2, t2, sl2⟩, n2, e2, m1, m2, m3⟩, z2⟩ := I.list hB
  simp only at k1 k2 k3 m1 m2 m3
  subst k1 k2 k3 m1 m2 m3
  have hl := r.length
  have hl2 := r2.length
  refine concat_meets ⟨_, e, rfl⟩ ⟨_, e2, rfl⟩ noFill_list_add seq_list_add F.slot_list_add F.entry_list_add (F.args_list_add_2 _ _) (list_addQ l b its.toArray its2.toArray n n2 none none sl1 sl2 (by rw [List.size_toArray, List.size_toArray]; omega)) ⟨e, e2, ?_⟩
  have ea : its.toArray ++ its2.toArray = (its ++ its2).toArray := by simp
  rw [ea]
  exact ⟨.ref _, _, I.lnew (t' := s.toks) (r.append r2) (by rw [List.length_append]; omega), rfl, q _ I.fresh⟩
def TyD (K : PySem.W.Frag) (H : Hp) (x : V) (t : String) : Prop := match x with
  | .non => t = "NoneType"
  | .bl _ => t = "bool"
  | .int _ => t = "int"
  | .str _ => t = "str"
  | .ref a => (t = "list" ∧ ∃ xs, SqL K H a xs) ∨ (t = "tuple" ∧ ∃ xs, SqT K H a xs)
  | _ => False
theorem call_isi {T : String} : CallR X (.builtin "isinstance") (fun xs H Q => ∃ x t b, xs = [x, .ty T] ∧ TyD X.K H x t ∧ PySem.W.kitOne X.K (.type t) (.type T) = some b ∧ Q (.bl b) H) := by
  intro pins s σ H xs us Q I r h
  obtain ⟨x, t, b, rfl, ty, e, q⟩ := h
  obtain ⟨u, u2, rfl, rx, ry⟩ := vals2 r
  cases ry
  have fin : ∀ tk, EP X pins σ Q (.bool b) { s with toks := tk } := fun tk => ⟨.bl b, H, I.tok tk, rfl, q⟩
  cases x with
  | non => cases (show t = "NoneType" from ty); cases rx; exact PySem.W.kia_one PySem.W.kitx_none I.kIn True.intro e (fun z => nomatch z) fin
  | bl y => cases (show t = "bool" from ty); cases rx; exact PySem.W.kia_one PySem.W.kitx_bool I.kIn True.intro e (fun z => nomatch z) fin
  | int i => cases (show t = "int" from ty); obtain ⟨_, rfl⟩ := rx; exact PySem.W.kia_one PySem.W.kitx_int I.kIn True.intro e (fun z => nomatch z) fin
  | str y => cases (show t = "str" from ty); obtain ⟨_, rfl⟩ := rx; exact PySem.W.kia_one PySem.W.kitx_str I.kIn True.intro e (fun z => nomatch z) fin
  | ref a =>
    cases rx
    rcases ty with ⟨rfl, ys, sq⟩ | ⟨rfl, ys, sq⟩
    · obtain ⟨its, _, ⟨o, n, h1, h2, _, _⟩, _⟩ := I.list sq
      exact PySem.W.kia_one PySem.W.kitx_list I.kIn ⟨o, h1, h2⟩ e (fun z => nomatch z) fin
    · obtain ⟨its, _, ⟨o, h1, h2, _⟩, _⟩ := I.tuple sq
      exact PySem.W.kia_one PySem.W.kitx_tuple I.kIn ⟨o, h1, h2⟩ e (fun z => nomatch z) fin
  | byt _ => exact False.elim ty
  | flt _ => exact False.elim ty
  | ty _ => exact False.elim ty
end
end L2
namespace L2
open PySem PySem.Spec PyProof.Rows
open PySem.AutoSeq1 (wpAny_loadPart')
open PySem.SeqAt PySem.MeetsSeq PySem.MeetsSeq2 PySem.MeetsSeq3
theorem tuple_neAt (l b : Addr) (items items2 : Array Value) (n n2 : Nat) (dd dd2 : Option Addr) (sl sl2 : Array (Option Value)) (e : Nat → Bool) :
    Meets (Builtin.«tuple.__ne__» ⟨[.ref l, .ref b], []⟩)
      (fun A R s => s.heap.get? l = some { cls := .type "tuple", dict := dd, data := .seq items n, slots := sl } ∧ s.heap.get? b = some { cls := .type "tuple", dict := dd2, data := .seq items2 n2, slots := sl2 } ∧
        (∀ j (h1 : j < items.size) (h2 : j < items2.size), EqAt A.in1 s items[j] items2[j] (e j)) ∧
        R (.ok (.ret (.bool (!((List.range (min items.size items2.size)).all e && items.size == items2.size))))) s) :=
  .of_wp fun prog w A R s h => by
    obtain ⟨hp, g, d, tk, os⟩ := s; obtain ⟨hl, hb, he, h⟩ := h
    have f2 := AutoSeq1.sub_tuple_tuple
    have hZ : (items.toList.zip items2.toList).length = min items.size items2.size := by simp
    wp_walk using wpAny_loadPart' hl, wpAny_loadPart' hb, wpAny_forIn_list _ (fun rest b s' => b.1 = none ∧ s' = ⟨hp, g, d, tk, os⟩ ∧ ∃ i, rest = (items.toList.zip items2.toList).drop i ∧
      R (.ok (.ret (.bool (!(((List.range (min items.size items2.size)).drop i).all e && items.size == items2.size))))) ⟨hp, g, d, tk, os⟩) _
    case turn =>
      rintro ⟨y, x⟩ rest b s' ⟨hb', rfl, i, hz, hR⟩
      have hlt : i < (items.toList.zip items2.toList).length := by
        rcases Nat.lt_or_ge i (items.toList.zip items2.toList).length with h' | h'
        · exact h'
        · rw [List.drop_of_length_le h'] at hz; cases hz
      have hm : i < min items.size items2.size := hZ ▸ hlt
      have h1 : i < items.size := Nat.lt_of_lt_of_le hm (Nat.min_le_left _ _)
      have h2 : i < items2.size := Nat.lt_of_lt_of_le hm (Nat.min_le_right _ _)
      rw [List.drop_eq_getElem_cons hlt] at hz
      injection hz with hyx hrest
      have hy : y = items[i] := by have := congrArg Prod.fst hyx; simpa using this
      have hx : x = items2[i] := by have := congrArg Prod.snd hyx; simpa using this
      subst hy hx
      have hd : (List.range (min items.size items2.size)).drop i = i :: (List.range (min items.size items2.size)).drop (i + 1) := by simp [List.drop_eq_getElem_cons, hm]
      rw [hd, List.all_cons] at hR
      refine wpAny_bind (he i h1 h2 prog w _ _ ?_)
      cases hy : e i with
      | true =>
        rw [hy] at hR
        wp_walk
        exact ⟨rfl, rfl, i + 1, hrest, by simpa only [Bool.true_and] using hR⟩
      | false =>
        rw [hy] at hR
        wp_walk
        exact ⟨_, rfl, by simpa only [Bool.false_and, Bool.not_false] using hR⟩
    case fin =>
      rintro ⟨b1, b2⟩ s' ⟨hb', rfl, i, hz, hR⟩
      simp only at hb'
      subst hb'
      have hge : min items.size items2.size ≤ i := by
        rcases Nat.lt_or_ge i (items.toList.zip items2.toList).length with h' | h'
        · rw [List.drop_eq_getElem_cons h'] at hz; cases hz
        · exact hZ ▸ h'
      rw [List.drop_of_length_le (by simpa using hge)] at hR
      wp_walk
      exact ⟨_, rfl, by simpa [Builtin.Tuple.tupleCompareSizes, bne] using hR⟩
    case h =>
      exact ⟨rfl, rfl, 0, rfl, by simpa only [List.drop_zero] using h⟩
theorem ne_loopAt (l b : Addr) (items items2 : Array Value) (n n2 : Nat) (dd dd2 : Option Addr) (sl sl2 : Array (Option Value)) (hsz : items.size = items2.size) (e : Nat → Bool) (k : Nat) :
    ∀ i : Nat, items.size - i = k → Meets (Builtin.«list.__eq__.loop» ⟨[.ref l, .ref b, rawInt i, rawInt 3], []⟩)
      (fun A R s => s.heap.get? l = some { cls := .type "list", dict := dd, data := .seq items n, slots := sl } ∧ s.heap.get? b = some { cls := .type "list", dict := dd2, data := .seq items2 n2, slots := sl2 } ∧
        (∀ j (h1 : j < items.size) (h2 : j < items2.size), EqAt A.in1 s items[j] items2[j] (e j)) ∧
        R (.ok (.ret (.bool (!(((List.range items.size).drop i).all e))))) s) := by
  induction k with
  | zero =>
    intro i hk prog w A R s h
    obtain ⟨hp, g, d, tk, os⟩ := s; obtain ⟨hl, hb, he, h⟩ := h
    wp_walk using wpAny_loadPart' hl, wpAny_loadPart' hb
    have hi1 : items[((i : Nat) : Int).toNat]? = none := by simp; omega
    have hi2 : items2[((i : Nat) : Int).toNat]? = none := by simp; omega
    have hd : (List.range items.size).drop i = [] := by simp; omega
    rw [hd] at h
    rw [hi1, hi2]
    wp_walk using wpAny_loadPart' hl, wpAny_loadPart' hb
    show R (.ok (.ret (.bool (items.size != items2.size)))) _
    rw [hsz]
    simpa using h
  | succ k ih =>
    intro i hk prog w A R s h
    obtain ⟨hp, g, d, tk, os⟩ := s; obtain ⟨hl, hb, he, h⟩ := h
    wp_walk using wpAny_loadPart' hl, wpAny_loadPart' hb
    have hlt : i < items.size := by omega
    have hlt2 : i < items2.size := by omega
    have hi1 : items[((i : Nat) : Int).toNat]? = some items[i] := by simp [hlt]
    have hi2 : items2[((i : Nat) : Int).toNat]? = some items2[i] := by simp [hlt2]
    have hd : (List.range items.size).drop i = i :: (List.range items.size).drop (i + 1) := by simp [List.drop_eq_getElem_cons, hlt]
    have hc : ((i : Int) + 1) = ((i + 1 : Nat) : Int) := by push_cast; rfl
    rw [hd, List.all_cons] at h
    rw [hi1, hi2]
    refine wpAny_bind (he i hlt hlt2 prog w _ _ ?_)
    cases hb' : e i with
    | true =>
      rw [hb'] at h
      wp_walk
      rw [hc]
      exact ⟨plainId_quiet plain_eq_loop _, codeAny_builtin entry_eq_loop (by
        rw [Around.under_plainId plain_eq_loop _]
        exact ih (i + 1) (by omega) prog w A R _ ⟨hl, hb, he, by simpa only [Bool.true_and] using h⟩)⟩
    | false =>
      rw [hb'] at h
      wp_walk using wpAny_loadPart' hl, wpAny_loadPart' hb
      rw [hi1, hi2]
      wp_walk
      simpa using h
theorem list_neAt (l b : Addr) (items items2 : Array Value) (n n2 : Nat) (dd dd2 : Option Addr) (sl sl2 : Array (Option Value)) (hsz : items.size = items2.size) (e : Nat → Bool) :
    Meets (Builtin.«list.__ne__» ⟨[.ref l, .ref b], []⟩)
      (fun A R s => s.heap.get? l = some { cls := .type "list", dict := dd, data := .seq items n, slots := sl } ∧ s.heap.get? b = some { cls := .type "list", dict := dd2, data := .seq items2 n2, slots := sl2 } ∧
        (∀ j (h1 : j < items.size) (h2 : j < items2.size), EqAt A.in1 s items[j] items2[j] (e j)) ∧
        R (.ok (.ret (.bool (!((List.range items.size).all e))))) s) := by
  intro prog w A R s h
  obtain ⟨hp, g, d, tk, os⟩ := s; obtain ⟨hl, hb, he, h⟩ := h
  have f3 := AutoSeq1.sub_list_list
  have hne : ¬ (items.size != items2.size) = true := by simp [hsz]
  wp_walk using wpAny_loadPart' hl, wpAny_loadPart' hb
  exact ⟨plainId_quiet plain_eq_loop _, codeAny_builtin entry_eq_loop (by
    rw [Around.under_plainId plain_eq_loop _]
    exact ne_loopAt l b items items2 n n2 dd dd2 sl sl2 hsz e _ 0 rfl prog w A R _ ⟨hl, hb, he, by simpa only [List.drop_zero] using h⟩)⟩
theorem list_ne_lengthsAt (l b : Addr) (items items2 : Array Value) (n n2 : Nat) (dd dd2 : Option Addr) (sl sl2 : Array (Option Value)) (hc0 : (items.size != items2.size) = true) :
    Meets (Builtin.«list.__ne__» ⟨[.ref l, .ref b], []⟩)
      (fun _ R s => s.heap.get? l = some { cls := .type "list", dict := dd, data := .seq items n, slots := sl } ∧ s.heap.get? b = some { cls := .type "list", dict := dd2, data := .seq items2 n2, slots := sl2 } ∧
        R (.ok (.ret (.bool true))) s) :=
  .of_wp fun prog w A R s h => by
    obtain ⟨hp, g, d, tk, os⟩ := s; obtain ⟨hl, hb, h⟩ := h
    have f3 := AutoSeq1.sub_list_list
    wp_walk using wpAny_loadPart' hl, wpAny_loadPart' hb
    exact ⟨_, rfl, h⟩
section
variable {prog : Program} {w : World} {A : Around} {E : Value → Shared → Prop} {s : Shared} {Q : Value → Shared → Prop}
theorem ne_tuples {l b : Addr} {items items2 : Array Value} {e : Nat → Bool} (hl : s.heap.IsTuple l items) (hb : s.heap.IsTuple b items2) (hu : A.units < cLine)
    (he : ∀ j (h1 : j < items.size) (h2 : j < items2.size), EqAt A.in1 s items[j] items2[j] (e j)) (h : Q (.bool (!((List.range (min items.size items2.size)).all e && items.size == items2.size))) s) : wpAny (model prog w) A (compareOp .NotEq (.ref l) (.ref b)) Q E s := by
  obtain ⟨⟨cls, dd, data, sl⟩, ho, hc, n, hd⟩ := id hl
  obtain ⟨⟨cls2, dd2, data2, sl2⟩, ho2, hc2, n2, hd2⟩ := id hb
  simp only at hc hd hc2 hd2
  subst hc hd hc2 hd2
  exact richCompare_meets_room (op := .NotEq) ⟨_, ho, rfl⟩ ⟨_, ho2, rfl⟩ F.slot_tuple_ne F.entry_tuple_ne (F.args_tuple_ne_2 _ _) (tuple_neAt l b items items2 n n2 dd dd2 sl sl2 e) ⟨ho, ho2, he, ⟨(fun x => nomatch x), h⟩⟩ hu
theorem ne_lists {l b : Addr} {items items2 : Array Value} {e : Nat → Bool} (hl : s.heap.IsList l items) (hb : s.heap.IsList b items2) (hsz : items.size = items2.size) (hu : A.units < cLine)
    (he : ∀ j (h1 : j < items.size) (h2 : j < items2.size), EqAt A.in1 s items[j] items2[j] (e j)) (h : Q (.bool (!((List.range items.size).all e))) s) : wpAny (model prog w) A (compareOp .NotEq (.ref l) (.ref b)) Q E s := by
  obtain ⟨⟨cls, dd, data, sl⟩, ho, hc, n, hd⟩ := id hl
  obtain ⟨⟨cls2, dd2, data2, sl2⟩, ho2, hc2, n2, hd2⟩ := id hb
  simp only at hc hd hc2 hd2
  subst hc hd hc2 hd2
  exact richCompare_meets_room (op := .NotEq) ⟨_, ho, rfl⟩ ⟨_, ho2, rfl⟩ F.slot_list_ne F.entry_list_ne (F.args_list_ne_2 _ _) (list_neAt l b items items2 n n2 dd dd2 sl sl2 hsz e) ⟨ho, ho2, he, ⟨(fun x => nomatch x), h⟩⟩ hu
theorem ne_lists_len {l b : Addr} {items items2 : Array Value} (hl : s.heap.IsList l items) (hb : s.heap.IsList b items2) (hsz : (items.size != items2.size) = true) (hu : A.units < cLine)
    (h : Q (.bool true) s) : wpAny (model prog w) A (compareOp .NotEq (.ref l) (.ref b)) Q E s := by
  obtain ⟨⟨cls, dd, data, sl⟩, ho, hc, n, hd⟩ := id hl
  obtain ⟨⟨cls2, dd2, data2, sl2⟩, ho2, hc2, n2, hd2⟩ := id hb
  simp only at hc hd hc2 hd2
  subst hc hd hc2 hd2
  exact richCompare_meets_room (op := .NotEq) ⟨_, ho, rfl⟩ ⟨_, ho2, rfl⟩ F.slot_list_ne F.entry_list_ne (F.args_list_ne_2 _ _) (list_ne_lengthsAt l b items items2 n n2 dd dd2 sl sl2 hsz) ⟨ho, ho2, ⟨(fun x => nomatch x), h⟩⟩ hu
end
end L2
namespace L2
open PySem PySem.Spec PyProof.Rows
abbrev xObj (C t0 : Addr) (dx : Option Addr) : Obj := { cls := .ref C, dict := dx, data := .fields #[.ref t0, .none, .none, .none, .bool false, .none] }
abbrev XO (a C t0 : Addr) (dx : Option Addr) : HO := .ext fun h => h.get? a = some (xObj C t0 dx)
def xV : Sum Int Str → V
  | .inl i => .int i
  | .inr z => .str z
end L2
namespace SM
open PySem PySem.Spec PyProof.Rows L2

inductive Dt where
  | non | bl (b : Bool) | int (i : Int) | str (x : Str) | tup (xs : List Dt) | lst (xs : List Dt) | ref (n : Nat) | ntp (xs : List Int) | err (x f : Str) (i : Sum Int Str)

inductive Ob where
  | lst (xs : List Dt)
  | ins (x : Str) (fs : List (Str × Dt))
  | dk (kvs : List (Key × Dt))
  | dt (kvs : List (List Int × Dt))
  | df (kvs : List (List Int × Dt))

abbrev HI := List Ob
abbrev LI := List (Option Dt)

structure Rg where
  v : List Addr
  z : List Addr
def Rg.no (ρ : Rg) (a : Addr) : Prop := a ∉ ρ.v ∧ a ∉ ρ.z
def Rg.add (ρ : Rg) (p : Addr) : Rg := ⟨ρ.v ++ [p], ρ.z⟩
def Rg.hide (ρ : Rg) (p : Addr) : Rg := ⟨ρ.v, p :: ρ.z⟩
def Rg.nil : Rg := ⟨[], []⟩

def TupAt (K : PySem.W.Frag) (H : Hp) (ρ : Rg) (a : Addr) (vs : List V) : Prop :=
  (ρ.no a ∧ Rd H a (.tup vs)) ∨
    ∃ (o : Obj) (its : Array Value) (n : Nat), K.lookup a = some o ∧ o.cls = .type "tuple" ∧ o.data = .seq its n ∧ its.size ≤ sizeLine ∧ Vals vs its.toList
def LstAt (K : PySem.W.Frag) (H : Hp) (ρ : Rg) (a : Addr) (vs : List V) : Prop :=
  (ρ.no a ∧ Rd H a (.lst vs)) ∨
    ∃ (o : Obj) (its : Array Value) (n : Nat), K.lookup a = some o ∧ o.cls = .type "list" ∧ o.dict = none ∧ o.data = .seq its n ∧ its.size ≤ sizeLine ∧ Vals vs its.toList
theorem TupAt.sq {K : PySem.W.Frag} {H : Hp} {ρ : Rg} {a : Addr} {vs : List V} (h : TupAt K H ρ a vs) : SqT K H a vs := by
  rcases h with ⟨_, h⟩ | h
  · exact .inl h
  · exact .inr h
theorem LstAt.sq {K : PySem.W.Frag} {H : Hp} {ρ : Rg} {a : Addr} {vs : List V} (h : LstAt K H ρ a vs) : SqL K H a vs := by
  rcases h with ⟨_, h⟩ | h
  · exact .inl h
  · exact .inr h

mutual
def RelD (K : PySem.W.Frag) (H : Hp) (ρ : Rg) : Dt → V → Prop
  | .non, v => v = .non
  | .bl b, v => v = .bl b
  | .int i, v => v = .int i
  | .str x, v => v = .str x
  | .tup xs, v => ∃ a vs, v = .ref a ∧ TupAt K H ρ a vs ∧ RelDs K H ρ xs vs
  | .lst xs, v => ∃ a vs, v = .ref a ∧ LstAt K H ρ a vs ∧ RelDs K H ρ xs vs
  | .ref n, v => ∃ a, v = .ref a ∧ ρ.v[n]? = some a
  | .ntp xs, v => ∃ a, v = .ref a ∧ ρ.no a ∧ H a = some (.tup (xs.map V.int))
  | .err x f i, v => ∃ a C t0 dx, v = .ref a ∧ PySem.W.nsIn K mainGlobals x = some (some (.ref C)) ∧ ρ.no a ∧ H a = some (XO a C t0 (some dx)) ∧ ρ.no dx ∧ H dx = some (.xd [(f, xV i)])
def RelDs (K : PySem.W.Frag) (H : Hp) (ρ : Rg) : List Dt → List V → Prop
  | [], vs => vs = []
  | x :: xs, vs => ∃ v r, vs = v :: r ∧ RelD K H ρ x v ∧ RelDs K H ρ xs r
end

structure Ext (ρ ρ' : Rg) (H H' : Hp) : Prop where
  pre : ∃ e, ρ'.v = ρ.v ++ e ∧ ∀ a ∈ e, H a = none
  hid : ρ'.z = ρ.z
  keep : ∀ a o, H a = some o → a ∉ ρ.v → H' a = some o
  live : ∀ a, H' a = none → H a = none
  fz : ∀ a o u, H a = some (.frz o u) → H' a = some (.frz o u)
theorem Ext.refl (ρ : Rg) (H : Hp) : Ext ρ ρ H H := ⟨⟨[], by simp, by simp⟩, rfl, fun _ _ h _ => h, fun _ h => h, fun _ _ _ h => h⟩
theorem Ext.notv {ρ ρ' : Rg} {H H' : Hp} (x : Ext ρ ρ' H H') {a : Addr} {o : HO} (h : H a = some o) (n : a ∉ ρ.v) : a ∉ ρ'.v := by
  obtain ⟨e, e', hn⟩ := x.pre
  rw [e']
  intro hm
  rcases List.mem_append.mp hm with hm | hm
  · exact n hm
  · have := hn a hm
    rw [h] at this
    cases this
theorem Ext.notin {ρ ρ' : Rg} {H H' : Hp} (x : Ext ρ ρ' H H') {a : Addr} {o : HO} (h : H a = some o) (n : ρ.no a) : ρ'.no a := ⟨x.notv h n.1, by rw [x.hid]; exact n.2⟩
theorem Ext.trans {ρ ρ1 ρ2 : Rg} {H H1 H2 : Hp} (x : Ext ρ ρ1 H H1) (y : Ext ρ1 ρ2 H1 H2) : Ext ρ ρ2 H H2 := by
  refine ⟨?_, y.hid.trans x.hid, fun a o h n => y.keep a o (x.keep a o h n) (x.notv h n), fun a h => x.live a (y.live a h), fun a o u h => y.fz a o u (x.fz a o u h)⟩
  obtain ⟨e, q1, h1⟩ := x.pre
  obtain ⟨e', q2, h2⟩ := y.pre
  refine ⟨e ++ e', by rw [q2, q1, List.append_assoc], fun a ha => ?_⟩
  rcases List.mem_append.mp ha with ha | ha
  · exact h1 a ha
  · exact x.live a (h2 a ha)
theorem Ext.get {ρ ρ' : Rg} {H H' : Hp} (x : Ext ρ ρ' H H') {n : Nat} {a : Addr} (h : ρ.v[n]? = some a) : ρ'.v[n]? = some a := by
  obtain ⟨e, e', _⟩ := x.pre
  have := (List.getElem?_eq_some_iff.mp h).1
  rw [e', List.getElem?_append_left this]
  exact h
theorem Ext.fresh {ρ : Rg} {H : Hp} {p : Addr} {o : HO} (h : H p = none) : Ext ρ ρ H (upd H p o) := by
  refine ⟨⟨[], by simp, by simp⟩, rfl, fun a u e _ => ?_, fun a e => ?_, fun a o u e => by rw [upd_ne (ne_of_none e h)]; exact e⟩
  · rw [upd_ne (ne_of_none e h)]
    exact e
  · by_cases ha : a = p
    · subst ha
      exact h
    · rw [upd_ne ha] at e
      exact e
def Nfz (H : Hp) (a : Addr) : Prop := ∀ o u, H a ≠ some (.frz o u)
theorem nfz {H : Hp} {a : Addr} {vs : List V} (h : H a = some (.lst vs)) : Nfz H a := fun _ _ e => by rw [h] at e; cases e
theorem Ext.write {ρ : Rg} {H : Hp} {a : Addr} {o : HO} (ha : a ∈ ρ.v) (nf : Nfz H a) : Ext ρ ρ H (upd H a o) := by
  refine ⟨⟨[], by simp, by simp⟩, rfl, fun b u e n => ?_, fun b e => ?_, fun b q u e => by rw [upd_ne (fun z : b = a => nf q u (by rw [← z]; exact e))]; exact e⟩
  · rw [upd_ne (fun z => n (by rw [z]; exact ha))]
    exact e
  · by_cases hb : b = a
    · subst hb
      rw [upd_same] at e
      cases e
    · rw [upd_ne hb] at e
      exact e

structure Same2 (ρ ρ' : Rg) (H H' : Hp) : Prop where
  no : ∀ a u, H a = some u → ρ.no a → ρ'.no a
  eq : ∀ a u, H a = some u → ρ.no a → H' a = some u
  ix : ∀ (n : Nat) a, ρ.v[n]? = some a → ρ'.v[n]? = some a
  fz : ∀ a o u, H a = some (.frz o u) → H' a = some (.frz o u)
theorem Ext.same {ρ ρ' : Rg} {H H' : Hp} (x : Ext ρ ρ' H H') : Same2 ρ ρ' H H' := ⟨fun _ _ e n => x.notin e n, fun _ _ e n => x.keep _ _ e n.1, fun _ _ e => x.get e, x.fz⟩
theorem Same2.trans {ρ ρ1 ρ2 : Rg} {H H1 H2 : Hp} (x : Same2 ρ ρ1 H H1) (y : Same2 ρ1 ρ2 H1 H2) : Same2 ρ ρ2 H H2 :=
  ⟨fun a u e n => y.no a u (x.eq a u e n) (x.no a u e n), fun a u e n => y.eq a u (x.eq a u e n) (x.no a u e n), fun n a e => y.ix n a (x.ix n a e), fun a o u e => y.fz a o u (x.fz a o u e)⟩
theorem TupAt.same {K : PySem.W.Frag} {ρ ρ' : Rg} {H H' : Hp} (x : Same2 ρ ρ' H H') {a : Addr} {vs : List V} (h : TupAt K H ρ a vs) : TupAt K H' ρ' a vs := by
  rcases h with ⟨n, t | ⟨y, t⟩⟩ | t
  · exact .inl ⟨x.no _ _ t n, .inl (x.eq _ _ t n)⟩
  · exact .inl ⟨x.no _ _ t n, .inr ⟨y, x.eq _ _ t n⟩⟩
  · exact .inr t
theorem LstAt.same {K : PySem.W.Frag} {ρ ρ' : Rg} {H H' : Hp} (x : Same2 ρ ρ' H H') {a : Addr} {vs : List V} (h : LstAt K H ρ a vs) : LstAt K H' ρ' a vs := by
  rcases h with ⟨n, t | ⟨y, t⟩⟩ | t
  · exact .inl ⟨x.no _ _ t n, .inl (x.eq _ _ t n)⟩
  · exact .inl ⟨x.no _ _ t n, .inr ⟨y, x.eq _ _ t n⟩⟩
  · exact .inr t

mutual
theorem RelD.same {K : PySem.W.Frag} {ρ ρ' : Rg} {H H' : Hp} (x : Same2 ρ ρ' H H') : ∀ (d : Dt) {v : V}, RelD K H ρ d v → RelD K H' ρ' d v
  | .non, _, h => by simp only [RelD] at h ⊢; exact h
  | .bl _, _, h => by simp only [RelD] at h ⊢; exact h
  | .int _, _, h => by simp only [RelD] at h ⊢; exact h
  | .str _, _, h => by simp only [RelD] at h ⊢; exact h
  | .tup xs, _, h => by
    simp only [RelD] at h ⊢
    obtain ⟨a, vs, e, t, r⟩ := h
    exact ⟨a, vs, e, t.same x, RelDs.same x xs r⟩
  | .lst xs, _, h => by
    simp only [RelD] at h ⊢
    obtain ⟨a, vs, e, t, r⟩ := h
    exact ⟨a, vs, e, t.same x, RelDs.same x xs r⟩
  | .ref _, _, h => by
    simp only [RelD] at h ⊢
    obtain ⟨a, e, t⟩ := h
    exact ⟨a, e, x.ix _ _ t⟩
  | .ntp _, _, h => by
    simp only [RelD] at h ⊢
    obtain ⟨a, e, n, t⟩ := h
    exact ⟨a, e, x.no _ _ t n, x.eq _ _ t n⟩
  | .err _ _ _, _, h => by
    simp only [RelD] at h ⊢
    obtain ⟨a, C, t0, dx, e, c, n, t, n', t'⟩ := h
    exact ⟨a, C, t0, dx, e, c, x.no _ _ t n, x.eq _ _ t n, x.no _ _ t' n', x.eq _ _ t' n'⟩
theorem RelDs.same {K : PySem.W.Frag} {ρ ρ' : Rg} {H H' : Hp} (x : Same2 ρ ρ' H H') : ∀ (ds : List Dt) {vs : List V}, RelDs K H ρ ds vs → RelDs K H' ρ' ds vs
  | [], _, h => by simp only [RelDs] at h ⊢; exact h
  | d :: ds, _, h => by
    simp only [RelDs] at h ⊢
    obtain ⟨v, r, e, h1, h2⟩ := h
    exact ⟨v, r, e, RelD.same x d h1, RelDs.same x ds h2⟩
end
theorem RelD.ext {K : PySem.W.Frag} {ρ ρ' : Rg} {H H' : Hp} (x : Ext ρ ρ' H H') (d : Dt) {v : V} (h : RelD K H ρ d v) : RelD K H' ρ' d v := RelD.same x.same d h
theorem RelDs.ext {K : PySem.W.Frag} {ρ ρ' : Rg} {H H' : Hp} {ds : List Dt} {vs : List V} (h : RelDs K H ρ ds vs) (x : Ext ρ ρ' H H') : RelDs K H' ρ' ds vs := RelDs.same x.same ds h

section
variable {K : PySem.W.Frag} {H : Hp} {ρ : Rg}
theorem RelDs.nil : RelDs K H ρ [] [] := by simp only [RelDs]
theorem RelDs.cons {d : Dt} {v : V} {ds : List Dt} {vs : List V} (h : RelD K H ρ d v) (r : RelDs K H ρ ds vs) : RelDs K H ρ (d :: ds) (v :: vs) := by
  simp only [RelDs]
  exact ⟨v, vs, rfl, h, r⟩
theorem RelDs.uncons {d : Dt} {ds : List Dt} {vs : List V} (h : RelDs K H ρ (d :: ds) vs) : ∃ v r, vs = v :: r ∧ RelD K H ρ d v ∧ RelDs K H ρ ds r := by
  simpa only [RelDs] using h
theorem RelDs.unnil {vs : List V} (h : RelDs K H ρ [] vs) : vs = [] := by simpa only [RelDs] using h
theorem RelDs.length : ∀ {ds : List Dt} {vs : List V}, RelDs K H ρ ds vs → vs.length = ds.length
  | [], _, h => by rw [h.unnil]; rfl
  | d :: ds, _, h => by
    obtain ⟨v, r, rfl, _, h2⟩ := h.uncons
    rw [List.length_cons, List.length_cons, RelDs.length h2]
theorem RelDs.get : ∀ {ds : List Dt} {vs : List V} {i : Nat} {d : Dt}, RelDs K H ρ ds vs → ds[i]? = some d → ∃ v, vs[i]? = some v ∧ RelD K H ρ d v
  | [], _, _, _, _, e => by simp at e
  | d :: ds, _, 0, _, h, e => by
    obtain ⟨v, r, rfl, h1, _⟩ := h.uncons
    simp at e
    subst e
    exact ⟨v, rfl, h1⟩
  | d :: ds, _, i + 1, d', h, e => by
    obtain ⟨v, r, rfl, _, h2⟩ := h.uncons
    obtain ⟨u, q1, q2⟩ := RelDs.get (i := i) h2 (by simpa using e)
    exact ⟨u, by simpa using q1, q2⟩
theorem RelDs.append : ∀ {ds es : List Dt} {vs us : List V}, RelDs K H ρ ds vs → RelDs K H ρ es us → RelDs K H ρ (ds ++ es) (vs ++ us)
  | [], _, _, _, h, h' => by rw [h.unnil]; exact h'
  | d :: ds, _, _, _, h, h' => by
    obtain ⟨v, r, rfl, h1, h2⟩ := h.uncons
    exact .cons h1 (RelDs.append h2 h')
theorem RelDs.take : ∀ {ds : List Dt} {vs : List V} (n : Nat), RelDs K H ρ ds vs → RelDs K H ρ (ds.take n) (vs.take n)
  | [], _, n, h => by rw [h.unnil]; simp; exact .nil
  | d :: ds, _, 0, h => .nil
  | d :: ds, _, n + 1, h => by
    obtain ⟨v, r, rfl, h1, h2⟩ := h.uncons
    exact .cons h1 (RelDs.take n h2)
theorem RelDs.drop : ∀ {ds : List Dt} {vs : List V} (n : Nat), RelDs K H ρ ds vs → RelDs K H ρ (ds.drop n) (vs.drop n)
  | [], _, n, h => by rw [h.unnil]; simp; exact .nil
  | d :: ds, _, 0, h => h
  | d :: ds, _, n + 1, h => by
    obtain ⟨v, r, rfl, h1, h2⟩ := h.uncons
    exact RelDs.drop n h2
theorem RelDs.ints (ns : List Int) : RelDs K H ρ (ns.map Dt.int) (ns.map V.int) := by
  induction ns with
  | nil => exact .nil
  | cons n ns ih => exact .cons (by simp only [RelD]) ih
theorem rel_int {i : Int} {v : V} : RelD K H ρ (.int i) v ↔ v = .int i := by simp only [RelD]
theorem rel_bl {i : Bool} {v : V} : RelD K H ρ (.bl i) v ↔ v = .bl i := by simp only [RelD]
theorem rel_str {i : Str} {v : V} : RelD K H ρ (.str i) v ↔ v = .str i := by simp only [RelD]
theorem rel_non {v : V} : RelD K H ρ .non v ↔ v = .non := by simp only [RelD]
theorem rel_tup {xs : List Dt} {v : V} : RelD K H ρ (.tup xs) v ↔ ∃ a vs, v = .ref a ∧ TupAt K H ρ a vs ∧ RelDs K H ρ xs vs := by simp only [RelD]
theorem rel_lst {xs : List Dt} {v : V} : RelD K H ρ (.lst xs) v ↔ ∃ a vs, v = .ref a ∧ LstAt K H ρ a vs ∧ RelDs K H ρ xs vs := by simp only [RelD]
theorem rel_ntp {xs : List Int} {v : V} : RelD K H ρ (.ntp xs) v ↔ ∃ a, v = .ref a ∧ ρ.no a ∧ H a = some (.tup (xs.map V.int)) := by simp only [RelD]
theorem rel_err {x f : Str} {i : Sum Int Str} {v : V} : RelD K H ρ (.err x f i) v ↔ ∃ a C t0 dx, v = .ref a ∧ PySem.W.nsIn K mainGlobals x = some (some (.ref C)) ∧ ρ.no a ∧ H a = some (XO a C t0 (some dx)) ∧ ρ.no dx ∧ H dx = some (.xd [(f, xV i)]) := by simp only [RelD]
theorem rel_ref {n : Nat} {v : V} : RelD K H ρ (.ref n) v ↔ ∃ a, v = .ref a ∧ ρ.v[n]? = some a := by simp only [RelD]
end

def ObAt (K : PySem.W.Frag) (H : Hp) (ρ : Rg) (a : Addr) : Ob → Prop
  | .lst xs => ∃ vs, H a = some (.lst vs) ∧ RelDs K H ρ xs vs
  | .ins x fs => ∃ C dx vs, PySem.W.nsIn K mainGlobals x = some (some (.ref C)) ∧ H a = some (.ins C dx vs) ∧ fs.map (·.1) = vs.map (·.1) ∧ RelDs K H ρ (fs.map (·.2)) (vs.map (·.2))
  | .dk kvs => ∃ vs, H a = some (.dK vs) ∧ kvs.map (·.1) = vs.map (·.1) ∧ RelDs K H ρ (kvs.map (·.2)) (vs.map (·.2))
  | .dt kvs => ∃ vs : List (List Key × V), H a = some (.dT vs) ∧ vs.map (·.1) = kvs.map (fun p => p.1.map Sum.inl) ∧ RelDs K H ρ (kvs.map (·.2)) (vs.map (·.2))
  | .df kvs => ∃ (o : Obj) (vs : List (List Key × V)), H a = some (.frz o (.dT vs)) ∧ vs.map (·.1) = kvs.map (fun p => p.1.map Sum.inl) ∧ RelDs K H ρ (kvs.map (·.2)) (vs.map (·.2))
structure SimH (K : PySem.W.Frag) (ρ : Rg) (h : HI) (H : Hp) : Prop where
  nd : ρ.v.Nodup
  len : ρ.v.length = h.length
  ob : ∀ (n : Nat) a o, ρ.v[n]? = some a → h[n]? = some o → ObAt K H ρ a o
  zt : ∀ a ∈ ρ.z, a ∉ ρ.v ∧ ∃ vs, H a = some (.lst vs)
theorem ObAt.ext {K : PySem.W.Frag} {H H' : Hp} {ρ ρ' : Rg} {a : Addr} {o : Ob} (x : Ext ρ ρ' H H') (e : H' a = H a) (h : ObAt K H ρ a o) : ObAt K H' ρ' a o := by
  cases o with
  | lst xs =>
    obtain ⟨vs, h1, h2⟩ := h
    exact ⟨vs, e.trans h1, h2.ext x⟩
  | ins y fs =>
    obtain ⟨C, dx, vs, h0, h1, h2, h3⟩ := h
    exact ⟨C, dx, vs, h0, e.trans h1, h2, h3.ext x⟩
  | dk kvs =>
    obtain ⟨vs, h1, h2, h3⟩ := h
    exact ⟨vs, e.trans h1, h2, h3.ext x⟩
  | dt kvs =>
    obtain ⟨vs, h1, h2, h3⟩ := h
    exact ⟨vs, e.trans h1, h2, h3.ext x⟩
  | df kvs =>
    obtain ⟨o, vs, h1, h2, h3⟩ := h
    exact ⟨o, vs, e.trans h1, h2, h3.ext x⟩
theorem ObAt.some {K : PySem.W.Frag} {H : Hp} {ρ : Rg} {a : Addr} {o : Ob} (h : ObAt K H ρ a o) : ∃ u, H a = some u := by
  cases o with
  | lst xs => obtain ⟨vs, h1, _⟩ := h; exact ⟨_, h1⟩
  | ins y fs => obtain ⟨C, dx, vs, _, h1, _⟩ := h; exact ⟨_, h1⟩
  | dk kvs => obtain ⟨vs, h1, _⟩ := h; exact ⟨_, h1⟩
  | dt kvs => obtain ⟨vs, h1, _⟩ := h; exact ⟨_, h1⟩
  | df kvs => obtain ⟨o, vs, h1, _⟩ := h; exact ⟨_, h1⟩
section
variable {K : PySem.W.Frag} {H H' : Hp} {ρ : Rg} {h : HI}
theorem SimH.nil : SimH K .nil [] H := ⟨List.nodup_nil, rfl, fun _ _ _ e => by simp [Rg.nil] at e, fun _ h => nomatch h⟩
theorem SimH.tracked (S : SimH K ρ h H) {a : Addr} (ha : a ∈ ρ.v) : ∃ u, H a = some u := by
  obtain ⟨n, hn⟩ := List.mem_iff_getElem?.mp ha
  have hl : n < h.length := by rw [← S.len]; exact (List.getElem?_eq_some_iff.mp hn).1
  exact (S.ob n a _ hn (List.getElem?_eq_getElem hl)).some
theorem SimH.out (S : SimH K ρ h H) {p : Addr} (hp : H p = none) : ρ.no p := by
  refine ⟨fun ha => ?_, fun ha => ?_⟩
  · obtain ⟨u, e⟩ := S.tracked ha
    rw [hp] at e
    cases e
  · obtain ⟨_, u, e⟩ := S.zt p ha
    rw [hp] at e
    cases e
theorem SimH.fresh (S : SimH K ρ h H) {p : Addr} {o : HO} (hp : H p = none) : SimH K ρ h (upd H p o) :=
  ⟨S.nd, S.len, fun n a u e1 e2 => (S.ob n a u e1 e2).ext (Ext.fresh hp) (upd_ne (fun z => (S.out hp).1 (z ▸ List.mem_of_getElem? e1))), fun a ha => by
    obtain ⟨n, u, e⟩ := S.zt a ha
    exact ⟨n, u, by rw [upd_ne (ne_of_none e hp)]; exact e⟩⟩
theorem SimH.write (S : SimH K ρ h H) {n : Nat} {p : Addr} {o : HO} {u : Ob} (hn : ρ.v[n]? = some p) (nf : Nfz H p) (hu : ObAt K (upd H p o) ρ p u) : SimH K ρ (h.set n u) (upd H p o) := by
  refine ⟨S.nd, by rw [List.length_set]; exact S.len, fun m a ob e1 e2 => ?_, fun a ha => ?_⟩
  · by_cases hm : m = n
    · subst hm
      rw [hn] at e1
      cases e1
      have hl : m < h.length := by rw [← S.len]; exact (List.getElem?_eq_some_iff.mp hn).1
      rw [List.getElem?_set_self hl] at e2
      cases e2
      exact hu
    · rw [List.getElem?_set_ne (Ne.symm hm)] at e2
      refine (S.ob m a ob e1 e2).ext (Ext.write (List.mem_of_getElem? hn) nf) (upd_ne fun z => hm ?_)
      subst z
      obtain ⟨h1, q1⟩ := List.getElem?_eq_some_iff.mp e1
      obtain ⟨h2, q2⟩ := List.getElem?_eq_some_iff.mp hn
      exact (List.getElem_inj S.nd).mp (q1.trans q2.symm)
  · obtain ⟨m, w, e⟩ := S.zt a ha
    exact ⟨m, w, by rw [upd_ne (fun z => m (by rw [z]; exact List.mem_of_getElem? hn))]; exact e⟩
theorem SimH.lst (S : SimH K ρ h H) {n : Nat} {a : Addr} {xs : List Dt} (hn : ρ.v[n]? = some a) (e : h[n]? = some (.lst xs)) : ∃ vs, H a = some (.lst vs) ∧ RelDs K H ρ xs vs := S.ob n a _ hn e
end

structure SimL (K : PySem.W.Frag) (H : Hp) (ρ : Rg) (l : LI) (σ : L2.St) : Prop where
  len : l.length = σ.length
  val : ∀ (i : Nat) d, l[i]? = some (some d) → ∃ v, σ[i]? = some (some v) ∧ RelD K H ρ d v
theorem SimL.ext {K : PySem.W.Frag} {H H' : Hp} {ρ ρ' : Rg} {l : LI} {σ : L2.St} (L : SimL K H ρ l σ) (x : Ext ρ ρ' H H') : SimL K H' ρ' l σ :=
  ⟨L.len, fun i d e => let ⟨v, e1, r⟩ := L.val i d e; ⟨v, e1, RelD.ext x d r⟩⟩
theorem SimL.set {K : PySem.W.Frag} {H : Hp} {ρ : Rg} {l : LI} {σ : L2.St} (L : SimL K H ρ l σ) {d : Dt} {v : V} (i : Nat) (r : RelD K H ρ d v) : SimL K H ρ (l.set i (some d)) (σ.set i (some v)) := by
  refine ⟨by rw [List.length_set, List.length_set]; exact L.len, fun j d' e => ?_⟩
  by_cases hj : j = i
  · subst hj
    have hl : j < l.length := by
      have := (List.getElem?_eq_some_iff.mp e).1
      rwa [List.length_set] at this
    rw [List.getElem?_set_self hl] at e
    cases e
    exact ⟨v, List.getElem?_set_self (by rw [← L.len]; exact hl), r⟩
  · rw [List.getElem?_set_ne (Ne.symm hj)] at e
    rw [List.getElem?_set_ne (Ne.symm hj)]
    exact L.val j d' e

abbrev RE := LI → HI → Option (Dt × HI)
abbrev RT := LI → HI → Option (Bool × HI)
abbrev RA := LI → HI → Option (List Dt × HI)
inductive Rs where
  | nx (l : LI) (h : HI) | rt (d : Dt) (h : HI) | bk (l : LI) (h : HI) | ct (l : LI) (h : HI)
abbrev RS := LI → HI → Option Rs
abbrev Op2 := Dt → Dt → HI → Option (Dt × HI)
abbrev FnI := List Dt → HI → Option (Dt × HI)

def notStar : Expr → Bool
  | .Starred _ _ => false
  | _ => true
theorem star_of {e : Expr} (h : notStar e = true) (es : List Expr) (env : Env) : starEach (e :: es) env = (false, eval e env) :: starEach es env := by
  cases e <;> first | rfl | (exact absurd h Bool.false_ne_true)
theorem star_any {pos : Pos} {env : Env} : ∀ {es : List Expr}, es.all notStar = true → (backTo pos (starEach es env)).any (·.1) = false
  | [], _ => rfl
  | e :: es, h => by
    rw [List.all_cons, Bool.and_eq_true] at h
    have ih := star_any (pos := pos) (env := env) h.2
    rw [star_of h.1]
    unfold backTo at ih ⊢
    simp only [List.map_cons, List.any_cons, Bool.false_or]
    exact ih
theorem star_few {pos : Pos} {env : Env} {b : Expr} (h : notStar b = true) : ((backTo pos (starEach [b] env)).all (fun x => !x.1) && (backToKw pos (keywordEach [] env)).all (fun x => x.1.isSome)
      && decide ([b].length + ([] : List Keyword).length + (if ([] : List Keyword).isEmpty then 0 else 1) < 30)) = true := by
  rw [star_of h]
  rfl

def Out (K : PySem.W.Frag) (ρ : Rg) (H : Hp) (d : Dt) (h' : HI) (Q : VK) : Prop :=
  ∀ ρ' v H', RelD K H' ρ' d v → SimH K ρ' h' H' → Ext ρ ρ' H H' → Q v H'
def OutB (K : PySem.W.Frag) (ρ : Rg) (H : Hp) (h' : HI) (Q : Hp → Prop) : Prop :=
  ∀ ρ' H', SimH K ρ' h' H' → Ext ρ ρ' H H' → Q H'
def tM (K : PySem.W.Frag) (f : RE) : TE := fun σ H Q => ∃ ρ l h d h', SimH K ρ h H ∧ SimL K H ρ l σ ∧ f l h = some (d, h') ∧ Out K ρ H d h' Q
def tMT (K : PySem.W.Frag) (f : RT) : TT := fun σ H Q => ∃ ρ l h b h', SimH K ρ h H ∧ SimL K H ρ l σ ∧ f l h = some (b, h') ∧ OutB K ρ H h' (Q b)
def tMA (K : PySem.W.Frag) (f : RA) : TA := fun σ H Q => ∃ ρ l h ds h', SimH K ρ h H ∧ SimL K H ρ l σ ∧ f l h = some (ds, h') ∧ ∀ ρ' vs H', RelDs K H' ρ' ds vs → SimH K ρ' h' H' → Ext ρ ρ' H H' → Q vs H'
def rM (K : PySem.W.Frag) (op : Op2) : R2 := fun x y H Q => ∃ ρ h d1 d2 d h', SimH K ρ h H ∧ RelD K H ρ d1 x ∧ RelD K H ρ d2 y ∧ op d1 d2 h = some (d, h') ∧ Out K ρ H d h' Q
def OutS (K : PySem.W.Frag) (ρ : Rg) (H : Hp) (D : Ends) : Rs → Prop
  | .nx l h => ∀ ρ' σ' H', SimH K ρ' h H' → SimL K H' ρ' l σ' → Ext ρ ρ' H H' → D.nx σ' H'
  | .bk l h => ∀ ρ' σ' H', SimH K ρ' h H' → SimL K H' ρ' l σ' → Ext ρ ρ' H H' → D.bk σ' H'
  | .ct l h => ∀ ρ' σ' H', SimH K ρ' h H' → SimL K H' ρ' l σ' → Ext ρ ρ' H H' → D.ct σ' H'
  | .rt d h => Out K ρ H d h D.rt
def sM (K : PySem.W.Frag) (f : RS) : TS := fun D σ H => ∃ ρ l h r, SimH K ρ h H ∧ SimL K H ρ l σ ∧ f l h = some r ∧ OutS K ρ H D r
theorem Out.ext {K : PySem.W.Frag} {ρ ρ1 : Rg} {H H1 : Hp} {d : Dt} {h' : HI} {Q : VK} (k : Out K ρ H d h' Q) (x : Ext ρ ρ1 H H1) : Out K ρ1 H1 d h' Q := fun ρ' v H' r s e => k ρ' v H' r s (x.trans e)
theorem OutB.ext {K : PySem.W.Frag} {ρ ρ1 : Rg} {H H1 : Hp} {h' : HI} {Q : Hp → Prop} (k : OutB K ρ H h' Q) (x : Ext ρ ρ1 H H1) : OutB K ρ1 H1 h' Q := fun ρ' H' s e => k ρ' H' s (x.trans e)
theorem OutS.ext {K : PySem.W.Frag} {ρ ρ1 : Rg} {H H1 : Hp} {D : Ends} {r : Rs} (k : OutS K ρ H D r) (x : Ext ρ ρ1 H H1) : OutS K ρ1 H1 D r := by
  cases r with
  | nx l h => exact fun ρ' σ' H' s l e => k ρ' σ' H' s l (x.trans e)
  | bk l h => exact fun ρ' σ' H' s l e => k ρ' σ' H' s l (x.trans e)
  | ct l h => exact fun ρ' σ' H' s l e => k ρ' σ' H' s l (x.trans e)
  | rt d h => exact Out.ext k x

@[irreducible] def EM (X : Cx) (e : Expr) (f : RE) : Prop := PE X e (tM X.K f)
@[irreducible] def TM (X : Cx) (e : Expr) (f : RT) : Prop := PT X e (tMT X.K f)
@[irreducible] def WM (X : Cx) (e : Expr) (f : RT) : Prop := PW X e (tMT X.K f)
@[irreducible] def AM (X : Cx) (es : List Expr) (f : RA) : Prop := PA X es (tMA X.K f)
@[irreducible] def OM (X : Cx) (f : Value → Value → Sem Value) (op : Op2) : Prop := OpR X f (rM X.K op)
@[irreducible] def ZM (X : Cx) (st : Stmt) (f : RS) : Prop := PS X st (sM X.K f)
@[irreducible] def ZMs (X : Cx) (st : List Stmt) (f : RS) : Prop := PSs X st (sM X.K f)
theorem PE.imp {X : Cx} {e : Expr} {t t' : TE} (h : PE X e t) (i : ∀ σ H Q, t' σ H Q → t σ H Q) : PE X e t' := fun pins s σ H Q I q => h pins s σ H Q I (i σ H Q q)
theorem PT.imp {X : Cx} {e : Expr} {t t' : TT} (h : PT X e t) (i : ∀ σ H Q, t' σ H Q → t σ H Q) : PT X e t' := fun pins s σ H Q I q => h pins s σ H Q I (i σ H Q q)
theorem PW.imp {X : Cx} {e : Expr} {t t' : TT} (h : PW X e t) (i : ∀ σ H Q, t' σ H Q → t σ H Q) : PW X e t' := fun wh pins s σ H Q I q => h wh pins s σ H Q I (i σ H Q q)
theorem PA.imp {X : Cx} {e : List Expr} {t t' : TA} (h : PA X e t) (i : ∀ σ H Q, t' σ H Q → t σ H Q) : PA X e t' := fun pos pins s σ H Q I q => h pos pins s σ H Q I (i σ H Q q)
theorem PS.imp {X : Cx} {e : Stmt} {t t' : TS} (h : PS X e t) (i : ∀ D σ H, t' D σ H → t D σ H) : PS X e t' := fun pins s σ H D I q => h pins s σ H D I (i D σ H q)
theorem PSs.imp {X : Cx} {e : List Stmt} {t t' : TS} (h : PSs X e t) (i : ∀ D σ H, t' D σ H → t D σ H) : PSs X e t' := fun pins s σ H D I q => h pins s σ H D I (i D σ H q)
theorem OpR.imp {X : Cx} {f : Value → Value → Sem Value} {t t' : R2} (h : OpR X f t) (i : ∀ x y H Q, t' x y H Q → t x y H Q) : OpR X f t' := fun pins s σ H x y v u Q I r1 r2 q => h pins s σ H x y v u Q I r1 r2 (i x y H Q q)

def eC (d : Dt) : RE := fun _ h => some (d, h)
def eV (i : Nat) : RE := fun l h => match l[i]? with | some (some d) => some (d, h) | _ => none
def e2 (op : Op2) (fa fb : RE) : RE := fun l h => (fa l h).bind fun r => (fb l r.2).bind fun q => op r.1 q.1 q.2
def aNil : RA := fun _ h => some ([], h)
def aCons (f : RE) (g : RA) : RA := fun l h => (f l h).bind fun r => (g l r.2).bind fun q => some (r.1 :: q.1, q.2)
section
variable {X : Cx} {a b c : Expr} {fa fb fc : RE} {pos : Pos}
theorem em_int {i j pos} : EM X (.Constant (.int i) j pos) (eC (.int i)) := by
  with_unfolding_all
    exact PE.imp pe_int fun σ H Q ⟨ρ, l, h, d, h', S, L, e, k⟩ => by
      cases e
      exact k ρ _ H (rel_int.mpr rfl) S (Ext.refl _ _)
theorem em_bl {i j pos} : EM X (.Constant (.bool i) j pos) (eC (.bl i)) := by
  with_unfolding_all
    exact PE.imp pe_bl fun σ H Q ⟨ρ, l, h, d, h', S, L, e, k⟩ => by
      cases e
      exact k ρ _ H (rel_bl.mpr rfl) S (Ext.refl _ _)
theorem em_str {i j pos} : EM X (.Constant (.str i) j pos) (eC (.str i)) := by
  with_unfolding_all
    exact PE.imp pe_str fun σ H Q ⟨ρ, l, h, d, h', S, L, e, k⟩ => by
      cases e
      exact k ρ _ H (rel_str.mpr rfl) S (Ext.refl _ _)
theorem em_var (i : Nat) {x : Str} {pos : Pos} (hN : X.N[i]? = some x := by rfl) (hv : Vis X.env.scope x := by first | exact Or.inl rfl | exact Or.inr (Or.inl rfl) | exact Or.inr (Or.inr rfl)) (hd : (x == ("__debug__" : Str)) = false := by decide)
    (hcd : (x == ("__classdict__" : Str)) = false := by decide) : EM X (.Name x pos) (eV i) := by
  with_unfolding_all
    exact PE.imp (pe_var hN hv hd hcd) fun σ H Q ⟨ρ, l, h, d, h', S, L, e, k⟩ => by
      unfold eV at e
      split at e
      · rename_i d' q
        cases e
        obtain ⟨v, e1, r⟩ := L.val i _ q
        exact ⟨v, e1, k ρ v H r S (Ext.refl _ _)⟩
      · cases e
theorem bindE {α β : Type} {o : Option α} {f : α → Option β} {b : β} (h : o.bind f = some b) : ∃ a, o = some a ∧ f a = some b := by
  cases o with
  | none => cases h
  | some a => exact ⟨a, rfl, h⟩
theorem em_op {op : Operator} {o : Op2} (ho : OM X (binaryOp op) o) (ha : EM X a fa) (hb : EM X b fb) : EM X (.BinOp a op b pos) (e2 o fa fb) := by
  with_unfolding_all
    exact PE.imp (pe_op ho ha hb) fun σ H Q ⟨ρ, l, h, d, h', S, L, e, k⟩ => by
        obtain ⟨⟨d1, h1⟩, e1, e⟩ := bindE e
        obtain ⟨⟨d2, h2⟩, e2, e⟩ := bindE e
        exact ⟨ρ, l, h, d1, h1, S, L, e1, fun ρ1 x H1 R1 S1 E1 => ⟨ρ1, l, h1, d2, h2, S1, L.ext E1, e2, fun ρ2 y H2 R2 S2 E2 =>
          ⟨ρ2, h2, d1, d2, d, h', S2, RelD.ext E2 _ R1, R2, e, k.ext (E1.trans E2)⟩⟩⟩
def tB' (f : RE) : RT := fun l h => (f l h).bind fun r => match r.1 with | .bl b => some (b, r.2) | _ => none
theorem tm_cmp {op : CmpOp} {o : Op2} (ho : OM X (compareOp op) o) (ha : EM X a fa) (hb : EM X b fb) (hm : behindInMarks op b = false := by first | exact nomark _ | with_unfolding_all rfl) : TM X (.Compare a [op] [b] pos) (tB' (e2 o fa fb)) := by
  with_unfolding_all
    exact PT.imp (pt_cmpR ho ha hb hm) fun σ H Q ⟨ρ, l, h, bb, h', S, L, e, k⟩ => by
        obtain ⟨⟨d, h3⟩, e0, e⟩ := bindE e
        obtain ⟨⟨d1, h1⟩, e1, e0⟩ := bindE e0
        obtain ⟨⟨d2, h2⟩, e2, e0⟩ := bindE e0
        refine ⟨ρ, l, h, d1, h1, S, L, e1, fun ρ1 x H1 R1 S1 E1 => ⟨ρ1, l, h1, d2, h2, S1, L.ext E1, e2, fun ρ2 y H2 R2 S2 E2 =>
          ⟨ρ2, h2, d1, d2, d, h3, S2, RelD.ext E2 _ R1, R2, e0, fun ρ3 v H3 R3 S3 E3 => ?_⟩⟩⟩
        cases d with
        | bl q =>
          cases e
          exact ⟨bb, rel_bl.mp R3, k ρ3 H3 S3 (E1.trans (E2.trans E3))⟩
        | _ => cases e
theorem tm_val {e : Expr} {f : RE} (h : EM X e f) (he : ∀ whole, isTrue e X.env whole = (do let v ← whole; standAt e.pos; holding [v] (truthy v)) := by intro _; rfl) : TM X e (tB' f) := by
  with_unfolding_all
    exact PT.imp (pt_val h he) fun σ H Q ⟨ρ, l, h, bb, h', S, L, e, k⟩ => by
        obtain ⟨⟨d, h3⟩, e0, e⟩ := bindE e
        refine ⟨ρ, l, h, d, h3, S, L, e0, fun ρ3 v H3 R3 S3 E3 => ?_⟩
        cases d with
        | bl q =>
          cases e
          exact ⟨bb, rel_bl.mp R3, k ρ3 H3 S3 E3⟩
        | _ => cases e
def tOr' (t u : RT) : RT := fun l h => (t l h).bind fun r => if r.1 = true then some (true, r.2) else u l r.2
def tNot' (t : RT) : RT := fun l h => (t l h).bind fun r => some (!r.1, r.2)
variable {tA tB2 : RT} {rest : List Expr}
theorem WM.tm {e : Expr} {f : RT} (h : WM X e f) : TM X e f := by
  with_unfolding_all
    exact PW.pt h
theorem wm_or1 (ha : TM X a tA) : WM X (.BoolOp .Or [a] pos) tA := by
  with_unfolding_all
    exact pw_or1 ha
theorem wm_or (ha : TM X a tA) (hb : WM X (.BoolOp .Or (b :: rest) pos) tB2) : WM X (.BoolOp .Or (a :: b :: rest) pos) (tOr' tA tB2) := by
  with_unfolding_all
    exact PW.imp (pw_or ha hb) fun σ H Q ⟨ρ, l, h, bb, h', S, L, e, k⟩ => by
      obtain ⟨⟨b1, h1⟩, e1, e⟩ := bindE e
      refine ⟨ρ, l, h, b1, h1, S, L, e1, fun ρ1 H1 S1 E1 => ?_⟩
      cases b1 with
      | true =>
        rw [if_pos rfl] at e
        cases e
        exact iteT (k ρ1 H1 S1 E1)
      | false =>
        rw [if_neg Bool.false_ne_true] at e
        exact iteF ⟨ρ1, l, h1, bb, h', S1, L.ext E1, e, k.ext E1⟩
theorem tm_not (ha : TM X a tA) : TM X (.UnaryOp .Not a pos) (tNot' tA) := by
  with_unfolding_all
    exact PT.imp (pt_not ha) fun σ H Q ⟨ρ, l, h, bb, h', S, L, e, k⟩ => by
      obtain ⟨⟨b1, h1⟩, e1, e⟩ := bindE e
      cases e
      exact ⟨ρ, l, h, b1, h1, S, L, e1, fun ρ1 H1 S1 E1 => k ρ1 H1 S1 E1⟩
theorem am_nil : AM X [] aNil := by
  with_unfolding_all
    exact PA.imp pa_nil fun σ H Q ⟨ρ, l, h, ds, h', S, L, e, k⟩ => by
      cases e
      exact k ρ [] H .nil S (Ext.refl _ _)
theorem am_cons {e : Expr} {es : List Expr} {f : RE} {g : RA} (ha : EM X e f) (hr : AM X es g) (hs : notStar e = true := by rfl) : AM X (e :: es) (aCons f g) := by
  with_unfolding_all
    exact PA.imp (pa_cons ha hr (star_of hs es X.env)) fun σ H Q ⟨ρ, l, h, ds, h', S, L, e, k⟩ => by
        obtain ⟨⟨d1, h1⟩, e1, e⟩ := bindE e
        obtain ⟨⟨ds2, h2⟩, e2, e⟩ := bindE e
        cases e
        exact ⟨ρ, l, h, d1, h1, S, L, e1, fun ρ1 x H1 R1 S1 E1 => ⟨ρ1, l, h1, ds2, h2, S1, L.ext E1, e2, fun ρ2 xs H2 R2 S2 E2 => k ρ2 _ H2 (.cons (RelD.ext E2 _ R1) R2) S2 (E1.trans E2)⟩⟩
def eLst (g : RA) : RE := fun l h => (g l h).bind fun r => if r.1.length ≤ sizeLine then some (.lst r.1, r.2) else none
theorem newLst {K : PySem.W.Frag} {H : Hp} {ρ : Rg} {h : HI} {ds : List Dt} {vs : List V} {p : Addr} (S : SimH K ρ h H) (R : RelDs K H ρ ds vs) (hp : H p = none) : RelD K (upd H p (.lst vs)) ρ (.lst ds) (.ref p) :=
  rel_lst.mpr ⟨p, vs, rfl, .inl ⟨S.out hp, .inl upd_same⟩, R.ext (Ext.fresh hp)⟩
theorem ifE {α : Type} {c : Prop} [Decidable c] {a b : α} (h : (if c then some a else none) = some b) : c ∧ a = b := by
  by_cases hc : c
  · rw [if_pos hc] at h
    exact ⟨hc, Option.some.inj h⟩
  · rw [if_neg hc] at h
    cases h
theorem em_lst {es : List Expr} {g : RA} (h : AM X es g) : EM X (.List es pos) (eLst g) := by
  with_unfolding_all
    exact PE.imp (pe_lst h) fun σ H Q ⟨ρ, l, h, d, h', S, L, e, k⟩ => by
      obtain ⟨⟨ds, h1⟩, e1, e⟩ := bindE e
      obtain ⟨hz, e⟩ := ifE e
      cases e
      exact ⟨ρ, l, h, ds, h1, S, L, e1, fun ρ1 vs H1 R1 S1 E1 => ⟨by rw [R1.length]; exact hz, fun p hp => k ρ1 _ _ (newLst S1 R1 hp) (S1.fresh hp) (E1.trans (Ext.fresh hp))⟩⟩
end
end SM
namespace SM
open PySem PySem.Spec PyProof.Rows L2

def oI (C : Int → Int → Prop) [∀ i j, Decidable (C i j)] (g : Int → Int → Dt) : Op2 := fun a b h => match a, b with
  | .int i, .int j => if C i j then some (g i j, h) else none
  | _, _ => none
def oI0 (g : Int → Int → Dt) : Op2 := fun a b h => match a, b with
  | .int i, .int j => some (g i j, h)
  | _, _ => none
instance : ∀ i j, Decidable (CDiv i j) := fun i j => by unfold CDiv; infer_instance
instance : ∀ i j, Decidable (CMul i j) := fun i j => by unfold CMul; infer_instance
instance : ∀ i j, Decidable (CPow i j) := fun i j => by unfold CPow; infer_instance
def flat : Dt → Option V
  | .non => some .non
  | .bl b => some (.bl b)
  | .int i => some (.int i)
  | .str x => some (.str x)
  | _ => none
theorem flat_rel {K : PySem.W.Frag} {H : Hp} {ρ : Rg} {d : Dt} {v : V} (e : flat d = some v) : RelD K H ρ d v := by
  cases d <;> simp only [flat] at e <;> first | (cases e; simp only [RelD]) | cases e
theorem rel_flat {K : PySem.W.Frag} {H : Hp} {ρ : Rg} {d : Dt} {v u : V} (e : flat d = some v) (r : RelD K H ρ d u) : u = v := by
  cases d <;> simp only [flat] at e <;> first | (cases e; simpa only [RelD] using r) | cases e
section
variable {X : Cx}
theorem om_I {f : Value → Value → Sem Value} {C : Int → Int → Prop} [∀ i j, Decidable (C i j)] {g : Int → Int → Dt} {g' : Int → Int → V} (ho : OpR X f (rI C g')) (hg : ∀ i j, flat (g i j) = some (g' i j)) : OM X f (oI C g) := by
  with_unfolding_all
    exact OpR.imp ho fun x y H Q ⟨ρ, h, d1, d2, d, h', S, R1, R2, e, k⟩ => by
        unfold oI at e
        split at e
        · rename_i i j
          obtain ⟨hc, e⟩ := ifE e
          cases e
          exact ⟨i, j, rel_int.mp R1, rel_int.mp R2, hc, k ρ _ H (flat_rel (hg i j)) S (Ext.refl _ _)⟩
        · cases e
theorem om_I0 {f : Value → Value → Sem Value} {g : Int → Int → Dt} {g' : Int → Int → V} (ho : OpR X f (rI0 g')) (hg : ∀ i j, flat (g i j) = some (g' i j)) : OM X f (oI0 g) := by
  with_unfolding_all
    exact OpR.imp ho fun x y H Q ⟨ρ, h, d1, d2, d, h', S, R1, R2, e, k⟩ => by
        unfold oI0 at e
        split at e
        · rename_i i j
          cases e
          exact ⟨i, j, rel_int.mp R1, rel_int.mp R2, k ρ _ H (flat_rel (hg i j)) S (Ext.refl _ _)⟩
        · cases e
def oAdd : Op2 := oI0 fun i j => .int (i + j)
def oMul : Op2 := oI CMul fun i j => .int (i * j)
def oDiv : Op2 := oI CDiv fun i j => .int (i / j)
def oMod : Op2 := oI (fun _ j => 0 < j) fun i j => .int (i % j)
def oPow : Op2 := oI CPow fun i j => .int (i ^ j.toNat)
theorem om_add : OM X (binaryOp .Add) oAdd := by
  with_unfolding_all
    exact om_I0 op_add fun _ _ => rfl
theorem om_mul : OM X (binaryOp .Mult) oMul := by
  with_unfolding_all
    exact om_I op_mul fun _ _ => rfl
theorem om_div : OM X (binaryOp .FloorDiv) oDiv := by
  with_unfolding_all
    exact om_I op_fdiv fun _ _ => rfl
theorem om_mod : OM X (binaryOp .Mod) oMod := by
  with_unfolding_all
    exact om_I op_mod fun _ _ => rfl
theorem om_pow : OM X (binaryOp .Pow) oPow := by
  with_unfolding_all
    exact om_I op_pow fun _ _ => rfl
def oEq : Op2 := fun a b h => match flat a, flat b with
  | some x, some y => if scal x y = true then some (.bl (decide (x = y)), h) else none
  | _, _ => none
def oNe : Op2 := fun a b h => match flat a, flat b with
  | some x, some y => if scal x y = true then some (.bl (!decide (x = y)), h) else none
  | _, _ => none
theorem om_eq : OM X (compareOp .Eq) oEq := by
  with_unfolding_all
    exact OpR.imp op_eq fun x y H Q ⟨ρ, h, d1, d2, d, h', S, R1, R2, e, k⟩ => by
      unfold oEq at e
      split at e
      · rename_i u v e1 e2
        obtain ⟨hc, e⟩ := ifE e
        cases e
        rw [rel_flat e1 R1, rel_flat e2 R2]
        exact ⟨hc, k ρ _ H (rel_bl.mpr rfl) S (Ext.refl _ _)⟩
      · cases e
theorem om_ne : OM X (compareOp .NotEq) oNe := by
  with_unfolding_all
    exact OpR.imp op_ne fun x y H Q ⟨ρ, h, d1, d2, d, h', S, R1, R2, e, k⟩ => by
      unfold oNe at e
      split at e
      · rename_i u v e1 e2
        obtain ⟨hc, e⟩ := ifE e
        cases e
        rw [rel_flat e1 R1, rel_flat e2 R2]
        exact ⟨hc, k ρ _ H (rel_bl.mpr rfl) S (Ext.refl _ _)⟩
      · cases e
def uNeg (f : RE) : RE := fun l h => (f l h).bind fun r => match r.1 with | .int i => some (.int (-i), r.2) | _ => none
end

def seqL (h : HI) : Dt → Option (List Dt)
  | .lst xs => some xs
  | .ref n => match h[n]? with | some (.lst xs) => some xs | _ => none
  | _ => none
def seqA (h : HI) : Dt → Option (List Dt)
  | .tup xs => some xs
  | d => seqL h d
theorem seqL_at {K : PySem.W.Frag} {H : Hp} {ρ : Rg} {h : HI} {d : Dt} {v : V} {xs : List Dt} (S : SimH K ρ h H) (R : RelD K H ρ d v) (e : seqL h d = some xs) : ∃ a vs, v = .ref a ∧ SqL K H a vs ∧ RelDs K H ρ xs vs := by
  cases d with
  | lst ys =>
    cases e
    obtain ⟨a, vs, e, q, r⟩ := rel_lst.mp R
    exact ⟨a, vs, e, q.sq, r⟩
  | ref n =>
    simp only [seqL] at e
    split at e
    · rename_i ys q
      cases e
      obtain ⟨a, rfl, ha⟩ := rel_ref.mp R
      obtain ⟨vs, h1, h2⟩ := S.lst ha q
      exact ⟨a, vs, rfl, SqL.of h1, h2⟩
    · cases e
  | _ => simp only [seqL] at e <;> cases e
theorem seqA_at {K : PySem.W.Frag} {H : Hp} {ρ : Rg} {h : HI} {d : Dt} {v : V} {xs : List Dt} (S : SimH K ρ h H) (R : RelD K H ρ d v) (e : seqA h d = some xs) : ∃ a vs, v = .ref a ∧ (SqL K H a vs ∨ SqT K H a vs) ∧ RelDs K H ρ xs vs := by
  cases d with
  | tup ys =>
    cases e
    obtain ⟨a, vs, e, q, r⟩ := rel_tup.mp R
    exact ⟨a, vs, e, .inr q.sq, r⟩
  | lst ys => obtain ⟨a, vs, e, q, r⟩ := seqL_at S R (show seqL h (.lst ys) = some xs from e); exact ⟨a, vs, e, .inl q, r⟩
  | ref n => obtain ⟨a, vs, e, q, r⟩ := seqL_at S R (show seqL h (.ref n) = some xs from e); exact ⟨a, vs, e, .inl q, r⟩
  | _ => cases e
theorem RelDs.atI {K : PySem.W.Frag} {H : Hp} {ρ : Rg} {ds : List Dt} {vs : List V} {i : Int} {d : Dt} (r : RelDs K H ρ ds vs) (e : L2.atI ds i = some d) : ∃ v, L2.atI vs i = some v ∧ RelD K H ρ d v := by
  unfold L2.atI at e ⊢
  rw [r.length]
  cases q : ixN ds.length i with
  | none => rw [q] at e; cases e
  | some j =>
    rw [q] at e
    exact r.get e
def oIx : Op2 := fun a b h => match b with
  | .int i => match a with
    | .str z => if z.length ≤ sizeLine then (L2.atI z.cps.toList i).map fun c => (.str ⟨#[c]⟩, h) else none
    | _ => (seqA h a).bind fun xs => (L2.atI xs i).map fun d => (d, h)
  | _ => none
section
variable {X : Cx} {a b c : Expr} {fa fb fc : RE} {pos : Pos}
theorem ix_read {x y : V} {H : Hp} {Q : VK} (h : rM X.K oIx x y H Q) : rIx X.K x y H Q := by
  obtain ⟨ρ, h, d1, d2, d, h', S, R1, R2, e, k⟩ := h
  unfold oIx at e
  split at e
  · rename_i i
    have ei := rel_int.mp R2
    split at e
    · rename_i z
      split at e
      · rename_i hz
        cases q : L2.atI z.cps.toList i with
        | none => rw [q] at e; cases e
        | some c =>
          rw [q] at e
          cases e
          exact .inr (.inr ⟨z, i, c, rel_str.mp R1, ei, hz, q, k ρ _ H (rel_str.mpr rfl) S (Ext.refl _ _)⟩)
      · cases e
    · obtain ⟨xs, e1, e⟩ := bindE e
      cases q : L2.atI xs i with
      | none => rw [q] at e; cases e
      | some u =>
        rw [q] at e
        cases e
        obtain ⟨p, vs, e2, sq, r⟩ := seqA_at S R1 e1
        obtain ⟨v, q1, q2⟩ := r.atI q
        rcases sq with sq | sq
        · exact .inl ⟨p, vs, i, v, e2, ei, sq, q1, k ρ _ H q2 S (Ext.refl _ _)⟩
        · exact .inr (.inl ⟨p, vs, i, v, e2, ei, sq, q1, k ρ _ H q2 S (Ext.refl _ _)⟩)
  · cases e
theorem em_ix (ha : EM X a fa) (hb : EM X b fb) (hs : PlainIx b := by intro _ _; rfl) : EM X (.Subscript a b pos) (e2 oIx fa fb) := by
  with_unfolding_all
    exact PE.imp (pe_ix ix_seq ha hb hs) fun σ H Q ⟨ρ, l, h, d, h', S, L, e, k⟩ => by
      obtain ⟨⟨d1, h1⟩, e1, e⟩ := bindE e
      obtain ⟨⟨d2, h2⟩, e2, e⟩ := bindE e
      exact ⟨ρ, l, h, d1, h1, S, L, e1, fun ρ1 x H1 R1 S1 E1 => ⟨ρ1, l, h1, d2, h2, S1, L.ext E1, e2, fun ρ2 y H2 R2 S2 E2 =>
        ix_read ⟨ρ2, h2, d1, d2, d, h', S2, RelD.ext E2 _ R1, R2, e, k.ext (E1.trans E2)⟩⟩⟩
end

def sNil : RS := fun l h => some (.nx l h)
def sSeq (f g : RS) : RS := fun l h => (f l h).bind fun r => match r with | .nx l' h' => g l' h' | r => some r
def sSet (i : Nat) (f : RE) : RS := fun l h => (f l h).bind fun r => some (.nx (l.set i (some r.1)) r.2)
def sRet (f : RE) : RS := fun l h => (f l h).bind fun r => some (.rt r.1 r.2)
def sIf (t : RT) (f g : RS) : RS := fun l h => (t l h).bind fun r => if r.1 = true then f l r.2 else g l r.2
section
variable {X : Cx} {st : Stmt} {rest : List Stmt} {e : Expr} {f : RE} {t u : RS} {c : RT} {pos : Pos}
theorem zms_nil : ZMs X [] sNil := by
  with_unfolding_all
    exact PSs.imp pss_nil fun D σ H ⟨ρ, l, h, r, S, L, e, k⟩ => by
      cases e
      exact k ρ σ H S L (Ext.refl _ _)
theorem zms_cons (h1 : ZM X st t) (h2 : ZMs X rest u) : ZMs X (st :: rest) (sSeq t u) := by
  with_unfolding_all
    exact PSs.imp (pss_cons h1 h2) fun D σ H ⟨ρ, l, h, r, S, L, e, k⟩ => by
      obtain ⟨r1, e1, e⟩ := bindE e
      refine ⟨ρ, l, h, r1, S, L, e1, ?_⟩
      cases r1 with
      | nx l' h' => exact fun ρ' σ' H' S' L' E' => ⟨ρ', l', h', r, S', L', e, k.ext E'⟩
      | rt d h' => cases e; exact k
      | bk l' h' => cases e; exact k
      | ct l' h' => cases e; exact k
theorem zms_one (h1 : ZM X st t) : ZMs X [st] t := by
  with_unfolding_all
    exact pss_one h1
theorem zm_ret (he : EM X e f) : ZM X (.Return (some e) pos) (sRet f) := by
  with_unfolding_all
    exact PS.imp (ps_ret he) fun D σ H ⟨ρ, l, h, r, S, L, e, k⟩ => by
      obtain ⟨⟨d1, h1⟩, e1, e⟩ := bindE e
      cases e
      exact ⟨ρ, l, h, d1, h1, S, L, e1, k⟩
theorem zm_if {b : Expr} {ss ss' : List Stmt} (hc : TM X b c) (ha : ZMs X ss t) (hb : ZMs X ss' u) : ZM X (.If b ss ss' pos) (sIf c t u) := by
  with_unfolding_all
    exact PS.imp (ps_if hc ha hb) fun D σ H ⟨ρ, l, h, r, S, L, e, k⟩ => by
      obtain ⟨⟨b1, h1⟩, e1, e⟩ := bindE e
      refine ⟨ρ, l, h, b1, h1, S, L, e1, fun ρ1 H1 S1 E1 => ?_⟩
      cases b1 with
      | true =>
        rw [if_pos rfl] at e
        exact iteT ⟨ρ1, l, h1, r, S1, L.ext E1, e, k.ext E1⟩
      | false =>
        rw [if_neg Bool.false_ne_true] at e
        exact iteF ⟨ρ1, l, h1, r, S1, L.ext E1, e, k.ext E1⟩
theorem zm_set (i : Nat) {x : Str} {pos' : Pos} (hN : X.N.Nodup) (he : EM X e f) (hi : X.N[i]? = some x := by rfl) (hx : Loc X.env.scope x := by first | exact Or.inl rfl | exact Or.inr rfl)
    (hs : swapsWith e (some (.Name x pos')) pos.line X.env = pure false := by rfl) (hf : X.fn x = true ∨ X.env.scope.names.lookup x = some .local := by first | exact .inl rfl | exact .inr rfl | assumption) :
    ZM X (.Assign [.Name x pos'] e pos) (sSet i f) := by
  with_unfolding_all
    exact PS.imp (ps_set hN hi hx he hs hf) fun D σ H ⟨ρ, l, h, r, S, L, e, k⟩ => by
      obtain ⟨⟨d1, h1⟩, e1, e⟩ := bindE e
      cases e
      exact ⟨ρ, l, h, d1, h1, S, L, e1, fun ρ1 v H1 R1 S1 E1 => k ρ1 _ H1 S1 ((L.ext E1).set i R1) E1⟩
end

inductive Src where
  | vals (xs : List Dt)
  | rf (n : Nat)
  | zp (a b : Dt)
  | it (n : Nat)
  | en (n : Nat)
def Src.at (s : Src) (h : HI) (i : Nat) : Option (Option Dt) := match s with
  | .vals xs => some xs[i]?
  | .rf n => match h[n]? with | some (.lst xs) => some xs[i]? | _ => none
  | .zp a b => match seqL h a, seqL h b with
    | some xs, some ys => some (match xs[i]?, ys[i]? with | some x, some y => some (.tup [x, y]) | _, _ => none)
    | _, _ => none
  | .it n => match h[n]? with | some (.df kvs) => some (kvs[i]?.map fun p => .tup [.tup (p.1.map Dt.int), p.2]) | _ => none
  | .en n => match h[n]? with | some (.lst xs) => some (xs[i]?.map fun x => .tup [.int (i : Int), x]) | _ => none
def Src.fuel (s : Src) (h : HI) : Nat := match s with
  | .vals xs => xs.length + 1
  | .rf n => match h[n]? with | some (.lst xs) => xs.length + 1 | _ => 0
  | .zp a _ => match seqL h a with | some xs => xs.length + 1 | _ => 0
  | .it n => match h[n]? with | some (.df kvs) => kvs.length + 1 | _ => 0
  | .en n => match h[n]? with | some (.lst xs) => xs.length + 1 | _ => 0
abbrev RI := LI → HI → Option (Src × HI)
def SrcOk (K : PySem.W.Frag) (H : Hp) (ρ : Rg) (s : Src) (J : It) : Prop :=
  ∀ H2 ρ2 h2, Same2 ρ ρ2 H H2 → SimH K ρ2 h2 H2 → ∀ i : Nat, match s.at h2 i with
    | none => True
    | some none => J.stop i H2
    | some (some d) => J.go i H2 ∧ ∀ v H3, J.yld i H2 v H3 → RelD K H3 ρ2 d v ∧ Ext ρ2 ρ2 H2 H3 ∧ SimH K ρ2 h2 H3
def iM (K : PySem.W.Frag) (g : RI) : TI := fun σ H R => ∃ ρ l h s h', SimH K ρ h H ∧ SimL K H ρ l σ ∧ g l h = some (s, h') ∧ ∀ ρ' J H', SrcOk K H' ρ' s J → SimH K ρ' h' H' → Ext ρ ρ' H H' → R J H'
@[irreducible] def IM (X : Cx) (tg iter : Expr) (g : RI) : Prop := PI X tg iter (iM X.K g)
theorem PI.imp {X : Cx} {tg e : Expr} {t t' : TI} (h : PI X tg e t) (i : ∀ σ H Q, t' σ H Q → t σ H Q) : PI X tg e t' := fun pins s σ H Q I q => h pins s σ H Q I (i σ H Q q)
abbrev RG := Dt → LI → Option LI
def gM (K : PySem.W.Frag) (g : RG) : TG := fun v σ H Q => ∃ ρ l h d l', SimH K ρ h H ∧ SimL K H ρ l σ ∧ RelD K H ρ d v ∧ g d l = some l' ∧ ∀ σ', SimL K H ρ l' σ' → Q σ' H
@[irreducible] def GM (X : Cx) (tg : Expr) (g : RG) : Prop := PG X tg (gM X.K g)
theorem PG.imp {X : Cx} {e : Expr} {t t' : TG} (h : PG X e t) (i : ∀ v σ H Q, t' v σ H Q → t v σ H Q) : PG X e t' := fun pins s σ H v u Q I r q => h pins s σ H v u Q I r (i v σ H Q q)
def gSet (i : Nat) : RG := fun d l => some (l.set i (some d))
def forL (bd : RG) (body : RS) (s : Src) : Nat → Nat → RS
  | 0, _, _, _ => none
  | k + 1, i, l, h => match s.at h i with
    | none => none
    | some none => some (.nx l h)
    | some (some d) => (bd d l).bind fun l1 => (body l1 h).bind fun r => match r with
      | .nx l' h' => forL bd body s k (i + 1) l' h'
      | .ct l' h' => forL bd body s k (i + 1) l' h'
      | .bk l' h' => some (.nx l' h')
      | .rt d h' => some (.rt d h')
def sFor (g : RI) (bd : RG) (body : RS) : RS := fun l h => (g l h).bind fun r => forL bd body r.1 (r.1.fuel r.2) 0 l r.2
section
variable {X : Cx} {tg iter : Expr} {pos : Pos}
theorem gm_name (i : Nat) {x : Str} {pos : Pos} (hN : X.N.Nodup) (hi : X.N[i]? = some x := by rfl) (hx : Loc X.env.scope x := by first | exact Or.inl rfl | exact Or.inr rfl)
    (hf : X.fn x = true ∨ X.env.scope.names.lookup x = some .local := by first | exact .inl rfl | exact .inr rfl | assumption) : GM X (.Name x pos) (gSet i) := by
  with_unfolding_all
    exact PG.imp (pg_name hN hi hx hf) fun v σ H Q ⟨ρ, l, h, d, l', S, L, R, e, k⟩ => by
        cases e
        exact k _ (L.set i R)
def iR1 (f : RE) : RI := fun l h => (f l h).bind fun r => match r.1 with | .int j => if -(2 ^ 62) ≤ j ∧ j < 2 ^ 62 then some (.vals ((List.range j.toNat).map fun (k : Nat) => Dt.int (k : Int)), r.2) else none | _ => none
theorem im_range1 {a : Expr} {f : RE} {p pos : Pos} (hg : Gl X "range") (hm : X.mg "range" = none) (ha : EM X a f) (hs : notStar a = true := by rfl) :
    IM X tg (.Call (.Name "range" p) [a] [] pos) (iR1 f) := by
  with_unfolding_all
    exact PI.imp (pi_range1 hg hm (pa_cons ha pa_nil (star_of hs _ _)) (star_of hs _ _)) fun σ H R ⟨ρ, l, h, s, h', S, L, e, k⟩ => by
        obtain ⟨⟨d1, h1⟩, e1, e⟩ := bindE e
        refine ⟨ρ, l, h, d1, h1, S, L, e1, fun ρ1 v H1 R1 S1 E1 => ?_⟩
        cases d1 with
        | int j =>
          obtain ⟨⟨c1, c2⟩, e⟩ := ifE e
          cases e
          refine ⟨j, by rw [rel_int.mp R1], c1, c2, k ρ1 _ H1 (fun H2 ρ2 h2 E2 S2 i => ?_) S1 E1⟩
          simp only [Src.at, List.getElem?_map]
          by_cases hi : i < j.toNat
          · rw [List.getElem?_range hi]
            refine ⟨hi, fun v H3 q => ?_⟩
            obtain ⟨rfl, rfl⟩ := q
            exact ⟨rel_int.mpr (by simp), Ext.refl _ _, S2⟩
          · rw [List.getElem?_eq_none (by simpa using Nat.not_lt.mp hi)]
            exact Nat.not_lt.mp hi
        | _ => cases e
def iSeq (f : RE) : RI := fun l h => (f l h).bind fun r => match r.1 with | .lst xs => some (.vals xs, r.2) | .ref n => some (.rf n, r.2) | _ => none
def iLst (f : RE) : RI := fun l h => (iSeq f l h).bind fun r => if 0 < r.1.fuel r.2 then some r else none
theorem im_list {a : Expr} {f : RE} (ha : EM X a f) : IM X tg a (iLst f) := by
  with_unfolding_all
    exact PI.imp (pi_list ha) fun σ H R ⟨ρ, l, h, s, h', S, L, e, k⟩ => by
      obtain ⟨⟨s1, h1⟩, e, ez⟩ := bindE e
      obtain ⟨hz, ez⟩ := ifE ez
      cases ez
      obtain ⟨⟨d1, h2⟩, e1, e⟩ := bindE e
      refine ⟨ρ, l, h, d1, h2, S, L, e1, fun ρ1 v H1 R1 S1 E1 => ?_⟩
      cases d1 with
      | lst xs =>
        cases e
        obtain ⟨a, vs, rfl, q, r⟩ := rel_lst.mp R1
        refine ⟨a, rfl, ⟨vs, q.sq⟩, k ρ1 _ H1 (fun H2 ρ2 h2 E2 S2 i => ?_) S1 E1⟩
        have q2 := q.same E2
        have r2 := RelDs.same E2 _ r
        simp only [Src.at]
        cases ei : xs[i]? with
        | none =>
          refine ⟨vs, q2.sq, ?_⟩
          rw [r.length]
          exact List.getElem?_eq_none_iff.mp ei
        | some d =>
          obtain ⟨v, g1, g2⟩ := r2.get ei
          refine ⟨⟨vs, v, q2.sq, g1⟩, fun u H3 y => ?_⟩
          obtain ⟨rfl, y⟩ := y
          have y2 := y vs q2.sq
          rw [g1] at y2
          cases y2
          exact ⟨g2, Ext.refl _ _, S2⟩
      | ref n =>
        cases e
        obtain ⟨a, rfl, ha⟩ := rel_ref.mp R1
        simp only [Src.fuel] at hz
        split at hz
        · rename_i xs q0
          obtain ⟨vs0, g0, _⟩ := S1.lst ha q0
          refine ⟨a, rfl, ⟨vs0, SqL.of g0⟩, k ρ1 _ H1 (fun H2 ρ2 h2 E2 S2 i => ?_) S1 E1⟩
          have ha2 := E2.ix _ _ ha
          simp only [Src.at]
          split
          · trivial
          · rename_i y
            split at y
            · rename_i ys q2
              obtain ⟨vs, g1, r⟩ := S2.lst ha2 q2
              refine ⟨vs, SqL.of g1, ?_⟩
              rw [r.length]
              exact List.getElem?_eq_none_iff.mp (Option.some.inj y)
            · cases y
          · rename_i d y
            split at y
            · rename_i ys q2
              obtain ⟨vs, g1, r⟩ := S2.lst ha2 q2
              obtain ⟨v, z1, z2⟩ := r.get (Option.some.inj y)
              refine ⟨⟨vs, v, SqL.of g1, z1⟩, fun u H3 y => ?_⟩
              obtain ⟨rfl, y⟩ := y
              have y2 := y vs (SqL.of g1)
              rw [z1] at y2
              cases y2
              exact ⟨z2, Ext.refl _ _, S2⟩
            · cases y
        · exact absurd hz (by omega)
      | _ => cases e
theorem zm_for {body : List Stmt} {g : RI} {bd : RG} {f : RS} (hp : PassesOwn (model X.prog X.w) X.A X.env X.xe) (hc : X.calm = true) (hi : IM X tg iter g) (hg : GM X tg bd) (hb : ZMs X body f)
    (hs : ∀ x, foldedSetIterable iter X.env x = pure x := by intro _; rfl) : ZM X (.For tg iter body [] pos) (sFor g bd f) := by
  with_unfolding_all
    exact PS.imp (ps_for hp hc hi hg hb hs) fun D σ H ⟨ρ, l, h, r, S, L, e, k⟩ => by
      obtain ⟨⟨s, h1⟩, e1, e⟩ := bindE e
      refine ⟨ρ, l, h, s, h1, S, L, e1, fun ρ1 J H1 ok S1 E1 => ?_⟩
      refine ⟨fun i m σ' H' => ∃ ρ' l' h', SimH X.K ρ' h' H' ∧ SimL X.K H' ρ' l' σ' ∧ Ext ρ1 ρ' H1 H' ∧ forL bd f s m i l' h' = some r, ⟨_, ρ1, l, h1, S1, L.ext E1, Ext.refl _ _, e⟩, ?_⟩
      rintro i m σ' H' ⟨ρ', l', h', S', L', E', e'⟩
      cases m with
      | zero => simp only [forL] at e'; cases e'
      | succ m =>
        simp only [forL] at e'
        have ok' := ok H' ρ' h' E'.same S' i
        cases q : s.at h' i with
        | none => rw [q] at e'; cases e'
        | some o =>
          rw [q] at e' ok'
          cases o with
          | none =>
            cases e'
            exact .inl ⟨ok', k ρ' σ' H' S' L' (E1.trans E')⟩
          | some d =>
            dsimp only at e'
            obtain ⟨l1, b1, e'⟩ := bindE e'
            obtain ⟨r1, b2, e'⟩ := bindE e'
            refine .inr ⟨ok'.1, fun σ2 H2 => ∃ m', m' < m + 1 ∧ ∃ ρ' l' h', SimH X.K ρ' h' H2 ∧ SimL X.K H2 ρ' l' σ2 ∧ Ext ρ1 ρ' H1 H2 ∧ forL bd f s m' (i + 1) l' h' = some r, fun σ2 H2 q => q, fun v H3 y => ?_⟩
            obtain ⟨R3, E3, S3⟩ := ok'.2 v H3 y
            refine ⟨ρ', l', h', d, l1, S3, L'.ext E3, R3, b1, fun σ4 L4 => ⟨ρ', l1, h', r1, S3, L4, b2, ?_⟩⟩
            cases r1 with
            | nx l2 h2 => exact fun ρ5 σ5 H5 S5 L5 E5 => ⟨m, Nat.lt_succ_self _, ρ5, l2, h2, S5, L5, E'.trans (E3.trans E5), e'⟩
            | ct l2 h2 => exact fun ρ5 σ5 H5 S5 L5 E5 => ⟨m, Nat.lt_succ_self _, ρ5, l2, h2, S5, L5, E'.trans (E3.trans E5), e'⟩
            | bk l2 h2 =>
              cases e'
              exact fun ρ5 σ5 H5 S5 L5 E5 => k ρ5 σ5 H5 S5 L5 (E1.trans (E'.trans (E3.trans E5)))
            | rt d2 h2 =>
              cases e'
              exact fun ρ5 v5 H5 R5 S5 E5 => k ρ5 v5 H5 R5 S5 (E1.trans (E'.trans (E3.trans E5)))
end

def fnI (n N : Nat) (body : RS) : FnI := fun ds h => if ds.length = n then match body (ds.map some ++ List.replicate (N - n) none) h with
    | some (.rt d h') => some (d, h')
    | some (.nx _ h') => some (.non, h')
    | _ => none
  else none
def spM (K : PySem.W.Frag) (n : Nat) (F : FnI) : Sp := fun vs H Q _ => ∃ ρ ds h d h', SimH K ρ h H ∧ RelDs K H ρ ds vs ∧ ds.length = n ∧ F ds h = some (d, h') ∧ Out K ρ H d h' Q
section
variable {P : Program} {w : World} {K : PySem.W.Frag} {mg : Str → Option Value} {base : Heap}
theorem start_sim {H : Hp} {ρ : Rg} {N : List Str} {ds : List Dt} {vs : List V} (R : RelDs K H ρ ds vs) : SimL K H ρ (ds.map some ++ List.replicate (N.length - ds.length) none) (L2.start N vs) := by
  have hl := R.length
  refine ⟨by simp [L2.start, hl], fun i d e => ?_⟩
  by_cases hi : i < ds.length
  · rw [List.getElem?_append_left (by simpa using hi), List.getElem?_map] at e
    cases q : ds[i]? with
    | none => rw [q] at e; cases e
    | some d' =>
      rw [q] at e
      cases e
      obtain ⟨v, g1, g2⟩ := R.get q
      refine ⟨v, ?_, g2⟩
      unfold L2.start
      rw [List.getElem?_append_left (by simpa [hl] using hi), List.getElem?_map, g1]
      rfl
  · rw [List.getElem?_append_right (by simpa using Nat.not_lt.mp hi), List.getElem?_replicate] at e
    split at e <;> cases e
theorem fn_ok {x qual : Str} {st : Stmt} {f : Addr} {fd : FuncData} {N ps : List Str} {k : Nat} {body : RS} (F : Fun K x qual st f fd) (S : FnScope N ps (defScope st))
    (hb : ∀ (cdv : Value) (A : Around) (outer : List Env) (s : Shared) (H : Hp) (E : XK), Room k (A.deeper (envOfC qual (defScope st) s.heap.objs.size f cdv)) →
      ZMs (cxOf CX0 P w K mg base N qual (defScope st) f cdv A outer s H E).nox (defBody st) body) : FnOk P w K mg base CX0 (k + 1) f fd ps (spM K ps.length (fnI ps.length N.length body)) := by
  with_unfolding_all
    refine F.ok S (fun vs H Q E h => ?_) (fun cdv A outer s H vs Q E hr h => ?_)
    · obtain ⟨ρ, ds, h, d, h', S, R, hl, _⟩ := h
      rw [R.length, hl]
    · obtain ⟨ρ, ds, h, d, h', S, R, hl, e, k⟩ := h
      refine ⟨_, hb cdv A outer s H E hr, ?_⟩
      unfold fnI at e
      rw [if_pos hl] at e
      rw [← hl] at e
      split at e
      · rename_i d1 h1 q
        cases e
        exact ⟨ρ, _, h, _, S, start_sim R, q, k⟩
      · rename_i l1 h1 q
        cases e
        exact ⟨ρ, _, h, _, S, start_sim R, q, fun ρ' σ' H' S' L' E' => k ρ' _ H' (rel_non.mpr rfl) S' E'⟩
      · cases e
end
def eCall (F : FnI) (dds : List Dt) (g : RA) : RE := fun l h => (g l h).bind fun r => F (r.1 ++ dds) r.2
section
variable {X : Cx} {k n : Nat} {f : Addr} {fd : FuncData} {ps : List Str} {F : FnI} {x : Str} {p pos : Pos} {e : Expr} {es : List Expr} {g : RA} {dvs : List V} {ds : List Value} {dds : List Dt}
theorem em_callD (hF : FnOk X.prog X.w X.K X.mg X.base CX0 k f fd ps (spM X.K n F)) (hr : Room k X.A) (hg : Gl X x) (hm : X.mg x = some (.ref f)) (hk : PySem.W.keepIn X.K (.ref f) = true) (hb : Binds X.K fd ps ds) (hd : Vals dvs ds) (hdd : ∀ H ρ, RelDs X.K H ρ dds dvs)
    (ha : AM X (e :: es) g) (hn : ∀ (F' : List Dt → HI → Option (Dt × HI)), F' = F → ∀ ds h r, F' ds h = some r → ds.length = n) (hdb : (x == ("__debug__" : Str)) = false := by decide) (he : notStar e = true := by rfl) (hpl : es.all notStar = true := by rfl) :
    EM X (.Call (.Name x p) (e :: es) [] pos) (eCall F dds g) := by
  with_unfolding_all
    exact PE.imp (pe_call hF hr hg hm hk hb hd (E := E0) pass0 ha hdb (star_of he _ _) (star_any hpl)) fun σ H Q ⟨ρ, l, h, d, h', S, L, e, k⟩ => by
      obtain ⟨⟨ds1, h1⟩, e1, e⟩ := bindE e
      exact ⟨ρ, l, h, ds1, h1, S, L, e1, fun ρ1 vs H1 R1 S1 E1 => ⟨ρ1, _, h1, d, h', S1, R1.append (hdd H1 ρ1), hn F rfl _ _ _ e, e, k.ext E1⟩⟩
theorem fnI_len {n N : Nat} {body : RS} {ds : List Dt} {h : HI} {r : Dt × HI} (e : fnI n N body ds h = some r) : ds.length = n := by
  unfold fnI at e
  split at e
  · assumption
  · cases e
end
end SM
namespace L2
open PySem PySem.Spec PyProof.Rows

def closG (cells : List (Str × Addr)) : List (Str × NameKind) → List (Str × Addr) → Option (List (Str × Addr))
  | [], cs => some cs
  | (n, k) :: r, cs => if k == .free then match cells.lookup n with
      | some a => closG cells r ((n, a) :: cs)
      | none => none
    else closG cells r cs
theorem closG_ok {env : Env} : ∀ {l : List (Str × NameKind)} {cs cl : List (Str × Addr)}, closG env.cells l cs = some cl →
    (forIn l cs fun (x : Str × NameKind) (r : List (Str × Addr)) => if (x.2 == NameKind.free) = true then (do let a ← cellOf env x.1; pure (ForInStep.yield ((x.1, a) :: r)) : Sem _) else pure (ForInStep.yield r)) = pure cl
  | [], cs, cl, h => by
    simp only [closG] at h
    cases h
    rfl
  | (n, k) :: r, cs, cl, h => by
    simp only [closG] at h
    rw [List.forIn_cons]
    cases hk : k == NameKind.free with
    | true =>
      rw [hk, if_pos rfl] at h
      cases hc : env.cells.lookup n with
      | none => rw [hc] at h; cases h
      | some a =>
        rw [hc] at h
        have ih := closG_ok (env := env) h
        simp only [hk, if_true]
        have e : cellOf env n = pure a := by unfold cellOf; rw [hc]
        rw [e]
        simp only [pure_bind]
        exact ih
    | false =>
      rw [hk, if_neg (by decide)] at h
      have ih := closG_ok (env := env) h
      simp only [hk, Bool.false_eq_true, if_false, pure_bind]
      exact ih
theorem closG_clos {scope : Scope} {env : Env} {cl : List (Str × Addr)} (h : closG env.cells scope.names [] = some cl) : closureFor scope env = pure cl := by
  have e := closG_ok (env := env) h
  unfold closureFor
  simp only [bind_pure]
  exact e
theorem closG_sub {cells : List (Str × Addr)} : ∀ {l : List (Str × NameKind)} {cs cl : List (Str × Addr)}, closG cells l cs = some cl → (∀ x c, cs.lookup x = some c → cells.lookup x = some c) →
    (∀ x c, cl.lookup x = some c → cells.lookup x = some c) ∧ (∀ x c, cs.lookup x = some c → ∃ c', cl.lookup x = some c') ∧ ∀ n, (n, NameKind.free) ∈ l → ∃ c, cl.lookup n = some c
  | [], cs, cl, h, i => by
    simp only [closG] at h
    cases h
    exact ⟨i, fun x c e => ⟨c, e⟩, fun n hn => nomatch hn⟩
  | (n, k) :: r, cs, cl, h, i => by
    simp only [closG] at h
    cases hk : k == NameKind.free with
    | true =>
      rw [hk, if_pos rfl] at h
      cases hc : cells.lookup n with
      | none => rw [hc] at h; cases h
      | some a =>
        rw [hc] at h
        have i' : ∀ x c, ((n, a) :: cs).lookup x = some c → cells.lookup x = some c := fun x c e => by
          rw [List.lookup_cons] at e
          cases hx : x == n with
          | true =>
            rw [hx] at e
            cases e
            rw [eq_of_beq hx]
            exact hc
          | false =>
            rw [hx] at e
            exact i x c e
        obtain ⟨h1, h2, h3⟩ := closG_sub h i'
        refine ⟨h1, fun x c e => ?_, fun m hm => ?_⟩
        · cases hx : x == n with
          | true => exact h2 x a (by rw [List.lookup_cons, hx])
          | false => exact h2 x c (by rw [List.lookup_cons, hx]; exact e)
        · rcases List.mem_cons.mp hm with z | z
          · cases z
            exact h2 _ a (by rw [List.lookup_cons, beq_self_eq_true])
          · exact h3 m z
    | false =>
      rw [hk, if_neg (by decide)] at h
      obtain ⟨h1, h2, h3⟩ := closG_sub h i
      refine ⟨h1, h2, fun m hm => ?_⟩
      rcases List.mem_cons.mp hm with z | z
      · cases z
        cases hk
      · exact h3 m z

def cxComp (X : Cx) (Nc : List Str) (scope : Scope) (cl : List (Str × Addr)) (C : Addr) (s0 : Shared) (H0 : Hp) (fp : List Addr) : Cx :=
  { X with N := Nc, s₀ := s0, H₀ := H0, env := compEnvC scope cl C X.env, outer := X.stack, stack := X.stack, ex := fp, fn := fun _ => false, pn := [], xe := fun _ _ => False }

theorem relabel_free {env : Env} : ∀ {names : List (Str × NameKind)} {x : Str}, (∀ y ∈ names, y.2 ≠ .cell) →
    ((names.map fun (n, k) => if (k == NameKind.free && env.scope.kind == .function && env.kindOf n == some .cell) then (n, NameKind.cell) else (n, k)).lookup x = some .cell ∨
     (names.map fun (n, k) => if (k == NameKind.free && env.scope.kind == .function && env.kindOf n == some .cell) then (n, NameKind.cell) else (n, k)).lookup x = some .free) → (x, NameKind.free) ∈ names
  | [], _, _, h => by simp at h
  | (n, k) :: r, x, hc, h => by
    have ih := @relabel_free env r x (fun y hy => hc y (List.mem_cons_of_mem _ hy))
    have hk : k ≠ .cell := hc (n, k) List.mem_cons_self
    rw [List.map_cons] at h
    cases hx : x == n with
    | true =>
      have ex := eq_of_beq hx
      subst ex
      by_cases hf : k = .free
      · subst hf
        exact List.mem_cons_self
      · have hb : (k == NameKind.free) = false := by simpa using hf
        simp only [hb, Bool.false_and, Bool.false_eq_true, if_false, List.lookup_cons, beq_self_eq_true] at h
        rcases h with h | h
        · exact absurd (Option.some.inj h) hk
        · exact absurd (Option.some.inj h) hf
    | false =>
      refine List.mem_cons_of_mem _ (ih ?_)
      by_cases hq : (k == NameKind.free && env.scope.kind == .function && env.kindOf n == some .cell) = true
      · simp only [hq, if_true, List.lookup_cons, hx] at h
        exact h
      · rw [Bool.not_eq_true] at hq
        simp only [hq, Bool.false_eq_true, if_false, List.lookup_cons, hx] at h
        exact h

def CapOk (X : Cx) (scope : Scope) (cl : List (Str × Addr)) : List Str → List (Option Nat) → Prop
  | [], [] => True
  | _ :: N, none :: cs => CapOk X scope cl N cs
  | x :: N, some j :: cs => (X.N[j]? = some x ∧ (X.env.kindOf x = some .cell ∨ X.env.kindOf x = some .free) ∧ ((relabel scope X.env).names.lookup x = some .cell ∨ (relabel scope X.env).names.lookup x = some .free) ∧
      cl.lookup x = X.env.cells.lookup x) ∧ CapOk X scope cl N cs
  | _, _ => False
def capOf (σ : St) (cap : List (Option Nat)) : St := cap.map fun o => match o with | some j => (σ[j]?).join | none => none
theorem CapOk.get {X : Cx} {scope : Scope} {cl : List (Str × Addr)} : ∀ {N : List Str} {cs : List (Option Nat)}, CapOk X scope cl N cs → ∀ {i j : Nat} {x : Str}, N[i]? = some x → cs[i]? = some (some j) →
    X.N[j]? = some x ∧ (X.env.kindOf x = some .cell ∨ X.env.kindOf x = some .free) ∧ ((relabel scope X.env).names.lookup x = some .cell ∨ (relabel scope X.env).names.lookup x = some .free) ∧ cl.lookup x = X.env.cells.lookup x
  | [], [], _, i, j, x, h, _ => by simp at h
  | y :: N, none :: cs, h, 0, j, x, _, e => by simp at e
  | y :: N, none :: cs, h, i + 1, j, x, e1, e2 => CapOk.get (N := N) (cs := cs) h (i := i) (by simpa using e1) (by simpa using e2)
  | y :: N, some k :: cs, h, 0, j, x, e1, e2 => by
    simp at e1 e2
    subst e1 e2
    exact h.1
  | y :: N, some k :: cs, h, i + 1, j, x, e1, e2 => CapOk.get (N := N) (cs := cs) h.2 (i := i) (by simpa using e1) (by simpa using e2)
  | [], _ :: _, h, _, _, _, _, _ => h.elim
  | _ :: _, [], h, _, _, _, _, _ => h.elim
theorem CapOk.length {X : Cx} {scope : Scope} {cl : List (Str × Addr)} : ∀ {N : List Str} {cs : List (Option Nat)}, CapOk X scope cl N cs → cs.length = N.length
  | [], [], _ => rfl
  | y :: N, none :: cs, h => by rw [List.length_cons, List.length_cons, CapOk.length (N := N) (cs := cs) h]
  | y :: N, some k :: cs, h => by rw [List.length_cons, List.length_cons, CapOk.length (N := N) (cs := cs) h.2]
  | [], _ :: _, h => h.elim
  | _ :: _, [], h => h.elim

def PIfs (X : Cx) (ifs : List Expr) (t : TT) : Prop :=
  ∀ (pins : List (Addr × Obj)) (s : Shared) (σ : St) (H : Hp) (Q : Bool → Hp → Prop), Inv X pins σ H s → t σ H Q →
    wpAny (model X.prog X.w) X.A (forIn ifs true fun c r => if r = true then do let ok ← isTrue c X.env (eval c X.env); pure (ForInStep.yield ok) else pure (ForInStep.yield r)) (TP X pins σ Q) X.xe s
theorem pifs_nil {X : Cx} : PIfs X [] (fun _ H Q => Q true H) := fun _ _ _ H _ I q => wpAny_tests_nil ⟨H, I, q⟩

def tComp (wi : TI) (g : TG) (tc : TT) (te : TE) (cap : List (Option Nat)) : TE := fun σ H Q => wi σ H fun J H1 => ∀ D, H1 D = none → ∃ W : Nat → Nat → St → List V → Hp → Prop,
  (∃ m, W 0 m (capOf σ cap) [] (upd H1 D (.lst []))) ∧ ∀ i m σ' ys H', W i m σ' ys H' →
    (J.stop i H' ∧ Q (.ref D) H') ∨ (J.go i H' ∧ ∀ x H2, J.yld i H' x H2 → g x σ' H2 fun σ2 H3 => tc σ2 H3 fun b H4 => if b = true then te σ2 H4 fun y H5 =>
      H5 D = some (.lst ys) ∧ ys.length < sizeLine ∧ ∃ m', m' < m ∧ W (i + 1) m' σ2 (ys ++ [y]) (upd H5 D (.lst (ys ++ [y]))) else ∃ m', m' < m ∧ W (i + 1) m' σ2 ys H4)

section
variable {prog : Program} {w : World} {A : Around} {R : Result → Shared → Prop} {s : Shared}
theorem compLoop_any {elt target iter : Expr} {ifs : List Expr} {scope : Scope} {pos : Pos} {it acc : Value} {env : Env} (I : Nat → Shared → Prop)
    (turn : ∀ n s, I n s → wpAny (model prog w) A (pyNext it) (fun r s₁ => match r with
      | none => R (.ok .next) s₁
      | some v => wpAny (model prog w) A (letOwnedTupleGo target it v) (fun _ s₁' => wpAny (model prog w) A (assign target env v) (fun _ s₂ =>
          wpAny (model prog w) A (forIn ifs true fun c r => if r = true then do let ok ← isTrue c env (eval c env); pure (ForInStep.yield ok) else pure (ForInStep.yield r)) (fun ok s₃ =>
            if ok = true then wpAny (model prog w) A (eval elt env) (fun x s₄ =>
              wpAny (model prog w) A (call (.builtin "list.append") [acc, x]) (fun _ s₅ => ∃ m, m < n ∧ I m s₅) (fun _ _ => False) s₄) (fun _ _ => False) s₃
            else ∃ m, m < n ∧ I m s₃) (fun _ _ => False) s₂) (fun _ _ => False) s₁') (fun _ _ => False) s₁) (fun _ _ => False) s)
    (n : Nat) (h : I n s) : codeAny (model prog w) A (.compLoop (.ListComp elt [⟨target, iter, ifs, 0⟩] scope pos) 0 it acc env) R s := by
  refine codeAny_loop rfl I (fun n s hI => ?_) n h
  show wpAny _ A ((compTurn (.ListComp elt [⟨target, iter, ifs, 0⟩] scope pos) 0 it acc env).onRaise (fun x => do noteFrame x env; theTreesLotGoes x)) _ _ s
  refine wpAny_noted ?_
  rw [compTurn_list]
  refine wpAny_bind (wpAny_standAt (wpAny_bind (wpAny_mono (turn n s hI) (fun r s₁ h₁ => ?_) fun _ _ h' => h'.elim)))
  cases r with
  | none => exact wpAny_pure h₁
  | some v =>
    refine wpAny_bind (wpAny_mono h₁ (fun _ s₁' h₁' => ?_) fun _ _ h' => h'.elim)
    refine wpAny_bind (wpAny_mono h₁' (fun _ s₂ h₂ => wpAny_bind (wpAny_mono h₂ (fun ok s₃ h₃ => ?_) fun _ _ h' => h'.elim)) fun _ _ h' => h'.elim)
    cases ok with
    | false => exact wpAny_pure ⟨rfl, h₃⟩
    | true =>
      exact wpAny_bind (wpAny_bind (wpAny_mono h₃ (fun x s₄ h₄ => wpAny_bind (wpAny_mono h₄ (fun _ s₅ h₅ => wpAny_pure (wpAny_pure ⟨rfl, h₅⟩)) fun _ _ h' => h'.elim)) fun _ _ h' => h'.elim))
end

section
variable {X : Cx} {elt iter tg : Expr} {ifs : List Expr} {scope : Scope} {cl : List (Str × Addr)} {pos : Pos} {Nc : List Str} {wi : TI} {g : TG} {tc : TT} {te : TE} {cap : List (Option Nat)}
theorem comp_block {pins : List (Addr × Obj)} {σ : St} {H : Hp} {s : Shared} {it : Addr} {fp : List Addr} {tn : Nat → Heap → Prop} {J : It} {Q : VK} {RR : Value → Addr → Result → Shared → Prop} {E : Value → Shared → Prop}
    (hc : X.calm = true) (hcl : closG X.env.cells scope.names [] = some cl) (hcell : ∀ y ∈ scope.names, y.2 ≠ .cell) (hkind : scope.kind = .function) (hcap : CapOk X scope cl Nc cap)
    (hg : ∀ C s0 H0 fp, PG (cxComp X Nc scope cl C s0 H0 fp) tg g) (ht : ∀ C s0 H0 fp, PIfs (cxComp X Nc scope cl C s0 H0 fp) ifs tc) (he : ∀ C s0 H0 fp, PE (cxComp X Nc scope cl C s0 H0 fp) elt te)
    (I : Inv X pins σ H s) (T : Turn X.prog X.w X.K tg J fp it tn) (st : tn 0 s.heap) (hf : ∀ b ∈ fp, FpOk X pins H b)
    (read : ∀ D, H D = none → ∃ W : Nat → Nat → St → List V → Hp → Prop,
      (∃ m, W 0 m (capOf σ cap) [] (upd H D (.lst []))) ∧ ∀ i m σ' ys H', W i m σ' ys H' →
        (J.stop i H' ∧ Q (.ref D) H') ∨ (J.go i H' ∧ ∀ x H2, J.yld i H' x H2 → g x σ' H2 fun σ2 H3 => tc σ2 H3 fun b H4 => if b = true then te σ2 H4 fun y H5 =>
          H5 D = some (.lst ys) ∧ ys.length < sizeLine ∧ ∃ m', m' < m ∧ W (i + 1) m' σ2 (ys ++ [y]) (upd H5 D (.lst (ys ++ [y]))) else ∃ m', m' < m ∧ W (i + 1) m' σ2 ys H4))
    (hRR : ∀ (C D : Addr) (s' : Shared) (H' : Hp) m, Inv X pins σ H' s' → s'.heap.Ns C m → H' C = none → C ≠ X.env.locals → X.s₀.heap.objs.size ≤ C → (∀ x c, X.env.cells.lookup x = some c → c ≠ C) → (∀ p ∈ X.pn ++ pins, p.1 ≠ C) → Q (.ref D) H' → RR (.ref D) C (.ok .next) s') :
    wpAny (model X.prog X.w) X.A (newList []) (fun acc s₃ => wpAny (model X.prog X.w) X.A (newFunctionEnv scope X.env.globals cl [] X.env.qual none .none (some X.env)) (fun cenv s₄ =>
      codeAny (model X.prog X.w) X.A (.compStart (.ListComp elt [⟨tg, iter, ifs, 0⟩] scope pos) 0 (.ref it) acc { cenv with scope := relabel scope X.env }) (RR acc cenv.locals) s₄) E s₃) E s := by
  obtain ⟨sub, _, hasC⟩ := closG_sub hcl (fun _ _ e => by simp at e)
  refine wpAny_newObj_type (wpAny_newFunctionEnv hcell (by intro y hy; simp at hy) (fun h₁ hns₁ hsb₁ => ?_) hkind)
  have hD := I.fresh
  have I3 : Inv X pins σ (upd H s.heap.objs.size (.lst [])) { s with heap := s.heap.push { cls := .type "list", data := .seq ([] : List Value).toArray } } := I.lnew (ys := []) (its := []) (t' := s.toks) .nil (Nat.zero_le _)
  generalize hs3 : ({ s with heap := s.heap.push { cls := .type "list", data := .seq ([] : List Value).toArray } } : Shared) = s3 at I3
  generalize hH3 : upd H s.heap.objs.size (.lst []) = H3 at I3
  have hh3 : s3.heap = s.heap.push { cls := .type "list", dict := none, data := .seq ([] : List Value).toArray } := by rw [← hs3]
  dsimp only at hns₁ hsb₁ ⊢
  rw [← hh3] at hns₁ hsb₁
  -- C, the block's own names
  have hCn : H3 s3.heap.objs.size = none := I3.fresh
  have hCL : s3.heap.objs.size ≠ X.env.locals := fun z => by
    have := I3.lt
    rw [← z] at this
    exact Nat.lt_irrefl _ this
  have hC0 : X.s₀.heap.objs.size ≤ s3.heap.objs.size := I3.sz
  have cellLt : ∀ x c, X.env.cells.lookup x = some c → c < s3.heap.objs.size := fun x c e => by
    obtain ⟨v, o, ho, _⟩ := I3.cell x c e
    exact Heap.lt_size ho
  have hCc : ∀ x c, X.env.cells.lookup x = some c → c ≠ s3.heap.objs.size := fun x c e z => by
    have := cellLt x c e
    rw [z] at this
    exact Nat.lt_irrefl _ this
  have hCp : ∀ p ∈ X.pn ++ pins, p.1 ≠ s3.heap.objs.size := fun p hp z => by
    have := Heap.lt_size (I3.pin p hp).1
    rw [z] at this
    exact Nat.lt_irrefl _ this
  have fpLt : ∀ b ∈ fp, b < s.heap.objs.size := fun b hb => by
    obtain ⟨o, e, _⟩ := T.obj 0 _ st b hb
    exact Heap.lt_size e
  have sz3 : s3.heap.objs.size = s.heap.objs.size + 1 := by rw [hh3, Heap.size_push]
  have old : ∀ b o, s3.heap.get? b = some o → h₁.get? b = some o := fun b o e => hsb₁.extBut b o (Nat.ne_of_lt (Heap.lt_size e)) (Heap.get?_push_of_some _ e)
  have old0 : ∀ b o, s.heap.get? b = some o → s3.heap.get? b = some o := fun b o e => by
    rw [hh3]
    exact Heap.get?_push_of_some _ e
  have fpH : ∀ b ∈ fp, H3 b = none := fun b hb => by
    rw [← hH3, upd_ne (Nat.ne_of_lt (fpLt b hb))]
    exact (hf b hb).1
  -- the context is well made
  have okY : (cxComp X Nc scope cl s3.heap.objs.size s3 H3 fp).Ok := by
    refine ⟨I3.ok.mod, hkind, I3.ok.glob, I3.ok.blt, Nat.le_refl _, fun x y c e1 e2 => I3.ok.inj x y c (sub x c e1) (sub y c e2), fun x hx => ?_, fun x c e _ => absurd e Bool.false_ne_true, I3.ok.hd, I3.ok.frames, .inl rfl, fun b hb => ⟨?_, fun x c e => ?_⟩, fun b o e => I3.bs b o e, ?_, fun b o e => ?_, fun b hb => ?_, I3.stack, I3.stkFree⟩
    · exact hasC x (relabel_free hcell hx)
    · intro z
      have := fpLt b hb
      have z' : b = s3.heap.objs.size := z
      rw [z', sz3] at this
      exact absurd this (Nat.not_lt.mpr (Nat.le_succ _))
    · exact (hf b hb).2.2.2.2.1 x c (sub x c e)
    · exact Nat.le_trans I3.ok.bsz I3.sz
    · intro hb
      have h1 := (hf b hb).2.2.2.1
      have h2 := I3.ok.bs b o e
      rcases h1 with z | z
      · exact I3.ok.noex b o e z
      · exact absurd (Nat.lt_of_lt_of_le (Heap.lt_size h2.1) z) (Nat.lt_irrefl _)
    · intro z
      rcases List.mem_cons.mp (I3.stkSub b z) with z | z
      · exact (hf b hb).2.1 z
      · exact (hf b hb).2.2.1 z
  have IY : Inv (cxComp X Nc scope cl s3.heap.objs.size s3 H3 fp) [] (capOf σ cap) H3 { s3 with heap := h₁, toks := s3.toks + ([] : List (Str × Value)).length } := by
    refine ⟨okY, rfl, I3.bare, Un.kept old, ⟨_, hns₁, fun i x v e1 e2 _ => ?_⟩, fun x c e => ?_, hCn, fun x c e => I3.freeC x c (sub x c e), fun p hp => absurd hp (by simp [cxComp]), I3.hok.kept old, ?_⟩
    · have e2' : (capOf σ cap)[i]? = some (some v) := e2
      unfold capOf at e2'
      rw [List.getElem?_map] at e2'
      cases q : cap[i]? with
      | none => rw [q] at e2'; cases e2'
      | some o =>
        rw [q] at e2'
        cases o with
        | none => cases e2'
        | some j =>
          have e3 : (σ[j]?).join = some v := by simpa using e2'
          have e4 : σ[j]? = some (some v) := by
            cases z : σ[j]? with
            | none => rw [z] at e3; cases e3
            | some y => rw [z] at e3; simpa using e3
          obtain ⟨n1, n2, n3, n4⟩ := hcap.get e1 q
          obtain ⟨m, _, hl⟩ := I3.loc
          have hv : Vis X.env.scope x := .inr n2
          obtain ⟨u, r, lk⟩ := hl j x v n1 e4 hv
          refine ⟨u, r, .inr ⟨n3, ?_⟩⟩
          rcases lk with ⟨k, _⟩ | ⟨_, c, ec, ob, z1, z2⟩
          · rcases n2 with n2 | n2 <;> rw [k] at n2 <;> cases n2
          · exact ⟨c, n4.trans ec, ob, old c ob z1, z2⟩
    · obtain ⟨v, o, z1, z2⟩ := I3.cell x c (sub x c e)
      exact ⟨v, o, old c o z1, z2⟩
    · show (capOf σ cap).length = Nc.length
      unfold capOf
      rw [List.length_map]
      exact hcap.length
  obtain ⟨W, ⟨m0, w0⟩, turn⟩ := read s.heap.objs.size hD
  rw [hH3] at w0
  have st1 : tn 0 h₁ := T.keep 0 _ _ st fun b _ o e => old b o (old0 b o e)
  have fpY : ∀ {H' : Hp}, (∀ b ∈ fp, H' b = none) → ∀ b ∈ fp, FpOk (cxComp X Nc scope cl s3.heap.objs.size s3 H3 fp) [] H' b := fun hn b hb =>
    ⟨hn b hb, (okY.exf b hb).1, okY.exfs b hb, .inl hb, fun x c e => (okY.exf b hb).2 x c e, fun p hp => absurd hp (by simp [cxComp])⟩
  have loop : codeAny (model X.prog X.w) X.A (.compLoop (.ListComp elt [⟨tg, iter, ifs, 0⟩] scope pos) 0 (.ref it) (.ref s.heap.objs.size) (compEnvC scope cl s3.heap.objs.size X.env)) (RR (.ref s.heap.objs.size) s3.heap.objs.size)
      { s3 with heap := h₁, toks := s3.toks + ([] : List (Str × Value)).length } := by
    refine compLoop_any (fun n s' => ∃ i σ' ys H', Inv (cxComp X Nc scope cl s3.heap.objs.size s3 H3 fp) [] σ' H' s' ∧ tn i s'.heap ∧ (∀ b ∈ fp, H' b = none) ∧ W i n σ' ys H') ?_ m0 ⟨0, _, [], H3, IY, st1, fpH, w0⟩
    rintro n s4 ⟨i, σ4, ys, H4, I4, st4, fr4, w4⟩
    rcases turn i n σ4 ys H4 w4 with ⟨stop, qn⟩ | ⟨go, step⟩
    · refine thn (T.done (cxComp X Nc scope cl s3.heap.objs.size s3 H3 fp) rfl rfl rfl hc i [] s4 σ4 H4 _ I4 (fpY fr4) st4 stop) fun r s5 ⟨hr, I5⟩ => ?_
      subst hr
      have I6 : Inv X pins σ H4 s5 := I3.call' (ch := fp) I5.os I5.base I5.hok I5.bare fun b hb => ⟨(hf b hb).2.2.2.1, (hf b hb).2.1, (hf b hb).2.2.2.2.1, (hf b hb).2.2.2.2.2⟩
      obtain ⟨m, hn, _⟩ := I5.loc
      exact hRR _ _ s5 H4 m I6 hn I5.free hCL hC0 hCc hCp qn
    · refine thn (T.item (cxComp X Nc scope cl s3.heap.objs.size s3 H3 fp) rfl rfl rfl hc i [] s4 σ4 H4 _ I4 (fpY fr4) st4 go) fun r s5 ⟨u, hr, h5⟩ => ?_
      subst hr
      refine thn h5 fun _ s6 ⟨x, H6, I6, r6, y6, st6, fr6⟩ => ?_
      have I6' := I6.pinned (fpY fr6) (T.obj _ _ st6)
      refine thn (hg _ _ _ _ _ s6 σ4 H6 x u _ I6' r6 (step x H6 y6)) fun _ s7 ⟨σ7, H7, I7, q7⟩ => ?_
      refine thn (ht _ _ _ _ _ s7 σ7 H7 _ I7 q7) fun b s8 ⟨H8, I8, q8⟩ => ?_
      have again : ∀ {σ9 : St} {H9 : Hp} {s9 : Shared} {ys9 : List V}, Inv (cxComp X Nc scope cl s3.heap.objs.size s3 H3 fp) ([] ++ pinsAt fp s6.heap) σ9 H9 s9 → (∃ m', m' < n ∧ W (i + 1) m' σ9 ys9 H9) →
          ∃ m', m' < n ∧ ∃ i σ' ys H', Inv (cxComp X Nc scope cl s3.heap.objs.size s3 H3 fp) [] σ' H' s9 ∧ tn i s9.heap ∧ (∀ b ∈ fp, H' b = none) ∧ W i m' σ' ys H' := fun {σ9 H9 s9 ys9} I9 ⟨m', hm, w9⟩ => by
        refine ⟨m', hm, i + 1, σ9, ys9, H9, I9.unpinned, T.keep _ _ _ st6 fun b hb o e => (I9.pin (b, o) (List.mem_append_right _ (List.mem_append_right _ (mem_pinsAt hb e)))).1, fun b hb => ?_, w9⟩
        obtain ⟨o, e, d⟩ := T.obj _ _ st6 b hb
        exact (I9.pin (b, o) (List.mem_append_right _ (List.mem_append_right _ (mem_pinsAt hb e)))).2.1
      cases b with
      | false =>
        rw [if_neg Bool.false_ne_true] at q8 ⊢
        exact again I8 q8
      | true =>
        rw [if_pos rfl] at q8 ⊢
        refine thn (he _ _ _ _ _ s8 σ7 H8 _ I8 q8) fun y s9 ⟨v, H9, I9, r9, d9, z9, w9⟩ => ?_
        refine thn (mt_append (X := cxComp X Nc scope cl s3.heap.objs.size s3 H3 fp) _ s9 σ7 H9 (.ref s.heap.objs.size) [v] (.ref s.heap.objs.size) [y] (fun _ H' => H' = upd H9 s.heap.objs.size (.lst (ys ++ [v]))) I9 rfl (.cons r9 .nil) ⟨_, ys, v, rfl, rfl, d9, z9, rfl⟩) fun _ s10 ⟨_, H10, I10, _, e10⟩ => ?_
        subst e10
        exact again I10 w9
  exact codeAny_compStart_list loop (T.self X.A 0 _ _ _ st1 loop)
theorem pe_comp (hc : X.calm = true) (hi : PI X tg iter wi) (hcl : closG X.env.cells scope.names [] = some cl) (hcell : ∀ y ∈ scope.names, y.2 ≠ .cell) (hkind : scope.kind = .function)
    (hnames : ∀ y ∈ scope.names, y.2 = .local → scope.names.lookup y.1 = some .local) (hcap : CapOk X scope cl Nc cap)
    (hg : ∀ C s0 H0 fp, PG (cxComp X Nc scope cl C s0 H0 fp) tg g) (ht : ∀ C s0 H0 fp, PIfs (cxComp X Nc scope cl C s0 H0 fp) ifs tc) (he : ∀ C s0 H0 fp, PE (cxComp X Nc scope cl C s0 H0 fp) elt te)
    (hs : ∀ x, foldedSetIterable iter X.env x = pure x := by intro _; rfl) : PE X (.ListComp elt [⟨tg, iter, ifs, 0⟩] scope pos) (tComp wi g tc te cap) := by
  intro pins s σ H Q I h
  rw [eval_ListComp]
  refine wpAny_comprehension_free (use := none) rfl hs (closG_clos hcl) hkind hnames (thn (hi pins s σ H _ I h) fun v s1 h1 => thn h1 fun itv s2 h2 => ?_)
  obtain ⟨it, fp, tn, J, H2, e, I2, T, st2, f2, read⟩ := h2
  subst e
  refine comp_block hc hcl hcell hkind hcap hg ht he I2 T st2 f2 read fun C D s' H' m I' hn n1 n2 n3 n4 n5 q => ?_
  refine ⟨m, hn, fun h' hs' => ⟨.ref D, H', ?_, rfl, q⟩⟩
  exact I'.turned (t' := s'.toks) (fun b o hb e => hs'.extBut b o hb e) n1 n2 (.inr n3) n4 n5
end
end L2

namespace SM
open PySem PySem.Spec PyProof.Rows L2
def compL (bd : RG) (tc : RT) (te : RE) (s : Src) : Nat → Nat → LI → HI → List Dt → Option (List Dt × HI)
  | 0, _, _, _, _ => none
  | k + 1, i, l, h, ys => match s.at h i with
    | none => none
    | some none => some (ys, h)
    | some (some d) => (bd d l).bind fun l1 => (tc l1 h).bind fun b => if b.1 = true then (te l1 b.2).bind fun r => if ys.length < sizeLine then compL bd tc te s k (i + 1) l1 r.2 (ys ++ [r.1]) else none
      else compL bd tc te s k (i + 1) l1 b.2 ys
def capI (l : LI) (cap : List (Option Nat)) : LI := cap.map fun o => match o with | some j => (l[j]?).join | none => none
def eComp (g : RI) (bd : RG) (tc : RT) (te : RE) (cap : List (Option Nat)) : RE := fun l h => (g l h).bind fun r => (compL bd tc te r.1 (r.1.fuel r.2) 0 (capI l cap) r.2 []).bind fun q => some (.lst q.1, q.2)
def eCompN (g : RI) (bd : RG) (tc : RT) (te : RE) (cap : List (Option Nat)) : RE := fun l h => (g l h).bind fun r => (compL bd tc te r.1 (r.1.fuel r.2) 0 (capI l cap) r.2 []).bind fun q => some (.ref q.2.length, q.2 ++ [.lst q.1])
def tTrue : RT := fun _ h => some (true, h)
theorem cap_sim {K : PySem.W.Frag} {H : Hp} {ρ : Rg} {l : LI} {σ : L2.St} (L : SimL K H ρ l σ) (cap : List (Option Nat)) : SimL K H ρ (capI l cap) (capOf σ cap) := by
  refine ⟨by simp [capI, capOf], fun i d e => ?_⟩
  unfold capI at e
  unfold capOf
  rw [List.getElem?_map] at e ⊢
  cases q : cap[i]? with
  | none => rw [q] at e; cases e
  | some o =>
    rw [q] at e
    cases o with
    | none => cases e
    | some j =>
      have e3 : (l[j]?).join = some d := by simpa using e
      have e4 : l[j]? = some (some d) := by
        cases z : l[j]? with
        | none => rw [z] at e3; cases e3
        | some y => rw [z] at e3; simpa using e3
      obtain ⟨v, g1, g2⟩ := L.val j d e4
      refine ⟨v, ?_, g2⟩
      simp [g1]
section
variable {X : Cx} {elt iter tg : Expr} {ifs : List Expr} {scope : Scope} {cl : List (Str × Addr)} {pos : Pos} {Nc : List Str} {g : RI} {bd : RG} {tc : RT} {te : RE} {cap : List (Option Nat)}
@[irreducible] def CM (X : Cx) (ifs : List Expr) (f : RT) : Prop := PIfs X ifs (tMT X.K f)
theorem cm_nil : CM X [] tTrue := by
  with_unfolding_all
    exact fun pins s σ H Q I q => by
      obtain ⟨ρ, l, h, b, h', S, L, e, k⟩ := q
      cases e
      exact pifs_nil pins s σ H Q I (k ρ H S (Ext.refl _ _))
end
section
variable {K : PySem.W.Frag} {H : Hp} {ρ : Rg} {p : Addr} {o : HO} {h : HI}
theorem no_hide {a : Addr} {u : HO} (hp : H p = none) (e : H a = some u) (n : ρ.no a) : (ρ.hide p).no a :=
  ⟨n.1, fun z => by
    rcases List.mem_cons.mp z with z | z
    · rw [z, hp] at e
      cases e
    · exact n.2 z⟩
theorem Ext.unhide {τ : Rg} {H' : Hp} (x : Ext (ρ.hide p) τ H H') : ∃ ρ', τ = ρ'.hide p ∧ Ext ρ ρ' H H' := by
  refine ⟨⟨τ.v, ρ.z⟩, ?_, ⟨x.pre, rfl, x.keep, x.live, x.fz⟩⟩
  have e := x.hid
  cases τ with
  | mk v z =>
    have e' : z = p :: ρ.z := e
    subst e'
    rfl
theorem Ext.updNew {ρ' : Rg} {H' : Hp} (x : Ext ρ ρ' H H') (hp : H p = none) : Ext ρ ρ' H (upd H' p o) :=
  ⟨x.pre, x.hid, fun a u e n => by rw [upd_ne (ne_of_none e hp)]; exact x.keep a u e n, fun a e => by
    by_cases ha : a = p
    · rw [ha]
      exact hp
    · rw [upd_ne ha] at e
      exact x.live a e, fun a q u e => by rw [upd_ne (ne_of_none e hp)]; exact x.fz a q u e⟩
theorem ObAt.same {ρ' : Rg} {H' : Hp} {a : Addr} {u : Ob} (x : Same2 ρ ρ' H H') (e : H' a = H a) (q : ObAt K H ρ a u) : ObAt K H' ρ' a u := by
  cases u with
  | lst xs =>
    obtain ⟨vs, h1, h2⟩ := q
    exact ⟨vs, e.trans h1, RelDs.same x _ h2⟩
  | ins y fs =>
    obtain ⟨C, dx, vs, h0, h1, h2, h3⟩ := q
    exact ⟨C, dx, vs, h0, e.trans h1, h2, RelDs.same x _ h3⟩
  | dk kvs =>
    obtain ⟨vs, h1, h2, h3⟩ := q
    exact ⟨vs, e.trans h1, h2, RelDs.same x _ h3⟩
  | dt kvs =>
    obtain ⟨vs, h1, h2, h3⟩ := q
    exact ⟨vs, e.trans h1, h2, RelDs.same x _ h3⟩
  | df kvs =>
    obtain ⟨o, vs, h1, h2, h3⟩ := q
    exact ⟨o, vs, e.trans h1, h2, RelDs.same x _ h3⟩
theorem SimL.same {ρ' : Rg} {H' : Hp} {l : LI} {σ : L2.St} (x : Same2 ρ ρ' H H') (L : SimL K H ρ l σ) : SimL K H' ρ' l σ :=
  ⟨L.len, fun i d e => let ⟨v, e1, r⟩ := L.val i d e; ⟨v, e1, RelD.same x d r⟩⟩
theorem same_hide (hp : H p = none) : Same2 ρ (ρ.hide p) H (upd H p o) :=
  ⟨fun _ _ e n => no_hide hp e n, fun a u e _ => by rw [upd_ne (ne_of_none e hp)]; exact e, fun _ _ e => e, fun a q u e => by rw [upd_ne (ne_of_none e hp)]; exact e⟩
theorem same_write {o : HO} (nf : Nfz H p) : Same2 (ρ.hide p) (ρ.hide p) H (upd H p o) :=
  ⟨fun _ _ _ n => n, fun a u e n => by rw [upd_ne (fun z => n.2 (by rw [z]; exact List.mem_cons_self))]; exact e, fun _ _ e => e, fun a q u e => by rw [upd_ne (fun z : a = p => nf q u (by rw [← z]; exact e))]; exact e⟩
theorem same_show : Same2 (ρ.hide p) ρ H H := ⟨fun _ _ _ n => ⟨n.1, fun z => n.2 (List.mem_cons_of_mem _ z)⟩, fun _ _ e _ => e, fun _ _ e => e, fun _ _ _ e => e⟩
theorem same_own : Same2 (ρ.hide p) (ρ.add p) H H :=
  ⟨fun a _ _ n => ⟨fun z => (List.mem_append.mp z).elim n.1 fun z => n.2 (by rw [List.mem_singleton.mp z]; exact List.mem_cons_self), fun z => n.2 (List.mem_cons_of_mem _ z)⟩, fun _ _ e _ => e, fun n a e => by
    have e' : ρ.v[n]? = some a := e
    have := (List.getElem?_eq_some_iff.mp e').1
    show (ρ.v ++ [p])[n]? = some a
    rw [List.getElem?_append_left this]
    exact e', fun _ _ _ e => e⟩
theorem SimH.hide {xs : List V} (S : SimH K ρ h H) (hp : H p = none) : SimH K (ρ.hide p) h (upd H p (.lst xs)) :=
  ⟨S.nd, S.len, fun n a u e1 e2 => (S.ob n a u e1 e2).same (same_hide hp) (upd_ne (fun z => (S.out hp).1 (z ▸ List.mem_of_getElem? e1))), fun a ha => by
    rcases List.mem_cons.mp ha with z | z
    · rw [z]
      exact ⟨(S.out hp).1, xs, upd_same⟩
    · obtain ⟨m, u, e⟩ := S.zt a z
      exact ⟨m, u, by rw [upd_ne (ne_of_none e hp)]; exact e⟩⟩
theorem SimH.hwrite {xs : List V} (S : SimH K (ρ.hide p) h H) : SimH K (ρ.hide p) h (upd H p (.lst xs)) :=
  ⟨S.nd, S.len, fun n a u e1 e2 => (S.ob n a u e1 e2).same (same_write (nfz (S.zt p List.mem_cons_self).2.choose_spec)) (upd_ne (fun z => (S.zt p List.mem_cons_self).1 (z ▸ List.mem_of_getElem? e1))), fun a ha => by
    obtain ⟨m, u, e⟩ := S.zt a ha
    by_cases hap : a = p
    · subst hap
      exact ⟨m, xs, upd_same⟩
    · exact ⟨m, u, by rw [upd_ne hap]; exact e⟩⟩
theorem SimH.show (S : SimH K (ρ.hide p) h H) : SimH K ρ h H :=
  ⟨S.nd, S.len, fun n a u e1 e2 => (S.ob n a u e1 e2).same same_show rfl, fun a ha => S.zt a (List.mem_cons_of_mem _ ha)⟩
theorem SimH.show_own (S : SimH K (ρ.hide p) h H) (hz : p ∉ ρ.z) {ds : List Dt} {vs : List V} (e : H p = some (.lst vs)) (R : RelDs K H (ρ.hide p) ds vs) : SimH K (ρ.add p) (h ++ [.lst ds]) H := by
  have nv := (S.zt p List.mem_cons_self).1
  refine ⟨?_, by simp only [Rg.add]; rw [List.length_append, List.length_append, ← S.len]; rfl, fun n a ob e1 e2 => ?_, fun a ha => ?_⟩
  · simp only [Rg.add]
    rw [List.nodup_append]
    refine ⟨S.nd, List.nodup_cons.mpr ⟨by simp, List.nodup_nil⟩, fun a ha b hb => ?_⟩
    rw [List.mem_singleton.mp hb]
    intro z
    exact nv (z ▸ ha)
  · simp only [Rg.add] at e1
    have hl : ρ.v.length = h.length := S.len
    by_cases hn : n < h.length
    · rw [List.getElem?_append_left hn] at e2
      rw [List.getElem?_append_left (by rw [hl]; exact hn)] at e1
      exact (S.ob n a ob e1 e2).same same_own rfl
    · have hn' : h.length ≤ n := Nat.not_lt.mp hn
      rw [List.getElem?_append_right hn'] at e2
      rw [List.getElem?_append_right (by rw [hl]; exact hn'), hl] at e1
      cases hk : n - h.length with
      | zero =>
        rw [hk] at e1 e2
        simp at e1 e2
        subst e1 e2
        exact ⟨vs, e, RelDs.same same_own _ R⟩
      | succ k =>
        rw [hk] at e2
        simp at e2
  · obtain ⟨n, u, e'⟩ := S.zt a (List.mem_cons_of_mem _ ha)
    refine ⟨fun hm => ?_, u, e'⟩
    rcases List.mem_append.mp hm with hm | hm
    · exact n hm
    · exact hz ((List.mem_singleton.mp hm) ▸ ha)
end
section
variable {X : Cx} {elt iter tg : Expr} {ifs : List Expr} {scope : Scope} {cl : List (Str × Addr)} {pos : Pos} {Nc : List Str} {g : RI} {bd : RG} {tc : RT} {te : RE} {cap : List (Option Nat)}
theorem comp_read {σ : L2.St} {H : Hp} {Q : VK} (own : Bool) {d : Dt} {h' : HI} {ρ : Rg} {l : LI} {h : HI} (S : SimH X.K ρ h H) (L : SimL X.K H ρ l σ)
    (e : (if own = true then eCompN g bd tc te cap else eComp g bd tc te cap) l h = some (d, h')) (k : Out X.K ρ H d h' Q) : tComp (iM X.K g) (gM X.K bd) (tMT X.K tc) (tM X.K te) cap σ H Q := by
  have e0 : ∃ s1 h1, g l h = some (s1, h1) ∧ ∃ ys h2, compL bd tc te s1 (s1.fuel h1) 0 (capI l cap) h1 [] = some (ys, h2) ∧ h' = (if own = true then h2 ++ [.lst ys] else h2) ∧ d = (if own = true then .ref h2.length else .lst ys) := by
    cases own with
    | true =>
      rw [if_pos rfl] at e
      obtain ⟨⟨s1, h1⟩, e1, e⟩ := bindE e
      obtain ⟨⟨ys, h2⟩, e2, e⟩ := bindE e
      cases e
      exact ⟨s1, h1, e1, ys, h2, e2, rfl, rfl⟩
    | false =>
      rw [if_neg Bool.false_ne_true] at e
      obtain ⟨⟨s1, h1⟩, e1, e⟩ := bindE e
      obtain ⟨⟨ys, h2⟩, e2, e⟩ := bindE e
      cases e
      exact ⟨s1, h1, e1, ys, h2, e2, rfl, rfl⟩
  obtain ⟨s1, h1, e1, zs, h2, e2, eh, ed⟩ := e0
  refine ⟨ρ, l, h, s1, h1, S, L, e1, fun ρ1 J H1 ok S1 E1 D hD => ?_⟩
  have hDz : D ∉ ρ1.z := (S1.out hD).2
  refine ⟨fun i m σ' ys H' => ∃ ρ' l' h' ds, SimH X.K (ρ'.hide D) h' H' ∧ SimL X.K H' (ρ'.hide D) l' σ' ∧ Ext ρ1 ρ' H1 H' ∧ H' D = some (.lst ys) ∧ RelDs X.K H' (ρ'.hide D) ds ys ∧ compL bd tc te s1 m i l' h' ds = some (zs, h2), ?_, ?_⟩
  · exact ⟨_, ρ1, _, h1, [], S1.hide hD, cap_sim (SimL.same (same_hide hD) (L.ext E1)) cap, Ext.fresh hD, upd_same, .nil, e2⟩
  · rintro i m σ' ys H' ⟨ρ', l', h3, ds, S', L', E', hD', R', e'⟩
    cases m with
    | zero => simp only [compL] at e'; cases e'
    | succ m =>
      simp only [compL] at e'
      have sm : Same2 ρ1 (ρ'.hide D) H1 H' := ⟨fun a u z n => ⟨(E'.notin z n).1, fun w => by
          rcases List.mem_cons.mp w with w | w
          · rw [w, hD] at z
            cases z
          · exact (E'.notin z n).2 w⟩, fun a u z n => E'.keep a u z n.1, fun n a z => E'.get z, E'.fz⟩
      have ok' := ok H' (ρ'.hide D) h3 sm S' i
      cases q : s1.at h3 i with
      | none => rw [q] at e'; cases e'
      | some o =>
        rw [q] at e' ok'
        cases o with
        | none =>
          cases e'
          refine .inl ⟨ok', ?_⟩
          have nD : ρ'.no D := ⟨(S'.zt D List.mem_cons_self).1, by rw [E'.hid]; exact hDz⟩
          cases own with
          | false =>
            rw [if_neg Bool.false_ne_true] at eh ed
            subst eh ed
            exact k ρ' _ H' (rel_lst.mpr ⟨D, ys, rfl, .inl ⟨nD, .inl hD'⟩, RelDs.same same_show _ R'⟩) S'.show (E1.trans E')
          | true =>
            rw [if_pos rfl] at eh ed
            subst eh ed
            refine k (ρ'.add D) _ H' (rel_ref.mpr ⟨D, rfl, ?_⟩) (S'.show_own nD.2 hD' R') (E1.trans ⟨?_, E'.hid, E'.keep, E'.live, E'.fz⟩)
            · have hl : ρ'.v.length = h2.length := S'.len
              show (ρ'.v ++ [D])[h2.length]? = some D
              rw [← hl, List.getElem?_append_right (Nat.le_refl _), Nat.sub_self]
              rfl
            · obtain ⟨x, q1, q2⟩ := E'.pre
              refine ⟨x ++ [D], by show ρ'.v ++ [D] = _; rw [q1, List.append_assoc], fun a ha => ?_⟩
              rcases List.mem_append.mp ha with ha | ha
              · exact q2 a ha
              · rw [List.mem_singleton.mp ha]
                exact hD
        | some d0 =>
          dsimp only at e'
          obtain ⟨l1, b1, e'⟩ := bindE e'
          obtain ⟨⟨b, h4⟩, b2, e'⟩ := bindE e'
          refine .inr ⟨ok'.1, fun v H3 y => ?_⟩
          obtain ⟨R3, E3, S3⟩ := ok'.2 v H3 y
          have nDv := (S'.zt D List.mem_cons_self).1
          refine ⟨ρ'.hide D, l', h3, d0, l1, S3, L'.ext E3, R3, b1, fun σ4 L4 => ⟨ρ'.hide D, l1, h3, b, h4, S3, L4, b2, fun ρ5 H5 S5 E5 => ?_⟩⟩
          cases b with
          | true =>
            dsimp only at e'
            rw [if_pos rfl] at e'
            obtain ⟨⟨d5, h5⟩, b3, e'⟩ := bindE e'
            by_cases hz : ds.length < sizeLine
            · rw [if_pos hz] at e'
              refine iteT ⟨ρ5, l1, h4, d5, h5, S5, L4.ext E5, b3, fun ρ6 v6 H6 R6 S6 E6 => ⟨?_, by rw [R'.length]; exact hz, m, Nat.lt_succ_self _, ?_⟩⟩
              · exact (E3.trans (E5.trans E6)).keep D _ hD' nDv
              · obtain ⟨ρ7, rfl, E7⟩ := (E3.trans (E5.trans E6)).unhide
                refine ⟨ρ7, l1, h5, ds ++ [d5], S6.hwrite, SimL.same (same_write (nfz (S6.zt D List.mem_cons_self).2.choose_spec)) (L4.ext (E5.trans E6)), (E'.trans E7).updNew hD, upd_same, ?_, e'⟩
                exact RelDs.same (same_write (nfz (S6.zt D List.mem_cons_self).2.choose_spec)) _ ((R'.ext (E3.trans (E5.trans E6))).append (.cons R6 .nil))
            · rw [if_neg hz] at e'
              cases e'
          | false =>
            dsimp only at e'
            rw [if_neg Bool.false_ne_true] at e'
            refine iteF ⟨m, Nat.lt_succ_self _, ?_⟩
            obtain ⟨ρ7, rfl, E7⟩ := (E3.trans E5).unhide
            exact ⟨ρ7, l1, h4, ds, S5, L4.ext E5, E'.trans E7, (E3.trans E5).keep D _ hD' nDv, R'.ext (E3.trans E5), e'⟩
theorem em_comp (hc : X.calm = true) (hi : IM X tg iter g) (hcell : ∀ y ∈ scope.names, y.2 ≠ .cell) (hkind : scope.kind = .function)
    (hnames : ∀ y ∈ scope.names, y.2 = .local → scope.names.lookup y.1 = some .local) (hcl : closG X.env.cells scope.names [] = some cl) (hcap : CapOk X scope cl Nc cap)
    (hg : ∀ C s0 H0 fp, GM (cxComp X Nc scope cl C s0 H0 fp) tg bd) (ht : ∀ C s0 H0 fp, CM (cxComp X Nc scope cl C s0 H0 fp) ifs tc) (he : ∀ C s0 H0 fp, EM (cxComp X Nc scope cl C s0 H0 fp) elt te)
    (hs : ∀ x, foldedSetIterable iter X.env x = pure x := by intro _; rfl) : EM X (.ListComp elt [⟨tg, iter, ifs, 0⟩] scope pos) (eComp g bd tc te cap) := by
  with_unfolding_all
    exact PE.imp (pe_comp (g := gM X.K bd) (tc := tMT X.K tc) (te := tM X.K te) hc hi hcl hcell hkind hnames hcap hg ht he hs) fun σ H Q ⟨ρ, l, h, d, h', S, L, e, k⟩ => comp_read (X := X) false S L e k
end
end SM
namespace L2
open PySem PySem.Spec PyProof.Rows
section
variable {X : Cx} {elt iter tg : Expr} {ifs : List Expr} {scope : Scope} {cl : List (Str × Addr)} {pos : Pos} {Nc : List Str} {wi : TI} {g : TG} {tc : TT} {te : TE} {cap : List (Option Nat)} {x0 : Str}
end
end L2
namespace SM
open PySem PySem.Spec PyProof.Rows L2
section
variable {X : Cx} {elt iter tg : Expr} {ifs : List Expr} {scope : Scope} {cl : List (Str × Addr)} {pos : Pos} {Nc : List Str} {g : RI} {bd : RG} {tc : RT} {te : RE} {cap : List (Option Nat)} {x0 : Str}
end
end SM
namespace SM
open PySem PySem.Spec PyProof.Rows L2
mutual
/-- data without anything of ours in it -/
def pureD : Dt → Bool
  | .tup xs => pureDs xs
  | .lst xs => pureDs xs
  | .ref _ => false
  | .ntp _ => false
  | .err _ _ _ => false
  | _ => true
def pureDs : List Dt → Bool
  | [] => true
  | x :: xs => pureD x && pureDs xs
end
mutual
def depD : Dt → Nat
  | .tup xs => depDs xs + 1
  | .lst xs => depDs xs + 1
  | _ => 0
def depDs : List Dt → Nat
  | [] => 0
  | x :: xs => max (depD x) (depDs xs)
end
mutual
def eqD : Dt → Dt → Bool
  | .non, .non => true
  | .bl a, .bl b => a == b
  | .bl a, .int b => (if a then 1 else 0) == b
  | .int a, .bl b => a == (if b then 1 else 0)
  | .int a, .int b => a == b
  | .str a, .str b => a == b
  | .tup xs, .tup ys => eqDs xs ys
  | .lst xs, .lst ys => eqDs xs ys
  | _, _ => false
def eqDs : List Dt → List Dt → Bool
  | [], [] => true
  | x :: xs, y :: ys => eqD x y && eqDs xs ys
  | _, _ => false
end
mutual
theorem eqD_refl : ∀ d : Dt, pureD d = true → eqD d d = true
  | .non, _ => by simp only [eqD]
  | .bl b, _ => by simp only [eqD, beq_self_eq_true]
  | .int i, _ => by simp only [eqD, beq_self_eq_true]
  | .str x, _ => by simp only [eqD, beq_self_eq_true]
  | .tup xs, h => by simp only [eqD]; exact eqDs_refl xs (by simpa only [pureD] using h)
  | .lst xs, h => by simp only [eqD]; exact eqDs_refl xs (by simpa only [pureD] using h)
  | .ref _, h => by simp [pureD] at h
  | .ntp _, h => by simp [pureD] at h
  | .err _ _ _, h => by simp [pureD] at h
theorem eqDs_refl : ∀ ds : List Dt, pureDs ds = true → eqDs ds ds = true
  | [], _ => by simp only [eqDs]
  | d :: ds, h => by
    simp only [pureDs, Bool.and_eq_true] at h
    simp only [eqDs, Bool.and_eq_true]
    exact ⟨eqD_refl d h.1, eqDs_refl ds h.2⟩
end
section
variable {X : Cx} {pins : List (Addr × Obj)} {σ : L2.St} {H : Hp} {s : Shared} {ρ : Rg}
mutual
theorem rel_inj (I : Inv X pins σ H s) : ∀ (d d' : Dt) {v : V}, pureD d = true → pureD d' = true → RelD X.K H ρ d v → RelD X.K H ρ d' v → d = d'
  | .non, d', v, _, p, r, r' => by
    have e := rel_non.mp r
    subst e
    cases d' with
    | non => rfl
    | bl b => have := rel_bl.mp r'; cases this
    | int b => have := rel_int.mp r'; cases this
    | str b => have := rel_str.mp r'; cases this
    | tup b => obtain ⟨_, _, z, _⟩ := rel_tup.mp r'; cases z
    | lst b => obtain ⟨_, _, z, _⟩ := rel_lst.mp r'; cases z
    | ref b => obtain ⟨_, z, _⟩ := rel_ref.mp r'; cases z
    | ntp b => obtain ⟨_, z, _⟩ := rel_ntp.mp r'; cases z
    | err b c d => obtain ⟨_, _, _, _, z, _⟩ := rel_err.mp r'; cases z
  | .bl i, d', v, _, p, r, r' => by
    have e := rel_bl.mp r
    subst e
    cases d' with
    | non => have := rel_non.mp r'; cases this
    | bl b => have := rel_bl.mp r'; cases this; rfl
    | int b => have := rel_int.mp r'; cases this
    | str b => have := rel_str.mp r'; cases this
    | tup b => obtain ⟨_, _, z, _⟩ := rel_tup.mp r'; cases z
    | lst b => obtain ⟨_, _, z, _⟩ := rel_lst.mp r'; cases z
    | ref b => obtain ⟨_, z, _⟩ := rel_ref.mp r'; cases z
    | ntp b => obtain ⟨_, z, _⟩ := rel_ntp.mp r'; cases z
    | err b c d => obtain ⟨_, _, _, _, z, _⟩ := rel_err.mp r'; cases z
  | .int i, d', v, _, p, r, r' => by
    have e := rel_int.mp r
    subst e
    cases d' with
    | non => have := rel_non.mp r'; cases this
    | bl b => have := rel_bl.mp r'; cases this
    | int b => have := rel_int.mp r'; cases this; rfl
    | str b => have := rel_str.mp r'; cases this
    | tup b => obtain ⟨_, _, z, _⟩ := rel_tup.mp r'; cases z
    | lst b => obtain ⟨_, _, z, _⟩ := rel_lst.mp r'; cases z
    | ref b => obtain ⟨_, z, _⟩ := rel_ref.mp r'; cases z
    | ntp b => obtain ⟨_, z, _⟩ := rel_ntp.mp r'; cases z
    | err b c d => obtain ⟨_, _, _, _, z, _⟩ := rel_err.mp r'; cases z
  | .str i, d', v, _, p, r, r' => by
    have e := rel_str.mp r
    subst e
    cases d' with
    | non => have := rel_non.mp r'; cases this
    | bl b => have := rel_bl.mp r'; cases this
    | int b => have := rel_int.mp r'; cases this
    | str b => have := rel_str.mp r'; cases this; rfl
    | tup b => obtain ⟨_, _, z, _⟩ := rel_tup.mp r'; cases z
    | lst b => obtain ⟨_, _, z, _⟩ := rel_lst.mp r'; cases z
    | ref b => obtain ⟨_, z, _⟩ := rel_ref.mp r'; cases z
    | ntp b => obtain ⟨_, z, _⟩ := rel_ntp.mp r'; cases z
    | err b c d => obtain ⟨_, _, _, _, z, _⟩ := rel_err.mp r'; cases z
  | .tup xs, d', v, p0, p, r, r' => by
    obtain ⟨a, vs, e, q, rs⟩ := rel_tup.mp r
    subst e
    cases d' with
    | non => have := rel_non.mp r'; cases this
    | bl b => have := rel_bl.mp r'; cases this
    | int b => have := rel_int.mp r'; cases this
    | str b => have := rel_str.mp r'; cases this
    | tup ys =>
      obtain ⟨b, ws, z, q', rs'⟩ := rel_tup.mp r'
      cases z
      have ee := I.tuple_inj q.sq q'.sq
      subst ee
      rw [rels_inj I xs ys (by simpa only [pureD] using p0) (by simpa only [pureD] using p) rs rs']
    | lst ys =>
      obtain ⟨b, ws, z, q', rs'⟩ := rel_lst.mp r'
      cases z
      obtain ⟨_, _, ⟨o, e1, e2, _⟩, _⟩ := I.tuple q.sq
      obtain ⟨_, _, ⟨o', _, e1', e2', _⟩, _⟩ := I.list q'.sq
      rw [e1] at e1'
      cases e1'
      rw [e2] at e2'
      injection e2' with e3
      exact absurd e3 (by decide)
    | ref b => simp [pureD] at p
    | ntp b => simp [pureD] at p
    | err b c d => simp [pureD] at p
  | .lst xs, d', v, p0, p, r, r' => by
    obtain ⟨a, vs, e, q, rs⟩ := rel_lst.mp r
    subst e
    cases d' with
    | non => have := rel_non.mp r'; cases this
    | bl b => have := rel_bl.mp r'; cases this
    | int b => have := rel_int.mp r'; cases this
    | str b => have := rel_str.mp r'; cases this
    | lst ys =>
      obtain ⟨b, ws, z, q', rs'⟩ := rel_lst.mp r'
      cases z
      have ee := I.list_inj q.sq q'.sq
      subst ee
      rw [rels_inj I xs ys (by simpa only [pureD] using p0) (by simpa only [pureD] using p) rs rs']
    | tup ys =>
      obtain ⟨b, ws, z, q', rs'⟩ := rel_tup.mp r'
      cases z
      obtain ⟨_, _, ⟨o, e1, e2, _⟩, _⟩ := I.tuple q'.sq
      obtain ⟨_, _, ⟨o', _, e1', e2', _⟩, _⟩ := I.list q.sq
      rw [e1] at e1'
      cases e1'
      rw [e2] at e2'
      injection e2' with e3
      exact absurd e3 (by decide)
    | ref b => simp [pureD] at p
    | ntp b => simp [pureD] at p
    | err b c d => simp [pureD] at p
  | .ref _, _, _, p, _, _, _ => by simp [pureD] at p
  | .ntp _, _, _, p, _, _, _ => by simp [pureD] at p
  | .err _ _ _, _, _, p, _, _, _ => by simp [pureD] at p
theorem rels_inj (I : Inv X pins σ H s) : ∀ (ds ds' : List Dt) {vs : List V}, pureDs ds = true → pureDs ds' = true → RelDs X.K H ρ ds vs → RelDs X.K H ρ ds' vs → ds = ds'
  | [], [], _, _, _, _, _ => rfl
  | [], d' :: ds', _, _, _, r, r' => by
    rw [r.unnil] at r'
    obtain ⟨_, _, z, _⟩ := r'.uncons
    cases z
  | d :: ds, [], _, _, _, r, r' => by
    rw [r'.unnil] at r
    obtain ⟨_, _, z, _⟩ := r.uncons
    cases z
  | d :: ds, d' :: ds', _, p, p', r, r' => by
    simp only [pureDs, Bool.and_eq_true] at p p'
    obtain ⟨v, vs, e, r1, r2⟩ := r.uncons
    subst e
    obtain ⟨v', vs', e, r1', r2'⟩ := r'.uncons
    cases e
    rw [rel_inj I d d' p.1 p'.1 r1 r1', rels_inj I ds ds' p.2 p'.2 r2 r2']
end
def eqIx (xs ys : List Dt) (j : Nat) : Bool := match xs[j]?, ys[j]? with
  | some x, some y => eqD x y
  | _, _ => false
theorem eqIx_all : ∀ (xs ys : List Dt), xs.length = ys.length → (List.range xs.length).all (eqIx xs ys) = eqDs xs ys
  | [], [], _ => by simp [eqDs]
  | [], _ :: _, h => by simp at h
  | _ :: _, [], h => by simp at h
  | x :: xs, y :: ys, h => by
    have ih := eqIx_all xs ys (by simpa using h)
    rw [List.length_cons, List.range_succ_eq_map, List.all_cons, List.all_map]
    simp only [eqDs]
    rw [← ih]
    rfl
theorem eqDs_len : ∀ (xs ys : List Dt), xs.length ≠ ys.length → eqDs xs ys = false
  | [], [], h => absurd rfl h
  | [], _ :: _, _ => by simp only [eqDs]
  | _ :: _, [], _ => by simp only [eqDs]
  | x :: xs, y :: ys, h => by
    simp only [eqDs]
    rw [eqDs_len xs ys (fun z => h (by simp [z])), Bool.and_false]
theorem in1_units (A : Around) : A.in1.units ≤ A.units + 1 := by
  first | exact Nat.le_refl _ | simp [Around.in1]
theorem isTuple_of {h : Heap} {a : Addr} {its : Array Value} (p : IsTup h a its) : h.IsTuple a its := by
  obtain ⟨o, h1, h2, n, h3⟩ := p
  exact ⟨o, h1, h2, n, h3⟩
mutual
theorem eqAt_D (I : Inv X pins σ H s) : ∀ (d d' : Dt) {v v' : V} {u u' : Value} (A : Around), pureD d = true → pureD d' = true → A.units + depD d < cLine → RelD X.K H ρ d v → RelD X.K H ρ d' v' → RelV v u → RelV v' u' → SeqAt.EqAt A s u u' (eqD d d')
  | .tup xs, d', v, v', u, u', A, p, p', hu, r, r', q, q' => by
    obtain ⟨a, vs, e, t, rs⟩ := rel_tup.mp r
    subst e
    cases q
    simp only [depD] at hu
    have hu0 : A.units < cLine := by omega
    obtain ⟨its, rv, tp, _⟩ := I.tuple t.sq
    cases d' with
    | non => cases rel_non.mp r'; cases q'; simpa only [eqD] using SeqAt.EqAt.tuple_none (isTuple_of tp) hu0
    | bl b => cases rel_bl.mp r'; cases q'; simpa only [eqD] using SeqAt.EqAt.tuple_bool b (isTuple_of tp) hu0
    | int b => cases rel_int.mp r'; obtain ⟨t', rfl⟩ := q'; simpa only [eqD] using SeqAt.EqAt.tuple_int b t' (isTuple_of tp) hu0
    | str b => cases rel_str.mp r'; obtain ⟨t', rfl⟩ := q'; simpa only [eqD] using SeqAt.EqAt.tuple_str b t' (isTuple_of tp) hu0
    | lst ys =>
      obtain ⟨b, ws, e, t', rs'⟩ := rel_lst.mp r'
      subst e
      cases q'
      obtain ⟨its', rv', tp', _⟩ := I.list t'.sq
      simpa only [eqD] using SeqAt.EqAt.tuple_list (isTuple_of tp) tp'.isList hu0
    | tup ys =>
      obtain ⟨b, ws, e, t', rs'⟩ := rel_tup.mp r'
      subst e
      cases q'
      obtain ⟨its', rv', tp', _⟩ := I.tuple t'.sq
      by_cases hab : a = b
      · subst hab
        have e := rel_inj I (.tup xs) (.tup ys) p p' r r'
        rw [← e, eqD_refl _ p]
        exact SeqAt.EqAt.same _
      · refine .of_refs hab ?_
        have l1 : its.length = xs.length := by rw [← rv.length, rs.length]
        have l2 : its'.length = ys.length := by rw [← rv'.length, rs'.length]
        have ih := eqAt_Ds I xs ys A.in1 (by simpa only [pureD] using p) (by simpa only [pureD] using p') (by have := in1_units A; omega) rs rs' rv rv'
        have z := SeqAt.RcAt.tuples (e := eqIx xs ys) (isTuple_of tp) (isTuple_of tp') hu0 fun j h1 h2 => by
          rw [List.size_toArray] at h1 h2
          simpa using ih j h1 h2
        rw [List.size_toArray, List.size_toArray, l1, l2] at z
        simp only [eqD]
        by_cases hl : xs.length = ys.length
        · rw [← hl, Nat.min_self, eqIx_all xs ys hl, beq_self_eq_true, Bool.and_true] at z
          exact z
        · rw [eqDs_len xs ys hl]
          have hb : (xs.length == ys.length) = false := by simpa using hl
          rw [hb, Bool.and_false] at z
          exact z
    | ref b => simp [pureD] at p'
    | ntp b => simp [pureD] at p'
    | err b c d => simp [pureD] at p'
  | .lst xs, d', v, v', u, u', A, p, p', hu, r, r', q, q' => by
    obtain ⟨a, vs, e, t, rs⟩ := rel_lst.mp r
    subst e
    cases q
    simp only [depD] at hu
    have hu0 : A.units < cLine := by omega
    obtain ⟨its, rv, tp, _⟩ := I.list t.sq
    cases d' with
    | non => cases rel_non.mp r'; cases q'; simpa only [eqD] using SeqAt.EqAt.list_none tp.isList hu0
    | bl b => cases rel_bl.mp r'; cases q'; simpa only [eqD] using SeqAt.EqAt.list_bool b tp.isList hu0
    | int b => cases rel_int.mp r'; obtain ⟨t', rfl⟩ := q'; simpa only [eqD] using SeqAt.EqAt.list_int b t' tp.isList hu0
    | str b => cases rel_str.mp r'; obtain ⟨t', rfl⟩ := q'; simpa only [eqD] using SeqAt.EqAt.list_str b t' tp.isList hu0
    | tup ys =>
      obtain ⟨b, ws, e, t', rs'⟩ := rel_tup.mp r'
      subst e
      cases q'
      obtain ⟨its', rv', tp', _⟩ := I.tuple t'.sq
      simpa only [eqD] using SeqAt.EqAt.list_tuple tp.isList (isTuple_of tp') hu0
    | lst ys =>
      obtain ⟨b, ws, e, t', rs'⟩ := rel_lst.mp r'
      subst e
      cases q'
      obtain ⟨its', rv', tp', _⟩ := I.list t'.sq
      by_cases hab : a = b
      · subst hab
        have e := rel_inj I (.lst xs) (.lst ys) p p' r r'
        rw [← e, eqD_refl _ p]
        exact SeqAt.EqAt.same _
      · refine .of_refs hab ?_
        have l1 : its.length = xs.length := by rw [← rv.length, rs.length]
        have l2 : its'.length = ys.length := by rw [← rv'.length, rs'.length]
        simp only [eqD]
        by_cases hl : xs.length = ys.length
        · have ih := eqAt_Ds I xs ys A.in1 (by simpa only [pureD] using p) (by simpa only [pureD] using p') (by have := in1_units A; omega) rs rs' rv rv'
          have z := SeqAt.RcAt.lists (e := eqIx xs ys) tp.isList tp'.isList (by rw [List.size_toArray, List.size_toArray, l1, l2, hl]) hu0 fun j h1 h2 => by
            rw [List.size_toArray] at h1 h2
            simpa using ih j h1 h2
          rw [List.size_toArray, l1, eqIx_all xs ys hl] at z
          exact z
        · rw [eqDs_len xs ys hl]
          exact SeqAt.RcAt.lists_lengths tp.isList tp'.isList (by rw [List.size_toArray, List.size_toArray, l1, l2]; simpa using hl) hu0
    | ref b => simp [pureD] at p'
    | ntp b => simp [pureD] at p'
    | err b c d => simp [pureD] at p'
  | .ref _, _, _, _, _, _, _, p, _, _, _, _, _, _ => by simp [pureD] at p
  | .ntp _, _, _, _, _, _, _, p, _, _, _, _, _, _ => by simp [pureD] at p
  | .err _ _ _, _, _, _, _, _, _, p, _, _, _, _, _, _ => by simp [pureD] at p
  | .non, d', v, v', u, u', A, p, p', hu, r, r', q, q' => by
    cases rel_non.mp r
    cases q
    have hu0 : A.units < cLine := by omega
    cases d' with
    | non => cases rel_non.mp r'; cases q'; simp only [eqD]; exact SeqAt.EqAt.same _
    | bl b => cases rel_bl.mp r'; cases q'; simpa only [eqD] using SeqAt.EqAt.none_bool b
    | int b => cases rel_int.mp r'; obtain ⟨t', rfl⟩ := q'; simpa only [eqD] using SeqAt.EqAt.none_int b t'
    | str b => cases rel_str.mp r'; obtain ⟨t', rfl⟩ := q'; simpa only [eqD] using SeqAt.EqAt.none_str b t'
    | tup ys =>
      obtain ⟨b, ws, e, t', rs'⟩ := rel_tup.mp r'
      subst e
      cases q'
      obtain ⟨its', rv', tp', _⟩ := I.tuple t'.sq
      simpa only [eqD] using SeqAt.EqAt.none_tuple (isTuple_of tp') hu0
    | lst ys =>
      obtain ⟨b, ws, e, t', rs'⟩ := rel_lst.mp r'
      subst e
      cases q'
      obtain ⟨its', rv', tp', _⟩ := I.list t'.sq
      simpa only [eqD] using SeqAt.EqAt.none_list tp'.isList hu0
    | ref b => simp [pureD] at p'
    | ntp b => simp [pureD] at p'
    | err b c d => simp [pureD] at p'
  | .bl i, d', v, v', u, u', A, p, p', hu, r, r', q, q' => by
    cases rel_bl.mp r
    cases q
    have hu0 : A.units < cLine := by omega
    cases d' with
    | non => cases rel_non.mp r'; cases q'; simpa only [eqD] using SeqAt.EqAt.bool_none i
    | bl b => cases rel_bl.mp r'; cases q'; simpa only [eqD] using SeqAt.EqAt.bool_bool i b
    | int b => cases rel_int.mp r'; obtain ⟨t', rfl⟩ := q'; simpa only [eqD] using SeqAt.EqAt.bool_int i b t'
    | str b => cases rel_str.mp r'; obtain ⟨t', rfl⟩ := q'; simpa only [eqD] using SeqAt.EqAt.bool_str i b t'
    | tup ys =>
      obtain ⟨b, ws, e, t', rs'⟩ := rel_tup.mp r'
      subst e
      cases q'
      obtain ⟨its', rv', tp', _⟩ := I.tuple t'.sq
      simpa only [eqD] using SeqAt.EqAt.bool_tuple i (isTuple_of tp') hu0
    | lst ys =>
      obtain ⟨b, ws, e, t', rs'⟩ := rel_lst.mp r'
      subst e
      cases q'
      obtain ⟨its', rv', tp', _⟩ := I.list t'.sq
      simpa only [eqD] using SeqAt.EqAt.bool_list i tp'.isList hu0
    | ref b => simp [pureD] at p'
    | ntp b => simp [pureD] at p'
    | err b c d => simp [pureD] at p'
  | .int i, d', v, v', u, u', A, p, p', hu, r, r', q, q' => by
    cases rel_int.mp r
    obtain ⟨ti, rfl⟩ := q
    have hu0 : A.units < cLine := by omega
    cases d' with
    | non => cases rel_non.mp r'; cases q'; simpa only [eqD] using SeqAt.EqAt.int_none i ti
    | bl b => cases rel_bl.mp r'; cases q'; simpa only [eqD] using SeqAt.EqAt.int_bool i ti b
    | int b => cases rel_int.mp r'; obtain ⟨t', rfl⟩ := q'; simpa only [eqD] using SeqAt.EqAt.int_int i ti b t'
    | str b => cases rel_str.mp r'; obtain ⟨t', rfl⟩ := q'; simpa only [eqD] using SeqAt.EqAt.int_str i ti b t'
    | tup ys =>
      obtain ⟨b, ws, e, t', rs'⟩ := rel_tup.mp r'
      subst e
      cases q'
      obtain ⟨its', rv', tp', _⟩ := I.tuple t'.sq
      simpa only [eqD] using SeqAt.EqAt.int_tuple i ti (isTuple_of tp') hu0
    | lst ys =>
      obtain ⟨b, ws, e, t', rs'⟩ := rel_lst.mp r'
      subst e
      cases q'
      obtain ⟨its', rv', tp', _⟩ := I.list t'.sq
      simpa only [eqD] using SeqAt.EqAt.int_list i ti tp'.isList hu0
    | ref b => simp [pureD] at p'
    | ntp b => simp [pureD] at p'
    | err b c d => simp [pureD] at p'
  | .str i, d', v, v', u, u', A, p, p', hu, r, r', q, q' => by
    cases rel_str.mp r
    obtain ⟨ti, rfl⟩ := q
    have hu0 : A.units < cLine := by omega
    cases d' with
    | non => cases rel_non.mp r'; cases q'; simpa only [eqD] using SeqAt.EqAt.str_none i ti
    | bl b => cases rel_bl.mp r'; cases q'; simpa only [eqD] using SeqAt.EqAt.str_bool i ti b
    | int b => cases rel_int.mp r'; obtain ⟨t', rfl⟩ := q'; simpa only [eqD] using SeqAt.EqAt.str_int i ti b t'
    | str b => cases rel_str.mp r'; obtain ⟨t', rfl⟩ := q'; simpa only [eqD] using SeqAt.EqAt.str_str i ti b t'
    | tup ys =>
      obtain ⟨b, ws, e, t', rs'⟩ := rel_tup.mp r'
      subst e
      cases q'
      obtain ⟨its', rv', tp', _⟩ := I.tuple t'.sq
      simpa only [eqD] using SeqAt.EqAt.str_tuple i ti (isTuple_of tp') hu0
    | lst ys =>
      obtain ⟨b, ws, e, t', rs'⟩ := rel_lst.mp r'
      subst e
      cases q'
      obtain ⟨its', rv', tp', _⟩ := I.list t'.sq
      simpa only [eqD] using SeqAt.EqAt.str_list i ti tp'.isList hu0
    | ref b => simp [pureD] at p'
    | ntp b => simp [pureD] at p'
    | err b c d => simp [pureD] at p'
theorem eqAt_Ds (I : Inv X pins σ H s) : ∀ (xs ys : List Dt) {vs vs' : List V} {us us' : List Value} (A : Around), pureDs xs = true → pureDs ys = true → A.units + depDs xs < cLine → RelDs X.K H ρ xs vs → RelDs X.K H ρ ys vs' → Vals vs us → Vals vs' us' →
    ∀ (j : Nat) (h1 : j < us.length) (h2 : j < us'.length), SeqAt.EqAt A s us[j] us'[j] (eqIx xs ys j)
  | [], _, _, _, _, _, _, _, _, _, r, _, q, _, _, h1, _ => by
    rw [r.unnil] at q
    cases q
    exact absurd h1 (by simp)
  | _ :: _, [], _, _, _, _, _, _, _, _, _, r', _, q', _, _, h2 => by
    rw [r'.unnil] at q'
    cases q'
    exact absurd h2 (by simp)
  | x :: xs, y :: ys, vs, vs', us, us', A, p, p', hu, r, r', q, q', j, h1, h2 => by
    simp only [pureDs, Bool.and_eq_true] at p p'
    simp only [depDs] at hu
    obtain ⟨v, r0, e, a1, a2⟩ := r.uncons
    subst e
    obtain ⟨v', r0', e, b1, b2⟩ := r'.uncons
    subst e
    cases q with
    | cons q1 q2 =>
      cases q' with
      | cons q1' q2' =>
        cases j with
        | zero => exact eqAt_D I x y A p.1 p'.1 (by omega) a1 b1 q1 q1'
        | succ j =>
          have ih := eqAt_Ds I xs ys A p.2 p'.2 (by omega) a2 b2 q2 q2' j (by simpa using h1) (by simpa using h2)
          simpa [eqIx] using ih
end
end
end SM
namespace SM
open PySem PySem.Spec PyProof.Rows L2
section
variable {X : Cx} {a b c e : Expr} {es : List Expr} {fa fb fc f : RE} {g : RA} {p p2 pos : Pos}
def deepOk (xs ys : List Dt) : Bool := pureDs xs && pureDs ys && decide (depDs xs ≤ 50)
def oEqD : Op2 := fun a b h => match a, b with
  | .tup xs, .tup ys => if deepOk xs ys = true then some (.bl (eqDs xs ys), h) else none
  | .lst xs, .lst ys => if deepOk xs ys = true then some (.bl (eqDs xs ys), h) else none
  | a, b => oEq a b h
def oNeD : Op2 := fun a b h => match a, b with
  | .tup xs, .tup ys => if deepOk xs ys = true then some (.bl (!eqDs xs ys), h) else none
  | .lst xs, .lst ys => if deepOk xs ys = true then some (.bl (!eqDs xs ys), h) else none
  | a, b => oNe a b h
theorem tup_items {pins : List (Addr × Obj)} {σ : L2.St} {H : Hp} {s : Shared} {ρ : Rg} {xs ys : List Dt} {vs ws : List V} {its its' : List Value} (I : Inv X pins σ H s) (hu : X.A.units + 64 < cLine) (ok : deepOk xs ys = true) (rs : RelDs X.K H ρ xs vs) (rs' : RelDs X.K H ρ ys ws) (rv : Vals vs its) (rv' : Vals ws its') :
    ∀ (j : Nat) (h1 : j < its.toArray.size) (h2 : j < its'.toArray.size), SeqAt.EqAt X.A.in1 s its.toArray[j] its'.toArray[j] (eqIx xs ys j) := fun j h1 h2 => by
  simp only [deepOk, Bool.and_eq_true, decide_eq_true_eq] at ok
  rw [List.size_toArray] at h1 h2
  have := eqAt_Ds I xs ys X.A.in1 ok.1.1 ok.1.2 (by have := in1_units X.A; omega) rs rs' rv rv' j h1 h2
  simpa using this
theorem om_eqD (hu : X.A.units + 64 < cLine) : OM X (compareOp .Eq) oEqD := by
  with_unfolding_all
    intro pins s σ H x y v u Q I rx ry h
    obtain ⟨ρ, h, d1, d2, d, h', S, R1, R2, e, k⟩ := h
    unfold oEqD at e
    split at e
    · rename_i xs ys
      obtain ⟨ok, e⟩ := ifE e
      cases e
      obtain ⟨a, vs, z, t, rs⟩ := rel_tup.mp R1
      obtain ⟨b, ws, z', t', rs'⟩ := rel_tup.mp R2
      subst z z'
      cases rx
      cases ry
      obtain ⟨its, rv, tp, _⟩ := I.tuple t.sq
      obtain ⟨its', rv', tp', _⟩ := I.tuple t'.sq
      have l1 : its.length = xs.length := by rw [← rv.length, rs.length]
      have l2 : its'.length = ys.length := by rw [← rv'.length, rs'.length]
      refine SeqAt.eq_tupleAt (e := eqIx xs ys) (isTuple_of tp) (isTuple_of tp') (by omega) (tup_items I hu ok rs rs' rv rv') ?_
      refine ⟨.bl _, H, I, rfl, k ρ _ H (rel_bl.mpr (congrArg V.bl ?_)) S (Ext.refl _ _)⟩
      rw [List.size_toArray, List.size_toArray, l1, l2]
      by_cases hl : xs.length = ys.length
      · rw [← hl, Nat.min_self, eqIx_all xs ys hl, beq_self_eq_true, Bool.and_true]
      · have hb : (xs.length == ys.length) = false := by simpa using hl
        rw [eqDs_len xs ys hl, hb, Bool.and_false]
    · rename_i xs ys
      obtain ⟨ok, e⟩ := ifE e
      cases e
      obtain ⟨a, vs, z, t, rs⟩ := rel_lst.mp R1
      obtain ⟨b, ws, z', t', rs'⟩ := rel_lst.mp R2
      subst z z'
      cases rx
      cases ry
      obtain ⟨its, rv, tp, _⟩ := I.list t.sq
      obtain ⟨its', rv', tp', _⟩ := I.list t'.sq
      have l1 : its.length = xs.length := by rw [← rv.length, rs.length]
      have l2 : its'.length = ys.length := by rw [← rv'.length, rs'.length]
      by_cases hl : xs.length = ys.length
      · refine SeqAt.eq_listAt (e := eqIx xs ys) tp.isList tp'.isList (by rw [List.size_toArray, List.size_toArray, l1, l2, hl]) (by omega) (tup_items I hu ok rs rs' rv rv') ?_
        refine ⟨.bl _, H, I, rfl, k ρ _ H (rel_bl.mpr (congrArg V.bl ?_)) S (Ext.refl _ _)⟩
        rw [List.size_toArray, l1, eqIx_all xs ys hl]
      · refine SeqAt.eq_list_lengthsAt tp.isList tp'.isList (by rw [List.size_toArray, List.size_toArray, l1, l2]; simpa using hl) (by omega) ?_
        exact ⟨.bl _, H, I, rfl, k ρ _ H (rel_bl.mpr (by rw [eqDs_len xs ys hl])) S (Ext.refl _ _)⟩
    · exact om_eq pins s σ H x y v u Q I rx ry ⟨ρ, h, d1, d2, d, h', S, R1, R2, e, k⟩
theorem om_neD (hu : X.A.units + 64 < cLine) : OM X (compareOp .NotEq) oNeD := by
  with_unfolding_all
    intro pins s σ H x y v u Q I rx ry h
    obtain ⟨ρ, h, d1, d2, d, h', S, R1, R2, e, k⟩ := h
    unfold oNeD at e
    split at e
    · rename_i xs ys
      obtain ⟨ok, e⟩ := ifE e
      cases e
      obtain ⟨a, vs, z, t, rs⟩ := rel_tup.mp R1
      obtain ⟨b, ws, z', t', rs'⟩ := rel_tup.mp R2
      subst z z'
      cases rx
      cases ry
      obtain ⟨its, rv, tp, _⟩ := I.tuple t.sq
      obtain ⟨its', rv', tp', _⟩ := I.tuple t'.sq
      have l1 : its.length = xs.length := by rw [← rv.length, rs.length]
      have l2 : its'.length = ys.length := by rw [← rv'.length, rs'.length]
      refine ne_tuples (e := eqIx xs ys) (isTuple_of tp) (isTuple_of tp') (by omega) (tup_items I hu ok rs rs' rv rv') ?_
      refine ⟨.bl _, H, I, rfl, k ρ _ H (rel_bl.mpr (congrArg V.bl ?_)) S (Ext.refl _ _)⟩
      rw [List.size_toArray, List.size_toArray, l1, l2]
      by_cases hl : xs.length = ys.length
      · rw [← hl, Nat.min_self, eqIx_all xs ys hl, beq_self_eq_true, Bool.and_true]
      · have hb : (xs.length == ys.length) = false := by simpa using hl
        rw [eqDs_len xs ys hl, hb, Bool.and_false]
    · rename_i xs ys
      obtain ⟨ok, e⟩ := ifE e
      cases e
      obtain ⟨a, vs, z, t, rs⟩ := rel_lst.mp R1
      obtain ⟨b, ws, z', t', rs'⟩ := rel_lst.mp R2
      subst z z'
      cases rx
      cases ry
      obtain ⟨its, rv, tp, _⟩ := I.list t.sq
      obtain ⟨its', rv', tp', _⟩ := I.list t'.sq
      have l1 : its.length = xs.length := by rw [← rv.length, rs.length]
      have l2 : its'.length = ys.length := by rw [← rv'.length, rs'.length]
      by_cases hl : xs.length = ys.length
      · refine ne_lists (e := eqIx xs ys) tp.isList tp'.isList (by rw [List.size_toArray, List.size_toArray, l1, l2, hl]) (by omega) (tup_items I hu ok rs rs' rv rv') ?_
        refine ⟨.bl _, H, I, rfl, k ρ _ H (rel_bl.mpr (congrArg V.bl ?_)) S (Ext.refl _ _)⟩
        rw [List.size_toArray, l1, eqIx_all xs ys hl]
      · refine ne_lists_len tp.isList tp'.isList (by rw [List.size_toArray, List.size_toArray, l1, l2]; simpa using hl) (by omega) ?_
        exact ⟨.bl _, H, I, rfl, k ρ _ H (rel_bl.mpr (by rw [eqDs_len xs ys hl]; rfl)) S (Ext.refl _ _)⟩
    · exact om_ne pins s σ H x y v u Q I rx ry ⟨ρ, h, d1, d2, d, h', S, R1, R2, e, k⟩
def oCat : Op2 := fun a b h => (seqL h a).bind fun xs => (seqL h b).bind fun ys => if xs.length + ys.length ≤ sizeLine then some (.lst (xs ++ ys), h) else none
theorem om_cat : OM X (binaryOp .Add) oCat := by
  with_unfolding_all
    exact OpR.imp op_catQ fun x y H Q ⟨ρ, h, d1, d2, d, h', S, R1, R2, e, k⟩ => by
      obtain ⟨xs, e1, e⟩ := bindE e
      obtain ⟨ys, e2, e⟩ := bindE e
      obtain ⟨hz, e⟩ := ifE e
      cases e
      obtain ⟨l, vs, z1, q1, r1⟩ := seqL_at S R1 e1
      obtain ⟨b, ws, z2, q2, r2⟩ := seqL_at S R2 e2
      exact ⟨l, b, vs, ws, z1, z2, q1, q2, by rw [r1.length, r2.length]; exact hz, fun p hp => k ρ _ _ (newLst S (r1.append r2) hp) (S.fresh hp) (Ext.fresh hp)⟩
def tyN (h : HI) : Dt → Option String
  | .non => some "NoneType"
  | .bl _ => some "bool"
  | .int _ => some "int"
  | .str _ => some "str"
  | .tup _ => some "tuple"
  | .lst _ => some "list"
  | .ref n => match h[n]? with | some (.lst _) => some "list" | _ => none
  | .ntp _ => none
  | .err _ _ _ => none
def isT (t T : String) : Bool := t == T || (t == "bool" && T == "int")
def eIsi (T : String) (f : RE) : RE := fun l h => (f l h).bind fun r => (tyN r.2 r.1).map fun t => (.bl (isT t T), r.2)
theorem kit_all (K : PySem.W.Frag) : ∀ t ∈ ["NoneType", "bool", "int", "str", "tuple", "list"], ∀ T ∈ ["bool", "int", "str", "tuple", "list"], PySem.W.kitOne K (.type t) (.type T) = some (isT t T) := by
  intro t ht T hT
  simp only [List.mem_cons, List.mem_nil_iff, or_false] at ht hT
  rcases ht with rfl | rfl | rfl | rfl | rfl | rfl <;> rcases hT with rfl | rfl | rfl | rfl | rfl <;> with_unfolding_all rfl
theorem tyN_in {h : HI} {d : Dt} {t : String} (e : tyN h d = some t) : t ∈ ["NoneType", "bool", "int", "str", "tuple", "list"] := by
  cases d with
  | ref n =>
    simp only [tyN] at e
    split at e
    · cases e; decide
    · cases e
  | ntp n => simp only [tyN] at e; cases e
  | err n m k => simp only [tyN] at e; cases e
  | _ => simp only [tyN] at e <;> cases e <;> decide
theorem tyN_D {K : PySem.W.Frag} {H : Hp} {ρ : Rg} {h : HI} {d : Dt} {v : V} {t : String} (S : SimH K ρ h H) (R : RelD K H ρ d v) (e : tyN h d = some t) : TyD K H v t := by
  cases d with
  | non => cases rel_non.mp R; simp only [tyN] at e; cases e; rfl
  | bl b => cases rel_bl.mp R; simp only [tyN] at e; cases e; rfl
  | int b => cases rel_int.mp R; simp only [tyN] at e; cases e; rfl
  | str b => cases rel_str.mp R; simp only [tyN] at e; cases e; rfl
  | tup xs =>
    obtain ⟨a, vs, z, t, rs⟩ := rel_tup.mp R
    subst z
    simp only [tyN] at e
    cases e
    exact .inr ⟨rfl, vs, t.sq⟩
  | lst xs =>
    obtain ⟨a, vs, z, t, rs⟩ := rel_lst.mp R
    subst z
    simp only [tyN] at e
    cases e
    exact .inl ⟨rfl, vs, t.sq⟩
  | ref n =>
    obtain ⟨a, z, ha⟩ := rel_ref.mp R
    subst z
    simp only [tyN] at e
    split at e
    · rename_i xs q
      cases e
      obtain ⟨vs, h1, _⟩ := S.lst ha q
      exact .inl ⟨rfl, vs, SqL.of h1⟩
    · cases e
  | ntp n => simp only [tyN] at e; cases e
  | err n m k => simp only [tyN] at e; cases e
theorem em_isi {T : Str} {TT : String} (hg : Gl X "isinstance") (hm : X.mg "isinstance" = none) (hgT : Gl X T) (hmT : X.mg T = none) (hv : bootBuiltins T = some (.type TT)) (hT : TT ∈ ["bool", "int", "str", "tuple", "list"]) (ha : EM X e f)
    (hnT : T ≠ "__name__" := by decide) (hdT : (T == ("__debug__" : Str)) = false := by decide)
    (hs : notStar e = true := by rfl) :
    EM X (.Call (.Name "isinstance" p) [e, .Name T p2] [] pos) (eIsi TT f) := by
  with_unfolding_all
    exact PE.imp (pe_callB (call_isi (T := TT)) hg hm PyProof.Rows.boot_isinstance (pa_cons ha (pa_cons (pe_bltn hgT hmT hv (v := .ty TT) rfl hnT hdT) pa_nil (star_of rfl _ _)) (star_of hs _ _)) (he := star_of hs _ _)) fun σ H Q ⟨ρ, l, h, d, h', S, L, e, k⟩ => by
        obtain ⟨⟨d1, h1⟩, e1, e⟩ := bindE e
        refine ⟨ρ, l, h, d1, h1, S, L, e1, fun ρ1 v H1 R1 S1 E1 => ?_⟩
        cases q : tyN h1 d1 with
        | none => rw [q] at e; cases e
        | some t =>
          rw [q] at e
          cases e
          exact ⟨v, t, isT t TT, rfl, tyN_D S1 R1 q, kit_all X.K t (tyN_in q) TT hT, k ρ1 _ H1 (rel_bl.mpr rfl) S1 E1⟩
end
end SM
namespace SM
open PySem PySem.Spec PyProof.Rows L2
section
variable {X : Cx} {pins : List (Addr × Obj)} {σ : L2.St} {H : Hp} {s : Shared} {ρ : Rg}
open Classical in
end
section
variable {X : Cx} {a b : Expr} {fa fb : RE}
end
theorem law_sp {K : PySem.W.Frag} {F : FnI} {n : Nat} (h : ∀ ns : List Int, ns.length ≤ n → ∃ h', F [.lst (ns.map Dt.int)] [] = some (.bl true, h')) (H : Hp) (a : Addr) (ns : List Int) (hl : ns.length ≤ n) (hS : SqL K H a (ns.map V.int)) :
    spM K 1 F [.ref a] H (fun v _ => v = .bl true) fun _ _ _ => False := by
  obtain ⟨h', e⟩ := h ns hl
  have R : RelD K H .nil (.lst (ns.map Dt.int)) (.ref a) := rel_lst.mpr ⟨a, _, rfl, by
    rcases hS with hS | hS
    · exact .inl ⟨⟨by simp [Rg.nil], by simp [Rg.nil]⟩, hS⟩
    · exact .inr hS, RelDs.ints ns⟩
  exact ⟨.nil, [.lst (ns.map Dt.int)], [], .bl true, h', SimH.nil, .cons R .nil, rfl, e, fun ρ' v H' R' S' E' => rel_bl.mp R'⟩
end SM
namespace SM
open PySem PySem.Spec PyProof.Rows L2
structure Cal (P : Program) (w : World) (K : PySem.W.Frag) (mg : Str → Option Value) (base : Heap) (k n : Nat) (x : Str) (F : FnI) : Prop where
  ex : ∃ f fd ps, FnOk P w K mg base CX0 k f fd ps (spM K n F) ∧ mg x = some (.ref f) ∧ PySem.W.keepIn K (.ref f) = true ∧ Binds K fd ps []
  len : ∀ ds h r, F ds h = some r → ds.length = n
structure DefAt (K : PySem.W.Frag) (mg : Str → Option Value) (x : Str) (st : Stmt) (ps : List Str) : Prop where
  ex : ∃ f fd, Fun K x x st f fd ∧ mg x = some (.ref f) ∧ Binds K fd ps []
section
variable {P : Program} {w : World} {K : PySem.W.Frag} {mg : Str → Option Value} {base : Heap}
theorem fn_okN {x qual : Str} {st : Stmt} {f : Addr} {fd : FuncData} {N ps : List Str} {k n m : Nat} {body : RS} (F : Fun K x qual st f fd) (S : FnScope N ps (defScope st)) (hn : ps.length = n) (hm : N.length = m)
    (hb : ∀ (cdv : Value) (A : Around) (outer : List Env) (s : Shared) (H : Hp) (E : XK), Room k (A.deeper (envOfC qual (defScope st) s.heap.objs.size f cdv)) →
      ZMs (cxOf CX0 P w K mg base N qual (defScope st) f cdv A outer s H E).nox (defBody st) body) : FnOk P w K mg base CX0 (k + 1) f fd ps (spM K n (fnI n m body)) := by
  with_unfolding_all
    subst hn hm
    exact fn_ok F S hb
theorem cal_of {x : Str} {st : Stmt} {N ps : List Str} {k n m : Nat} {body : RS} (D : DefAt K mg x st ps) (S : FnScope N ps (defScope st)) (hn : ps.length = n) (hm : N.length = m)
    (hb : ∀ (f : Addr) (cdv : Value) (A : Around) (outer : List Env) (s : Shared) (H : Hp) (E : XK), Room k (A.deeper (envOfC x (defScope st) s.heap.objs.size f cdv)) →
      ZMs (cxOf CX0 P w K mg base N x (defScope st) f cdv A outer s H E).nox (defBody st) body) : Cal P w K mg base (k + 1) n x (fnI n m body) := by
  with_unfolding_all
    subst hn hm
    obtain ⟨f, fd, hF, hm, hB⟩ := D.ex
    exact ⟨⟨f, fd, ps, fn_ok hF S fun cdv A outer s H E hr => hb f cdv A outer s H E hr, hm, hF.kp, hB⟩, fun ds h r e => fnI_len e⟩
end
section
variable {X : Cx} {k k' n : Nat} {F : FnI} {x : Str} {p pos : Pos} {e : Expr} {es : List Expr} {g : RA}
theorem em_call (c : Cal X.prog X.w X.K X.mg X.base k n x F) (hr : Room k' X.A) (hk : k ≤ k') (hg : Gl X x) (ha : AM X (e :: es) g) (hdb : (x == ("__debug__" : Str)) = false := by decide)
    (he : notStar e = true := by rfl) (hpl : es.all notStar = true := by rfl) :
    EM X (.Call (.Name x p) (e :: es) [] pos) (eCall F [] g) := by
  with_unfolding_all
    obtain ⟨f, fd, ps, h1, h2, h3, h4⟩ := c.ex
    exact em_callD h1 (hr.mono hk) hg h2 h3 h4 .nil (fun _ _ => .nil) ha (fun F' e ds h r q => c.len ds h r (e ▸ q)) hdb he hpl
end
theorem law_walk {l : PySem.W.OpenLaw} {q : Program} {loose : List Str} {XP : (Str → Option Value) → Heap → Prop} {YP : World → Heap → Prop} {d : DefRec} {K : Params → PySem.W.Frag} {F : FnI} {k : Nat} {x : Str} (hn : l.most = some 63) (hdf : d.params.defaults = []) (hr : Room k callerA)
    (hY : ∀ (w : World) (h : Heap), YP w h → (K w.params).In h)
    (hF : ∀ (w : World) (mg : Str → Option Value) (fa : Addr) (h : Heap), (K w.params).In h → h.Ns mainGlobals mg → mg d.name = some (.ref fa) →
      ∃ fd : FuncData, (∀ (s : Shared) (u : Value), BindsTo s fd ⟨[u], []⟩ [(x, u)]) ∧ ∀ base : Heap, (K w.params).In base → base.Ns mainGlobals mg → FnOk l.prog w (K w.params) mg base CX0 k fa fd [x] (spM (K w.params) 1 F))
    (h : ∀ ns : List Int, ns.length ≤ 63 → ∃ h', F [.lst (ns.map Dt.int)] [] = some (.bl true, h')) : PySem.W.WalkO q loose XP YP l.row.toRowW d [] (fun f vs => PySem.call f vs) :=
  L2.walk_of (n := 63) (k := k) (x := x) (CX := fun _ => CX0) (sp := fun w => spM (K w.params) 1 F) hn (by decide) hdf hr hY hF (fun w H a ns hl _ hS => law_sp h H a ns hl hS) fun _ _ _ _ _ z => z
end SM
namespace L2
open PySem PySem.Spec PyProof.Rows
section
variable {X : Cx}
end
end L2
namespace SM
open PySem PySem.Spec PyProof.Rows L2
section
variable {X : Cx} {e : Expr} {f : RE} {p pos : Pos}
end
end SM
namespace L2
open PySem PySem.Spec PyProof.Rows
section
variable {X : Cx} {pins : List (Addr × Obj)} {σ : List (Option V)} {H : Hp} {s : Shared} {h' : Heap}
end
section
variable {X : Cx}
end
end L2
namespace SM
open PySem PySem.Spec PyProof.Rows L2
section
variable {X : Cx}
end
end SM
namespace SM
open PySem PySem.Spec PyProof.Rows L2
end SM
namespace L2
open PySem PySem.Spec PyProof.Rows
section
variable {X : Cx}
end
section
variable {X : Cx} {pins : List (Addr × Obj)} {σ : List (Option V)} {H : Hp} {s : Shared} {h' : Heap}
end
section
variable {X : Cx}
end
end L2
namespace SM
open PySem PySem.Spec PyProof.Rows L2
section
variable {X : Cx} {e o i a b : Expr} {f g fe fo fi fa fb : RE} {p pos pos' : Pos}
end
section
variable {K : PySem.W.Frag} {H : Hp} {ρ : Rg} {h : HI}
theorem SimH.bare (S : SimH K ρ h H) : SimH K ⟨[], ρ.z⟩ [] H := ⟨List.nodup_nil, rfl, fun _ _ _ e => by simp at e, fun a ha => ⟨by simp, (S.zt a ha).2⟩⟩
theorem TupAt.bare {a : Addr} {vs : List V} (t : TupAt K H ρ a vs) : TupAt K H ⟨[], ρ.z⟩ a vs := by
  rcases t with ⟨n, t⟩ | t
  · exact .inl ⟨⟨by simp, n.2⟩, t⟩
  · exact .inr t
theorem LstAt.bare {a : Addr} {vs : List V} (t : LstAt K H ρ a vs) : LstAt K H ⟨[], ρ.z⟩ a vs := by
  rcases t with ⟨n, t⟩ | t
  · exact .inl ⟨⟨by simp, n.2⟩, t⟩
  · exact .inr t
end
section
variable {X : Cx}
end
end SM
namespace SM
open PySem PySem.Spec PyProof.Rows L2
section
variable {X : Cx} {e o i a b : Expr} {f g fe fo fi fa fb : RE} {p pos pos' apos cpos : Pos}
end
end SM
namespace L2
open PySem PySem.Spec PyProof.Rows
section
variable {X : Cx}
end
end L2
namespace SM
open PySem PySem.Spec PyProof.Rows L2
section
variable {X : Cx} {e o i a b : Expr} {f g fe fo fi fa fb : RE} {p pos pos' apos cpos : Pos}
end
end SM
namespace L2
open PySem PySem.Spec PyProof.Rows

section
variable {κ : Type} [DecidableEq κ]
def dropK (kvs : List (κ × V)) (k : κ) : List (κ × V) := kvs.filter fun kv => decide (kv.1 ≠ k)


theorem RelO.getD {o : Option V} {u : Option Value} {d : V} {d' : Value} (r : RelO o u) (rd : RelV d d') : RelV (o.getD d) (u.getD d') := by
  cases o with
  | none => cases u with
    | none => exact rd
    | some _ => exact (show False from r).elim
  | some _ => cases u with
    | none => exact (show False from r).elim
    | some _ => exact r

theorem KV.drop {kvs : List (κ × V)} {vs : List (κ × Value)} (r : KV kvs vs) (k : κ) : KV (dropK kvs k) (without vs k) := by
  unfold KV at r ⊢
  unfold dropK without
  induction r with
  | nil => exact .nil
  | @cons p q ps qs h t ih =>
    obtain ⟨h1, h2⟩ := h
    rw [List.filter_cons, List.filter_cons]
    by_cases e : p.1 = k
    · have a : ¬ decide (p.1 ≠ k) = true := by simp [e]
      have b : ¬ decide (q.1 ≠ k) = true := by simp [h1.symm.trans e]
      rw [if_neg a, if_neg b]; exact ih
    · have e' : ¬ q.1 = k := fun z => e (h1.trans z)
      have a : decide (p.1 ≠ k) = true := by simp [e]
      have b : decide (q.1 ≠ k) = true := by simp [e']
      rw [if_pos a, if_pos b]; exact .cons ⟨h1, h2⟩ ih
theorem KV.keys {kvs : List (κ × V)} {vs : List (κ × Value)} (r : KV kvs vs) : kvs.map (·.1) = vs.map (·.1) := by
  unfold KV at r
  induction r with
  | nil => rfl
  | cons h t ih => rw [List.map_cons, List.map_cons, ih, h.1]
theorem KV.length {kvs : List (κ × V)} {vs : List (κ × Value)} (r : KV kvs vs) : kvs.length = vs.length := Paired.length r
end



abbrev KT (H : Hp) : List (List Key × V) → List (List Key × Addr × Value) → Prop := Paired fun p q => p.1 = q.1 ∧ H q.2.1 = some (.tup (p.1.map kV)) ∧ RelV p.2 q.2.2
theorem KT.keeps {H H' : Hp} {kvs : List (List Key × V)} {xs : List (List Key × Addr × Value)} (r : KT H kvs xs) (ht : ∀ b ys, H b = some (.tup ys) → H' b = some (.tup ys)) : KT H' kvs xs :=
  Paired.mapP r fun _ _ z => ⟨z.1, ht _ _ z.2.1, z.2.2⟩

section
variable {P : Program} {w : World} {H : Hp} {h : Heap} {a : Addr}
end



section
variable {X : Cx} {pins : List (Addr × Obj)} {σ : St} {H : Hp} {s : Shared} {a : Addr} {y v : V} {u r : Value} {o : Option V} {A : Around} {E : Value → Shared → Prop}


end

section
variable {X : Cx} {pins : List (Addr × Obj)} {σ : St} {H : Hp} {s : Shared} {a : Addr} {kvs : List (Key × V)} {k : Key} {u : Value} {A : Around} {E : Value → Shared → Prop}
end





section
variable {X : Cx} {o i e value : Expr} {pos pos' tpos : Pos} {td ty tv : TE}
end


section
variable {X : Cx} {pos : Pos}
end






section
variable {X : Cx} {pins : List (Addr × Obj)} {σ : St} {H : Hp} {s : Shared} {a : Addr} {y d : V} {u r : Value} {o : Option V} {A : Around} {E : Value → Shared → Prop}
end

section
variable {X : Cx} {o e f : Expr} {apos cpos : Pos} {td ty tx : TE}
end

section
variable {X : Cx} {pins : List (Addr × Obj)} {σ : St} {H : Hp} {s : Shared} {a : Addr} {kvs : List (Key × V)} {A : Around} {E : Value → Shared → Prop}
end


section
variable {X : Cx} {pins : List (Addr × Obj)} {σ : St} {H : Hp} {s : Shared} {a : Addr} {y : V} {u : Value} {A : Around} {E : Value → Shared → Prop}
end
end L2

namespace L2
open PySem PySem.Spec PyProof.Rows
section
variable {prog : Program} {w : World} {A : Around} {E : Value → Shared → Prop} {s : Shared}
end
section
variable {X : Cx}
end
end L2
namespace SM
open PySem PySem.Spec PyProof.Rows L2
section
variable {K : PySem.W.Frag} {H : Hp} {ρ : Rg}
abbrev KD (K : PySem.W.Frag) (H : Hp) (ρ : Rg) (kvs : List (List Int × Dt)) (vs : List (List Key × V)) : Prop := vs.map (·.1) = kvs.map (fun p => p.1.map Sum.inl) ∧ RelDs K H ρ (kvs.map (·.2)) (vs.map (·.2))
theorem KD.unnil {vs : List (List Key × V)} (r : KD K H ρ [] vs) : vs = [] := by
  have := r.1
  simpa using this
theorem KD.uncons {p : List Int × Dt} {kvs : List (List Int × Dt)} {vs : List (List Key × V)} (r : KD K H ρ (p :: kvs) vs) : ∃ v rs, vs = (p.1.map Sum.inl, v) :: rs ∧ RelD K H ρ p.2 v ∧ KD K H ρ kvs rs := by
  obtain ⟨h1, h2⟩ := r
  cases vs with
  | nil => simp at h1
  | cons q rs =>
    simp only [List.map_cons, List.cons.injEq] at h1
    obtain ⟨v, r', e, g1, g2⟩ := RelDs.uncons (by simpa only [List.map_cons] using h2)
    simp only [List.map_cons, List.cons.injEq] at e
    obtain ⟨q1, q2⟩ := q
    have h11 : q1 = p.1.map Sum.inl := h1.1
    have e1 : q2 = v := e.1
    subst e1
    exact ⟨q2, rs, by rw [h11], g1, h1.2, by rw [e.2]; exact g2⟩
theorem KD.cons {p : List Int × Dt} {v : V} {kvs : List (List Int × Dt)} {vs : List (List Key × V)} (g : RelD K H ρ p.2 v) (r : KD K H ρ kvs vs) : KD K H ρ (p :: kvs) ((p.1.map Sum.inl, v) :: vs) :=
  ⟨by simp only [List.map_cons]; rw [r.1], .cons g r.2⟩
theorem KD.length {kvs : List (List Int × Dt)} {vs : List (List Key × V)} (r : KD K H ρ kvs vs) : vs.length = kvs.length := by
  have := congrArg List.length r.1
  simpa using this
end
section
variable {X : Cx} {e o i d a b f : Expr} {fe fo fi fa fb fy fx : RE} {pos pos' apos cpos : Pos}
end
end SM
namespace L2
open PySem PySem.Spec PyProof.Rows
section
variable {prog : Program} {w : World} {A : Around} {R : Result → Shared → Prop} {I : Addr} {fp wr : List Addr} {n : Nat} {P : Nat → Value → Prop} {St : Nat → Heap → Prop}
end
section
variable {prog : Program} {w : World} {A : Around} {E : Value → Shared → Prop} {s : Shared}
end
end L2
namespace L2
open PySem PySem.Spec PyProof.Rows
section
variable {X : Cx} {e d : Expr} {ta : TA} {td : TE} {p pos kp : Pos}
end
end L2
namespace SM
open PySem PySem.Spec PyProof.Rows L2
section
variable {X : Cx} {e d : Expr} {fa fd : RE} {p pos kp : Pos}
end
end SM
namespace L2
open PySem PySem.Spec PyProof.Rows
section
variable {X : Cx}
end
end L2
namespace SM
open PySem PySem.Spec PyProof.Rows L2
section
variable {X : Cx} {e : Expr} {f : RE} {p p' pos pos' : Pos}
end
end SM
namespace L2
open PySem PySem.Spec PyProof.Rows
section
variable {X : Cx} {tg : Expr}
end
end L2
namespace SM
open PySem PySem.Spec PyProof.Rows L2
section
variable {X : Cx} {tg : Expr}
end
theorem ifE2 {c : Prop} [Decidable c] {α : Type} {x : Option α} {b : α} (e : (if c then x else none) = some b) : c ∧ x = some b := by
  by_cases h : c
  · rw [if_pos h] at e
    exact ⟨h, e⟩
  · rw [if_neg h] at e
    cases e
def clsOf (K : PySem.W.Frag) (x : Str) (C : Addr) : Prop := PySem.W.nsIn K mainGlobals x = some (some (.ref C))
theorem clsOf.inj {K : PySem.W.Frag} {x : Str} {C C' : Addr} (h : clsOf K x C) (h' : clsOf K x C') : C = C' := by
  have := h.symm.trans h'
  cases this
  rfl
section
variable {P : Program} {w : World} {K : PySem.W.Frag} {mg : Str → Option Value} {base : Heap}
end
section
variable {X : Cx} {e o value : Expr} {es : List Expr} {x f m : Str} {fo fe : RE} {g : RA} {pos pos' apos p : Pos} {k k' n : Nat} {F : FnI}
end
end SM
namespace SM
open PySem PySem.Spec PyProof.Rows L2
section
variable {P : Program} {w : World} {K : PySem.W.Frag} {mg : Str → Option Value} {base : Heap}
end
section
variable {X : Cx} {k k' n : Nat} {F : FnI} {x : Str} {p pos : Pos} {e : Expr} {es : List Expr} {g : RA} {dds : List Dt}
end
def DefK (K : PySem.W.Frag) (x : Str) (st : Stmt) : Prop := ∃ (f : Addr) (oc : Value) (od : Option Addr) (kV dc pm : Value) (an : Option Addr) (cd ct : Value) (sl : Array (Option Value)), PySem.W.nsIn K mainGlobals x = some (some (.ref f)) ∧
  K.lookup f = some ⟨oc, od, .func (PySem.W.fnOf x x (defArgs st) (defBody st) (defScope st) .none kV dc pm an cd ct), sl⟩ ∧ PySem.W.codeIn K cd x = true ∧ PySem.W.keepIn K (.ref f) = true
section
variable {K : PySem.W.Frag} {h : Heap} {mg : Str → Option Value} {x m qual : Str} {st : Stmt} {ps : List Str} {C : Addr} {d : Int}
theorem defk_at (X : K.In h) (G : h.Ns mainGlobals mg) (D : DefK K x st) (hb : ∀ (kV doc pm : Value) (an : Option Addr) (cdv ct : Value) (us : List Value), us.length = ps.length → bindArgs (PySem.W.fnOf x x (defArgs st) (defBody st) (defScope st) .none kV doc pm an cdv ct) ⟨us, []⟩ = pure (ps.zip us)) : DefAt K mg x st ps := by
  obtain ⟨f, oc, od, kV, dc, pm, an, cd, ct, sl, a, l, c, k⟩ := D
  have F := fun_mk l c k
  exact ⟨⟨f, _, F, PySem.W.mg_of X G a, F.binds hb⟩⟩
end
section
variable {Q : List Value → Prop}
theorem len0 (h : Q []) : ∀ us : List Value, us.length = 0 → Q us | [], _ => h
theorem lenS {n : Nat} (h : ∀ a us, us.length = n → Q (a :: us)) : ∀ us : List Value, us.length = n + 1 → Q us | a :: us, e => h a us (Nat.succ.inj e)
theorem len1 (h : ∀ a, Q [a]) : ∀ us : List Value, us.length = 1 → Q us := lenS fun a => len0 (h a)
theorem len2 (h : ∀ a b, Q [a, b]) : ∀ us : List Value, us.length = 2 → Q us := lenS fun a => lenS fun b => len0 (h a b)
end
theorem mkSc {N P : List Str} {sc : Scope} (a : sc.kind = .function := by exact rfl) (b : sc.isCoroutine = false := by exact rfl) (c : sc.isGenerator = false := by exact rfl) (d : N.Nodup := by decide +kernel) (e : N.take P.length = P := by exact rfl)
    (f : ∀ x ∈ P, sc.names.lookup x = some .local ∨ sc.names.lookup x = some .cell := by decide +kernel) (g : ∀ y ∈ sc.names, y.2 ≠ .free := by decide +kernel) : FnScope N P sc := ⟨a, b, c, d, e, f, g⟩
theorem em_c {X : Cx} {k k' n : Nat} {x : Str} {F : FnI} {e : Expr} {es : List Expr} {g : RA} {p pos : Pos} (c : Cal X.prog X.w X.K X.mg X.base k n x F) (hr : Room k' X.A) (ha : AM X (e :: es) g) (hk : k ≤ k' := by decide) (hg : Gl X x := by exact rfl) (hdb : (x == ("__debug__" : Str)) = false := by decide)
    (he : notStar e = true := by rfl) (hpl : es.all notStar = true := by rfl) : EM X (.Call (.Name x p) (e :: es) [] pos) (eCall F [] g) := em_call c hr hk hg ha hdb he hpl
end SM
namespace L2
open PySem PySem.Spec PyProof.Rows
section
variable {X : Cx}
end
end L2
namespace SM
open PySem PySem.Spec PyProof.Rows L2
section
variable {X : Cx} {a b : Expr} {fa fb : RE}
end
end SM
namespace L2
open PySem PySem.Spec PyProof.Rows
section
variable {P : Program} {w : World} {A : Around} {E : Value → Shared → Prop} {h : Heap} {g : Array GenState} {d : Drawn} {t : Nat} {os : OsState}
variable {nm q : Str} {C N : Addr} {bs bm bt : List Value} {hd : Bool} {sn : List Str} {sub : List Value} {ab : Bool} {col : Option Bool} {dd : Option Addr} {k0 k1 k2 k3 k5 : Option Value} {B nw ini : String}
abbrev xNew (h : Heap) (C : Addr) : Obj := { cls := .ref C, data := .fields #[.ref h.objs.size, .none, .none, .none, .bool false, .none] }
abbrev xArg (us : List Value) : Obj := { cls := .type "tuple", data := .seq us.toArray }
abbrev xHeap (h : Heap) (C : Addr) (us : List Value) : Heap := (h.push (xArg us)).push (xNew h C)
theorem xHeap_old {us : List Value} {b : Addr} {o : Obj} (e : h.get? b = some o) : (xHeap h C us).get? b = some o := Heap.get?_push_of_some _ (Heap.get?_push_of_some _ e)
theorem xHeap_new {us : List Value} : (xHeap h C us).get? (h.objs.size + 1) = some (xNew h C) := by heap_get
theorem make_exc (F : ExcBaseFacts B nw ini bt) (T : OwnTail h bt bm) {mN : Str → Option Value} {us : List Value} {f : Addr} {o : Obj} {Q : Fin → Shared → Prop} (hC : h.get? C = some (excClassObj nm q C N bs bm hd sn sub ab col dd k0 k1 k2 k3 k5 nw)) (hn : h.Ns N mN)
    (hi : mN "__init__" = some (.ref f)) (hf : h.get? f = some o) (ho : o.cls = .type "function")
    (go : wpAny (model P w) A (call (.ref f) (.ref (h.objs.size + 1) :: us)) (fun r s' => r = .none ∧ Q (.done (.ret (.ref (h.objs.size + 1)))) s') E ⟨xHeap h C us, g, d, t, os⟩) (hz : us.length ≤ sizeLine := by size_fits) :
    wpAny (model P w) A (Builtin.«type.__call__» ⟨.ref C :: us, []⟩) Q E ⟨h, g, d, t, os⟩ := by
  repeat (first | with_reducible refine wpAny_loadPart_at hC ?_ | with_reducible refine wpAny_madeBy_exc hC ?_ | wp_step)
  refine codeAny_call_builtin_code (Code.quiet_builtin _ F.quiet) (wpAny_check_new_subT F T hC (codeAny_exc_new_subT F T hC ?_ hz))
  show wpAny _ _ _ _ _ _
  have c1 : (xHeap h C us).get? C = some _ := xHeap_old hC
  have n1 : (xHeap h C us).Ns N mN := let ⟨o, es, ep, e, r⟩ := hn; ⟨o, es, ep, xHeap_old e, r⟩
  have i1 : (Value.ref C :: bm).contains (.ref C) = true := by simp
  have x1 := xHeap_new (h := h) (C := C) (us := us)
  unfold isInstance
  repeat (first | with_reducible refine wpAny_loadPart_at x1 ?_ | (with_reducible refine wpAny_isSubtype_exc c1 ?_; rw [i1]) | wp_step)
  show wpAny _ _ (typeLookup (.ref C) _) _ _ _
  refine wpAny_typeLookup_tail c1 n1 (T.keeps fun b o e => xHeap_old e) F.mroIs F.init.lookup ?_
  rw [hi]
  refine wpAny_holding (wpAny_bind ?_)
  unfold bindSpecial
  refine wpAny_bind (wpAny_typeOf (T := "function") ⟨_, xHeap_old hf, ho⟩ ?_)
  rw [if_pos (by decide)]
  refine wpAny_pure (wpAny_bind (wpAny_mono go (fun r s' ⟨hr, hQ⟩ => ?_) fun _ _ x => x))
  subst hr
  wp_walk
  exact hQ
theorem call_exc (F : ExcBaseFacts B nw ini bt) (T : OwnTail h bt bm) {mN : Str → Option Value} {us : List Value} {f : Addr} {o : Obj} {Q : Value → Shared → Prop} (hC : h.get? C = some (excClassObj nm q C N bs bm hd sn sub ab col dd k0 k1 k2 k3 k5 nw)) (hn : h.Ns N mN)
    (hi : mN "__init__" = some (.ref f)) (hf : h.get? f = some o) (ho : o.cls = .type "function")
    (go : wpAny (model P w) (A.under (.builtin "type.__call__" ⟨.ref C :: us, []⟩)) (call (.ref f) (.ref (h.objs.size + 1) :: us)) (fun r s' => r = .none ∧ Q (.ref (h.objs.size + 1)) s') E ⟨xHeap h C us, g, d, t, os⟩) (hz : us.length ≤ sizeLine := by size_fits) :
    wpAny (model P w) A (call (.ref C) us) Q E ⟨h, g, d, t, os⟩ := by
  have f1 := tc_lookup; have f2 := tc_bind (.ref C); have hT : (⟨h, g, d, t, os⟩ : Shared).TypeIs (.ref C) "type" := ⟨_, hC, rfl⟩
  refine wpAny_call (codeAny_of_tree ?_)
  show wpAny _ _ (callAny (.ref C) _) _ _ _
  repeat (any_goals (first | assumption | with_reducible refine wpAny_loadPart_at hC ?_ | wp_step))
  exact ⟨rfl, codeAny_call_builtin_at (Code.quiet_builtin _ (by decide +kernel)) entry_typeCall (wpAny_check_type_call_sub hC (make_exc F T hC hn hi hf ho go hz))⟩
end
end L2
namespace L2
open PySem PySem.Spec PyProof.Rows PySem.W
section
variable {P : Program} {w : World} {A : Around} {E : Value → Shared → Prop} {s : Shared} {K : PySem.W.Frag} {x C : Addr} {ox : Obj} {od : Option Obj} {n : Str} {ex : Bool} {Q : Value → Shared → Prop} {v : Value}
theorem xget (X : K.In s.heap) (I : InstAt s.heap x ox C od) (ha : findIn K (.ref C) "__getattribute__" = some (some (.builtin "BaseException.__getattribute__"))) (hk : findIn K (.ref C) "__getattr__" = some none)
    (hb : mroIn K C (.type "BaseException") = some true) (hf : findObj K C od n = some (.value v)) (hh : handedIn v = true) (h : Q v { s with toks := s.toks + 1 }) : wpAny (model P w) A (getAttr (.ref x) n ex) Q E s := by
  obtain ⟨hp, g, d, t, os⟩ := s
  have L0 := I.type (M := model P w)
  have L1 := looks_findIn (M := model P w) X ha
  have L2 := looks_find (M := model P w) X I hf
  have e1 : (Value.builtin "BaseException.__getattribute__" == Value.builtin "object.__getattribute__") = false := by decide +kernel
  unfold getAttr getAttrBy
  refine wpAny_bind (wpAny_mkText (wpAny_holding (wpAny_bind (L0.at (wpAny_bind (L1.at ?_))))))
  dsimp only
  rw [e1, Bool.and_false, if_neg Bool.false_ne_true]
  refine wpAny_bind ((looks_hook X (mc := .ref C) (r := none) (by rw [if_pos (by rfl)]; exact hk)).at (wpAny_bind (wpAny_attempt (wpAny_holding ?_))))
  unfold callGetattribute
  rw [show (ex && onTheHeap (Value.builtin "BaseException.__getattribute__")) = false from Bool.and_false _, if_neg Bool.false_ne_true]
  unfold boundAndCalled
  rw [PySem.F.attr_ValueError.ga.bind]
  refine wpAny_bind (wpAny_pure ?_)
  show wpAny _ _ (call (.builtin "BaseException.__getattribute__") [.ref x, .str n t]) _ _ _
  refine wpAny_call (codeAny_call_builtin PySem.F.attr_ValueError.ga.plain PySem.F.entry_bexc_ga ?_)
  refine @check_slot (model P w) _ _ ⟨hp, g, d, t + 1, os⟩ "BaseException.__getattribute__" "BaseException" "__getattribute__" (.ref x) [.str n t] [] _ (by decide +kernel) (by decide +kernel) (L0.andThen (looks_mroIn X hb)) (PySem.F.args_bexc_ga _ _) ?_
  unfold Builtin.«object.__getattribute__»
  refine wpAny_bind (wpAny_pure (wpAny_bind (wpAny_pure (wpAny_bind (L0.at (wpAny_bind (L2.at (wpAny_pure ?_))))))))
  show wpAny _ _ (handedOut v) _ _ _
  rw [handedOut_of hh]
  exact wpAny_pure h
end
end L2
namespace L2
open PySem PySem.Spec PyProof.Rows PySem.W
def overErr : List Value → Bool
  | .ref _ :: r => overErr r
  | l => l == [.type "ValueError", .type "Exception", .type "BaseException", .type "object"]
theorem refuse_err (y : Value) : ∀ {l : List Value}, overErr l = true → PySem.refuseLoop y "__setattr__" l = pure ()
  | .ref c :: r, e => by rw [PySem.refuseLoop_ref]; exact refuse_err y (l := r) e
  | [], e => by cases e
  | .none :: _, e => by cases e
  | .type x :: r, e => by rw [beq_iff_eq.mp (show (Value.type x :: r == _) = true from e)]; exact PySem.F.store_ValueError.passes y
  | .bool _ :: _, e => by simp [overErr] at e
  | .int _ _ :: _, e => by simp [overErr] at e
  | .float _ _ :: _, e => by simp [overErr] at e
  | .str _ _ :: _, e => by simp [overErr] at e
  | .bytes _ _ :: _, e => by simp [overErr] at e
  | .ellipsis :: _, e => by simp [overErr] at e
  | .notImplemented :: _, e => by simp [overErr] at e
  | .builtin _ :: _, e => by simp [overErr] at e
theorem over_has : ∀ {l : List Value}, overErr l = true → l.contains (.type "object") = true := by
  intro l
  induction l with
  | nil => intro e; cases e
  | cons a r ih =>
    intro e
    cases a with
    | ref c => rw [List.contains_cons, ih e, Bool.or_true]
    | _ => rw [beq_iff_eq.mp (show (_ :: r == _) = true from e)]; decide
section
variable {P : Program} {w : World} {A : Around} {E : Value → Shared → Prop} {s : Shared} {K : PySem.W.Frag} {x C : Addr} {ox : Obj} {n : Str} {Q : Unit → Shared → Prop} {v : Value} {cd : ClassData}
theorem xset (X : K.In s.heap) (hx : s.heap.get? x = some ox) (hc : ox.cls = .ref C) (hn : ox.dict = none) {vs : Array Value} (hd : ox.data = .fields vs) (hs : findIn K (.ref C) "__setattr__" = some (some (.builtin "object.__setattr__")))
    (hk : clsIn K C = some cd) (ho : overErr cd.mro = true) (hh : cd.hasDict = true) (ht : takerIn K C n = some none)
    (h : ∀ h' tk, h'.get? x = some { ox with dict := some s.heap.objs.size } → h'.Ns1 s.heap.objs.size (fun y => if y = n then some v else none) → (∀ b o, b ≠ x → s.heap.get? b = some o → h'.get? b = some o) → Q () { s with heap := h', toks := tk }) :
    wpAny (model P w) A (setAttr (.ref x) n v) Q E s := by
  have I : InstAt s.heap x ox C none := ⟨hx, hc, by unfold notCls; rw [hd], by rw [hn]; trivial⟩
  refine PySem.W.set_plain X I hs ?_
  have SF := PySem.F.store_object
  have ne : cd.mro.isEmpty = false := by cases q : cd.mro with | nil => rw [q] at ho; cases ho | cons _ _ => rfl
  have sub : Looks (model P w) s.heap (isInstance (.ref x) (.type "object")) true := I.type.andThen (looks_mroIn X (by unfold mroIn; rw [hk, Option.bind_some, if_neg (by rw [ne]; decide), over_has ho]))
  refine codeAny_call_builtin SF.slot.plain SF.entry (@check_slot (model P w) _ _ { s with toks := s.toks + 1 } "object.__setattr__" "object" "__setattr__" (.ref x) [.str n s.toks, v] [] _ SF.kind SF.split sub (SF.args (.ref x) (.str n s.toks) v) ?_)
  obtain ⟨attr, ha, hr⟩ := Option.bind_eq_some_iff.mp ht
  have hm : Looks (model P w) s.heap (mroOf (.ref C)) cd.mro := (looks_clsIn X hk).andThen .now
  have L3 : Looks (model P w) s.heap (PySem.Builtin.ObjectAttr.storeTaker? attr) none := by
    cases attr with
    | none => exact .now
    | some a =>
      obtain ⟨b, hb, e⟩ := Option.map_eq_some_iff.mp hr
      refine (looks_takesIn X hb).andThen ?_
      cases b with
      | false => exact .now
      | true => cases e
  rw [osa_eq, PySem.refuse_eq]
  obtain ⟨hp, g, d, t, os⟩ := s
  refine wpAny_bind (wpAny_bind (I.type.at (wpAny_bind (hm.at ?_))))
  rw [refuse_err _ ho]
  refine wpAny_pure (wpAny_bind (I.type.at (wpAny_bind ((looks_findIn X ha).at (wpAny_bind (L3.at ?_))))))
  dsimp only
  unfold PySem.Builtin.ObjectAttr.storeInOwnDict
  obtain ⟨oc, odi, oda, osl⟩ := ox
  dsimp only at hc hn hd
  subst hc hn hd
  refine wpAny_bind (wpAny_pure (wpAny_bind (wpAny_bind (wpAny_loadPart hx ?_))))
  refine wpAny_bind ((looks_clsIn X hk).at ?_)
  rw [hh, if_neg (by decide)]
  dsimp only
  rw [if_neg (by simp [typeHasDict])]
  have x1 : (hp.push { cls := .type "dict", data := .dict #[] }).get? x = some _ := Heap.get?_push_of_some _ hx
  have xn : x ≠ hp.objs.size := Nat.ne_of_lt (Heap.lt_size hx)
  refine wpAny_bind (wpAny_alloc' (wpAny_bind (wpAny_update' x1 (wpAny_pure ?_))))
  have d1 : ((hp.push { cls := .type "dict", data := .dict #[] }).update x fun o => { cls := o.cls, dict := some hp.objs.size, data := o.data, slots := o.slots }).get? hp.objs.size = some { cls := .type "dict", data := .dict #[] } :=
    (Heap.get?_update_ne _ _ _ _ xn.symm).trans (Heap.get?_push_at rfl rfl)
  have u1 : ((hp.push { cls := .type "dict", data := .dict #[] }).update x fun o => { cls := o.cls, dict := some hp.objs.size, data := o.data, slots := o.slots }).get? x = some ⟨.ref C, some hp.objs.size, .fields vs, osl⟩ := Heap.get?_update_self _ x1 rfl
  have n1 : ((hp.push { cls := .type "dict", data := .dict #[] }).update x fun o => { cls := o.cls, dict := some hp.objs.size, data := o.data, slots := o.slots }).Ns hp.objs.size (fun _ => none) := ⟨_, #[], _, d1, rfl, fun e he => absurd he (by simp), fun _ => rfl⟩
  show wpAny _ _ (PySem.Builtin.ObjectAttr.storeInDict hp.objs.size (.str n t) n v) _ _ _
  unfold PySem.Builtin.ObjectAttr.storeInDict PySem.Builtin.ObjectAttr.newKeyGuard
  refine wpAny_bind (wpAny_pure (wpAny_bind (wpAny_nsSet1 (Heap.Ns1.of_empty n1) fun h' hn' hs => ?_)))
  obtain ⟨oD, esD, epD, hoD, hdD, hcD⟩ := hn'.count (Within.cons n v Within.nil)
  refine wpAny_bind (wpAny_lookBehind hoD (by rw [hdD]; exact pastItsLine_dict (Nat.le_trans hcD (by rw [List.length_cons, List.length_nil, sizeLine_eq]; omega))) ?_)
  wp_walk
  exact h h' _ ((hs.2 x xn).trans u1) hn' fun b o hb e => (hs.2 b (Nat.ne_of_lt (Heap.lt_size e))).trans ((Heap.get?_update_ne _ _ _ _ hb).trans (Heap.get?_push_of_some _ e))
end
end L2
namespace L2
open PySem PySem.Spec PyProof.Rows PySem.W
section
variable {P : Program} {w : World} {A : Around} {E : Value → Shared → Prop} {h : Heap} {g : Array GenState} {d : Drawn} {t : Nat} {os : OsState} {x : Addr} {ox : Obj} {Q : Value → Shared → Prop} {v : Value}
variable {nm q : Str} {C N : Addr} {bs bm bt : List Value} {hd : Bool} {sn : List Str} {sub : List Value} {ab : Bool} {col : Option Bool} {dd : Option Addr} {k0 k1 k2 k3 k5 : Option Value} {B nw ini : String}
theorem xini (F : ExcBaseFacts B nw ini bt) (T : OwnTail h bt bm) (hC : h.get? C = some (excClassObj nm q C N bs bm hd sn sub ab col dd k0 k1 k2 k3 k5 nw)) {t0 : Addr} (hx : h.get? x = some (xObj C t0 none))
    (go : ∀ h', h'.get? x = some (xObj C h.objs.size none) → (∀ b o, b ≠ x → h.get? b = some o → h'.get? b = some o) → Q .none ⟨h', g, d, t, os⟩) :
    wpAny (model P w) A (call (.builtin ini) [.ref x, v]) Q E ⟨h, g, d, t, os⟩ := by
  refine wpAny_call (codeAny_call_builtin F.init.plain F.initEntry (wpAny_check_init_subT F T hC hx rfl ?_))
  unfold Builtin.«BaseException.__init__»
  have x1 : (h.push { cls := .type "tuple", data := .seq #[v] }).get? x = some (xObj C t0 none) := Heap.get?_push_of_some _ hx
  wp_walk
  refine go _ ?_ fun b o hb e => ?_
  · rw [Heap.get?_update_self _ x1 rfl]
    rfl
  · rw [Heap.get?_update_ne _ _ _ _ hb]
    exact Heap.get?_push_of_some _ e
end
end L2
namespace L2
open PySem PySem.Spec PyProof.Rows PySem.W
inductive Shows : Int → V → Str → Prop
  | int (i : Int) (h : i.natAbs.log2 < 1920) : Shows (-1) (.int i) (Str.ofString (toString i))
  | rep (x : Str) (h : (reprText x).length ≤ 100000) : Shows 114 (.str x) (reprText x)
theorem Shows.len {c : Int} {y : V} {z : Str} (h : Shows c y z) : z.length ≤ 100000 := by
  cases h with
  | int i h =>
    have := int_text_length_le (k := 1920) (by decide) h
    rw [PySem.ofString_length]; omega
  | rep x h => exact h
section
variable {X : Cx} {v : Expr} {te : TE} {a b : Str} {c : Int} {pos p1 p2 : Pos} {j1 j2 : Nat}
def FV (X : Cx) (pins : List (Addr × Obj)) (σ : St) (Q : Str → Hp → Prop) (u : Value) (s' : Shared) : Prop := ∃ z t H', u = .str z t ∧ Inv X pins σ H' s' ∧ z.length ≤ 100000 ∧ Q z H'
theorem pe_fval (hc : c = -1 ∨ c = 114) (he : PE X v te) {pins : List (Addr × Obj)} {s : Shared} {σ : St} {H : Hp} {Q : Str → Hp → Prop} (I : Inv X pins σ H s) (h : te σ H fun y H1 => ∃ z, Shows c y z ∧ Q z H1) :
    wpAny (model X.prog X.w) X.A (eval (.FormattedValue v c none pos) X.env) (FV X pins σ Q) X.xe s := by
  rcases hc with rfl | rfl
  · refine wpAny_FormattedValue_plain (thn (he pins s σ H _ I h) fun u s1 ⟨y, H1, I1, r, z, sh, q⟩ => ?_)
    have hl := sh.len
    cases sh with
    | int i hi =>
      obtain ⟨t, rfl⟩ := r
      exact wpAny_formatField_int hi ⟨_, _, H1, rfl, I1.tok _, hl, q⟩
  · refine wpAny_FormattedValue_repr (thn (he pins s σ H _ I h) fun u s1 ⟨y, H1, I1, r, z, sh, q⟩ => ?_)
    have hl := sh.len
    cases sh with
    | rep x hx =>
      obtain ⟨t, rfl⟩ := r
      have hz : (reprText x).length ≤ sizeLine := by rw [sizeLine_eq]; omega
      refine wpAny_pyReprObj_str ?_ hz
      exact wpAny_formatField_str ⟨_, _, H1, rfl, I1.tok _, hl, q⟩ ⟨_, _, H1, rfl, (I1.tok _).tok _, hl, q⟩ hz
def tFst (c : Int) (te : TE) : TE := fun σ H Q => te σ H fun y H1 => ∃ z, Shows c y z ∧ ∀ x, Q (.str x) H1
theorem pe_fstr3 (hc : c = -1 ∨ c = 114) (he : PE X v te) (ha : a.length ≤ 1000) (hb : b.length ≤ 1000) :
    PE X (.JoinedStr [.Constant (.str a) j1 p1, .FormattedValue v c none pos, .Constant (.str b) j2 p2] p) (tFst c te) := by
  intro pins s σ H Q I h
  refine wpAny_JoinedStr ?_
  show wpAny _ _ (eval (.Constant (.str a) j1 p1) X.env) _ _ _
  have l0 : Str.empty.length = 0 := rfl
  refine Calls.Constant_str ⟨a, _, rfl, by rw [strLen_append, l0, sizeLine_eq]; omega, ?_⟩
  show wpAny _ _ (eval (.FormattedValue v c none pos) X.env) _ _ _
  refine thn (pe_fval hc he (I.tok _) (Q := fun _ H1 => ∀ x, Q (.str x) H1) h) fun u s1 ⟨z, t, H1, e, I1, hz, q⟩ => ⟨z, t, e, by rw [strLen_append, strLen_append, l0, sizeLine_eq]; omega, ?_⟩
  show wpAny _ _ (eval (.Constant (.str b) j2 p2) X.env) _ _ _
  have hl : (Str.empty ++ a ++ z ++ b).length ≤ sizeLine := by rw [strLen_append, strLen_append, strLen_append, l0, sizeLine_eq]; omega
  exact Calls.Constant_str ⟨b, _, rfl, hl, hl, ⟨.str _, H1, (I1.tok _).tok _, ⟨_, rfl⟩, q _⟩⟩
theorem pe_fstr2 (hc : c = -1 ∨ c = 114) (he : PE X v te) (ha : a.length ≤ 1000) :
    PE X (.JoinedStr [.Constant (.str a) j1 p1, .FormattedValue v c none pos] p) (tFst c te) := by
  intro pins s σ H Q I h
  refine wpAny_JoinedStr ?_
  show wpAny _ _ (eval (.Constant (.str a) j1 p1) X.env) _ _ _
  have l0 : Str.empty.length = 0 := rfl
  refine Calls.Constant_str ⟨a, _, rfl, by rw [strLen_append, l0, sizeLine_eq]; omega, ?_⟩
  show wpAny _ _ (eval (.FormattedValue v c none pos) X.env) _ _ _
  refine thn (pe_fval hc he (I.tok _) (Q := fun _ H1 => ∀ x, Q (.str x) H1) h) fun u s1 ⟨z, t, H1, e, I1, hz, q⟩ => ?_
  have hl : (Str.empty ++ a ++ z).length ≤ sizeLine := by rw [strLen_append, strLen_append, l0, sizeLine_eq]; omega
  exact ⟨z, t, e, hl, hl, ⟨.str _, H1, I1.tok _, ⟨_, rfl⟩, q _⟩⟩
end
end L2
namespace L2
open PySem PySem.Spec PyProof.Rows PySem.W
abbrev vMro : List Value := [.type "ValueError", .type "Exception", .type "BaseException", .type "object"]
def errIn (K : Frag) (C f : Addr) : Bool := match K.lookup C with
  | some ⟨.type "type", _, .cls cd, sl⟩ => (match cd.mro, sl.toList with
    | .ref D :: bm, [_, _, _, _, some (.builtin n), _] =>
      D == C && (n == "ValueError.__new__" && (!cd.hasDel && (tailIn K vMro bm && (nsOkIn K cd.ns && nsIn K cd.ns "__init__" == some (some (.ref f))))))
    | _, _ => false)
  | _ => false
theorem nsv_of {K : Frag} {h : Heap} {N : Addr} {m : Str → Option Value} {n : Str} {v : Value} (X : K.In h) (G : h.Ns N m) (e : nsIn K N n = some (some v)) : m n = some v := by
  obtain ⟨o, es, ep, ho, hd, _, hf⟩ := G
  unfold nsIn at e
  split at e
  · rename_i q
    have z := X _ _ q
    rw [ho] at z; cases z; cases hd
    split at e
    · rename_i he; cases e; rw [← hf]; unfold nsFind findBy; rw [← Array.find?_toList, he]; rfl
    · split at e <;> cases e
  · cases e
theorem err_of {K : Frag} {h : Heap} {C f : Addr} (X : K.In h) (q : errIn K C f = true) : ∃ nm qn N bs bm hd sn sub ab col dd k0 k1 k2 k3 k5, ∃ mN : Str → Option Value,
    h.get? C = some (excClassObj nm qn C N bs bm hd sn sub ab col dd k0 k1 k2 k3 k5 "ValueError.__new__") ∧ h.Ns N mN ∧ mN "__init__" = some (.ref f) ∧ OwnTail h vMro bm := by
  unfold errIn at q
  split at q
  · rename_i dd cd sl ho
    split at q
    · rename_i D bm k0 k1 k2 k3 n k5 hm hs
      simp only [Bool.and_eq_true, beq_iff_eq, Bool.not_eq_true'] at q
      obtain ⟨rfl, rfl, hdel, ht, hok, hni⟩ := q
      obtain ⟨nm, bs, mro, ns, qn, hd, sn, sub, ab, col, del⟩ := cd
      dsimp only at hm hdel hok hni
      subst hm hdel
      obtain ⟨sl⟩ := sl
      dsimp only at hs
      subst hs
      exact ⟨nm, qn, ns, bs, bm, hd, sn, sub, ab, col, dd, k0, k1, k2, k3, k5, _, X _ _ ho, .of_isNs (isNs_of_in X hok), nsv_of X (.of_isNs (isNs_of_in X hok)) hni, tail_of_in X ht⟩
    · cases q
  · cases q
theorem xo_ok {P : Program} {w : World} {H : Hp} {h : Heap} {a C t0 : Addr} {dx : Option Addr} (e : h.get? a = some (xObj C t0 dx)) : ObjOk P w H h a (XO a C t0 dx) := ⟨e, ⟨_, e⟩, fun _ _ p k => k _ p⟩
section
variable {X : Cx} {CX : CXT} {k : Nat} {f C : Addr} {fd : FuncData} {ps : List Str} {sp : Sp} {E : XK} {x : Str} {p pos : Pos} {e : Expr} {es : List Expr} {t : TA} {dvs : List V} {ds : List Value}
theorem run_mkerr {pins : List (Addr × Obj)} {σ : St} {H : Hp} {s : Shared} {Q : VK} {us : List Value} {vs : List V} (M : errIn X.K C f = true) (hfn : isFn X.K (.ref f) = true) (F : FnOk X.prog X.w X.K X.mg X.base CX k f fd ps sp) (hr : Room (k + 1) X.A) (hb : Binds X.K fd ps [])
    (hx : Passes CX X E) (hz : ps.length ≤ 100) (I : Inv X pins σ H s) (r : Vals vs us)
    (h : ∀ x t0, H x = none → sp (.ref x :: vs) (upd H x (XO x C t0 none)) (fun v H2 => v = .non ∧ Q (.ref x) H2) E) :
    wpAny (model X.prog X.w) X.A (call (.ref C) us) (EP X pins σ Q) X.xe s := by
  have hq := h (s.heap.objs.size + 1) s.heap.objs.size (I.hok.fresh (Nat.le_succ _))
  obtain ⟨nm, qn, N, bs, bm, hd, sn, sub, ab, col, dd, k0, k1, k2, k3, k5, mN, hC, hn, hi, T⟩ := err_of I.kIn M
  have I2 := I.laid (a := s.heap.objs.size + 1) (o := XO (s.heap.objs.size + 1) C s.heap.objs.size none) (h' := xHeap s.heap C us) (t' := s.toks) (fun b u q => xHeap_old q) (Nat.le_succ _) (xo_ok xHeap_new)
  have r2 : Vals (V.ref (s.heap.objs.size + 1) :: vs) (Value.ref (s.heap.objs.size + 1) :: us) := .cons rfl r
  have hl0 : (Value.ref (s.heap.objs.size + 1) :: us).length = ps.length := by
    have e := r2.length
    rw [F.len _ _ _ _ hq] at e
    exact e.symm
  have hl : (Value.ref (s.heap.objs.size + 1) :: us ++ []).length = ps.length := by rw [List.append_nil]; exact hl0
  have hty := looks_typeIn (M := model X.prog X.w) I.kIn (beq_iff_eq.mp hfn)
  obtain ⟨o, ho, hoc⟩ : ∃ o, s.heap.get? f = some o ∧ o.cls = .type "function" := by
    have z := beq_iff_eq.mp hfn
    obtain ⟨o, ho, hc⟩ := Option.map_eq_some_iff.mp (show (X.K.lookup f).map (·.cls) = some (.type "function") from z)
    exact ⟨o, I.kIn _ _ ho, hc⟩
  obtain ⟨hp, g, d, tk, os⟩ := s
  refine call_exc PySem.F.excBase_ValueError T hC hn hi ho hoc ?_ (by rw [List.length_cons] at hl0; rw [sizeLine_eq]; omega)
  refine wpAny_call (codeAny_mono (F.run _ X.stack _ _ ⟨Value.ref (hp.objs.size + 1) :: us, []⟩ (Value.ref (hp.objs.size + 1) :: us) _ _ E (hr.make C us [])
    (I2.env0.make C us []) (by have := hb _ (Value.ref (hp.objs.size + 1) :: us) I2.kIn hl; rw [List.append_nil] at this; exact this) r2 hq) fun r s' hq' => ?_)
  cases r with
  | error e => exact hx pins σ _ _ e s' I2 hq'
  | ok fl =>
    cases fl with
    | ret u =>
      obtain ⟨v, H', I3, rv, ev, q3⟩ := I2.after hq'
      subst ev
      exact ⟨rv, ⟨V.ref (hp.objs.size + 1), H', I3, rfl, q3⟩⟩
    | next => exact False.elim hq'
    | brk => exact False.elim hq'
    | cont => exact False.elim hq'
def tMkErr (C : Addr) (sp : Sp) (E : XK) (t : TA) : TE := fun σ H Q => t σ H fun vs H1 => ∀ x t0, H1 x = none → sp (.ref x :: vs) (upd H1 x (XO x C t0 none)) (fun v H2 => v = .non ∧ Q (.ref x) H2) E
theorem pe_mkerr (M : errIn X.K C f = true) (hfn : isFn X.K (.ref f) = true) (kp : keepIn X.K (.ref C) = true) (F : FnOk X.prog X.w X.K X.mg X.base CX k f fd ps sp) (hr : Room (k + 1) X.A) (hg : Gl X x) (hm : X.mg x = some (.ref C)) (hb : Binds X.K fd ps []) (hx : Passes CX X E) (hz : ps.length ≤ 100)
    (ha : PA X (e :: es) t) (hdb : (x == ("__debug__" : Str)) = false) (he : starEach (e :: es) X.env = (false, eval e X.env) :: starEach es X.env) (hpl : (backTo pos (starEach es X.env)).any (·.1) = false) :
    PE X (.Call (.Name x p) (e :: es) [] pos) (tMkErr C sp E t) := by
  intro pins s σ H Q I h
  refine wpAny_Call_Name_kw (ld_glob I hg hm ?_ hdb)
  refine PySem.W.callWith_K (h₀ := X.base) I.ok.mod.kin kp (thn (ha pos pins s σ H _ I h) fun us s1 ⟨vs, H1, I1, r, q⟩ => ⟨I1.kIn, ?_⟩) he hpl
  exact run_mkerr M hfn F hr hb hx hz I1 r q
end
end L2
namespace L2
open PySem PySem.Spec PyProof.Rows PySem.W
def errGet (K : Frag) (C : Addr) : Bool :=
  findIn K (.ref C) "__getattribute__" == some (some (.builtin "BaseException.__getattribute__")) && (findIn K (.ref C) "__getattr__" == some none && (mroIn K C (.type "BaseException") == some true &&
  (findIn K (.ref C) "__setattr__" == some (some (.builtin "object.__setattr__")) && ((clsIn K C).any fun cd => overErr cd.mro && cd.hasDict))))
def baseIn (K : Frag) (S : Addr) : Bool := specialIn K (.ref S) "__getattribute__" == some (some (.builtin "type.__getattribute__")) && (readsIn K S (.type "type") && (match findCls K (.ref S) (.type "type") "__init__" with | some (.val v) => v == .builtin "ValueError.__init__" | _ => false))
theorem base_of {K : Frag} {S : Addr} (h : baseIn K S = true) : specialIn K (.ref S) "__getattribute__" = some (some (.builtin "type.__getattribute__")) ∧ readsIn K S (.type "type") = true ∧ findCls K (.ref S) (.type "type") "__init__" = some (.val (.builtin "ValueError.__init__")) := by
  simp only [baseIn, Bool.and_eq_true, beq_iff_eq] at h
  refine ⟨h.1, h.2.1, ?_⟩
  have q := h.2.2
  split at q
  · rename_i v e; rw [e, beq_iff_eq.mp q]
  · cases q
section
variable {X : Cx} {C f S : Addr} {x fl : Str} {p pos apos pos' : Pos} {e o value : Expr} {es : List Expr} {t : TA} {ta tv : TE}
def tXini (K : Frag) (t : TA) : TE := fun σ H Q => t σ H fun vs H1 => ∃ a C t0 z f, vs = [.ref a, .str z] ∧ H1 a = some (XO a C t0 none) ∧ errIn K C f = true ∧ ∀ t1, Q .non (upd H1 a (XO a C t1 none))
theorem pe_xini {pl : Sem Bool} (hS : baseIn X.K S = true) (hg : Gl X x) (hm : X.mg x = some (.ref S)) (ha : PA X (e :: es) t) (hdb : (x == ("__debug__" : Str)) = false)
    (hst : starEach (e :: es) X.env = (false, eval e X.env) :: starEach es X.env) (hpl : (backTo pos (starEach es X.env)).any (·.1) = false)
    (ht : eval (.Call (.Attribute (.Name x p) "__init__" apos) (e :: es) [] pos) X.env = (do
      let ov ← eval (.Name x p) X.env
      standAt apos.atName
      let (f, first) ← holding [ov] (getMethod ov "__init__" pl)
      callWith pos f first (backTo pos (starEach (e :: es) X.env)) (backToKw pos (keywordEach [] X.env)))) :
    PE X (.Call (.Attribute (.Name x p) "__init__" apos) (e :: es) [] pos) (tXini X.K t) := by
  intro pins s σ H Q I h
  have hS := base_of hS
  refine PySem.W.methodCall_KW (pl := pl) (ld_glob I hg hm ?_ hdb) ht
  refine method_cls I.kIn hS.1 (cls_value I.kIn hS.2.1 hS.2.2 (by decide +kernel) ?_)
  have hA := ha pos pins _ σ H _ (I.tok (s.toks + 1)) h
  rw [hst] at hA ⊢
  refine Calls.callWith_builtin (by show (false || (backTo pos (starEach es X.env)).any (·.1)) = false; rw [hpl] <;> rfl) (Calls.evalArgs_plain ?_)
  refine thn hA fun us s1 ⟨vs, H1, I1, r, a, C, t0, z, f, ev, eh, er, q⟩ => ?_
  subst ev
  obtain ⟨u1, u2, rfl, r1, r2⟩ := Vals.two r
  cases (show u1 = Value.ref a from r1)
  obtain ⟨nm, qn, N, bs, bm, hd, sn, sub, ab, col, dd, k0, k1, k2, k3, k5, mN, hC, hn, hi, T⟩ := err_of I1.kIn er
  have hx := (I1.hok a _ eh).1
  obtain ⟨hp, g, d, tk, os⟩ := s1
  refine xini PySem.F.excBase_ValueError T hC hx fun h' hx' hk => ?_
  exact ⟨.non, _, I1.write (x := a) (e := a) (by rw [eh]; exact True.intro) (.inl rfl) (fun b u hb e => hk b u hb e) ⟨_, hx'⟩ (xo_ok hx'), rfl, q _⟩
def sXset (K : Frag) (ta tv : TE) (f : Str) : TS := fun D σ H => tv σ H fun y H1 => ta σ H1 fun x H2 => ∃ a C t0, x = .ref a ∧ H2 a = some (XO a C t0 none) ∧ errGet K C = true ∧ findIn K (.ref C) f = some none ∧
  ∀ dx, H2 dx = none → D.nx σ (upd (upd H2 dx (.xd [(f, y)])) a (XO a C t0 (some dx)))
theorem errGet_of {K : Frag} {C : Addr} (h : errGet K C = true) : findIn K (.ref C) "__getattribute__" = some (some (.builtin "BaseException.__getattribute__")) ∧ findIn K (.ref C) "__getattr__" = some none ∧ mroIn K C (.type "BaseException") = some true ∧
    findIn K (.ref C) "__setattr__" = some (some (.builtin "object.__setattr__")) ∧ ∃ cd, clsIn K C = some cd ∧ overErr cd.mro = true ∧ cd.hasDict = true := by
  simp only [errGet, Bool.and_eq_true, beq_iff_eq] at h
  obtain ⟨h1, h2, h3, h4, h5⟩ := h
  obtain ⟨cd, e, q⟩ := any_some h5
  rw [Bool.and_eq_true] at q
  exact ⟨h1, h2, h3, h4, cd, e, q⟩
theorem ps_xset (ha : PE X o ta) (hv : PE X value tv) (hs : swapsWith value (some (.Attribute o fl pos')) pos.line X.env = pure false) : PS X (.Assign [.Attribute o fl pos'] value pos) (sXset X.K ta tv fl) := by
  intro pins s σ H D I h
  refine plainObj_wpAny_Assign_Attribute (thn (hv pins s σ H _ I h) fun u s1 ⟨y, H1, I1, ry, q⟩ => thn (ha pins s1 σ H1 _ I1 q) fun ov s2 ⟨x, H2, I2, rx, a, C, t0, ex, ea, eg, en, q2⟩ => ?_) hs
  subst ex
  obtain rfl : ov = Value.ref a := rx
  obtain ⟨_, _, _, g4, cd, g5, g6, g7⟩ := errGet_of eg
  have hx := (I2.hok a _ ea).1
  have ta : takerIn X.K C fl = some none := NoAttr.taker (show NoAttr X.K C fl from en)
  refine xset I2.kIn hx rfl rfl rfl g4 g5 g6 g7 ta fun h' tk hx' hns hk => ?_
  have hf : H2 s2.heap.objs.size = none := I2.hok.fresh (Nat.le_refl _)
  have na : a ≠ s2.heap.objs.size := ne_of_none ea hf
  obtain ⟨od, es, ep, hod, hns'⟩ := hns
  have m1 : (s2.heap.push od).get? s2.heap.objs.size = some od := Heap.get?_push_at rfl (Heap.get?_some_iff.mp hod).2
  have I3 := I2.laid (a := s2.heap.objs.size) (o := .xd [(fl, y)]) (h' := s2.heap.push od) (t' := s2.toks) (fun b u e => Heap.get?_push_of_some _ e) (Nat.le_refl _) ⟨_, ⟨od, es, ep, m1, hns'⟩, fun g => by
    by_cases z : g = fl
    · subst z
      have zb : (g == g) = true := beq_iff_eq.mpr rfl
      simp only [List.lookup, zb]; exact ry
    · have zb : (g == fl) = false := by rw [← Bool.not_eq_true, beq_iff_eq]; exact z
      simp only [List.lookup, zb, if_neg z]; exact True.intro⟩
  have ea3 : upd H2 s2.heap.objs.size (.xd [(fl, y)]) a = some (XO a C t0 none) := by rw [upd_ne na]; exact ea
  have I4 := I3.write (x := a) (e := a) (o := XO a C t0 (some s2.heap.objs.size)) (h' := h') (t' := tk) (by rw [ea3]; exact True.intro) (.inl rfl) (fun b u hb e => ?_) ⟨_, hx'⟩ (xo_ok hx')
  · exact ⟨σ, _, I4, q2 _ hf⟩
  · rcases Heap.get?_push_cases e with ⟨rfl, rfl⟩ | e
    · exact hod
    · exact hk b u hb e
def tXfld (K : Frag) (ta : TE) (f : Str) : TE := fun σ H Q => ta σ H fun x H1 => ∃ a C t0 dx y, x = .ref a ∧ H1 a = some (XO a C t0 (some dx)) ∧ H1 dx = some (.xd [(f, y)]) ∧ errGet K C = true ∧ findIn K (.ref C) f = some none ∧ (∃ i, y = .int i ∨ ∃ z, y = .str z) ∧ Q y H1
theorem look_ns {h : Heap} {a : Addr} {m : Str → Option Value} {o : Obj} {n : Str} {v : Value} (N : h.Ns1 a m) (ho : h.get? a = some o) (e : m n = some v) : lookIn n o = some (some v) := by
  obtain ⟨o', es, ep, h1, h2, h3, h4, h5⟩ := N
  rw [ho] at h1; cases h1
  have z := h5 n
  rw [e] at z
  unfold nsFind findBy at z
  rw [← Array.find?_toList] at z
  unfold lookIn
  rw [h2]
  dsimp only
  obtain ⟨en, q1, q2⟩ := Option.map_eq_some_iff.mp z
  rw [q1]
  simp only [q2]
theorem pe_xfld (he : PE X e ta) (hb : attributeBase e fl X.env (eval e X.env) = eval e X.env) : PE X (.Attribute e fl pos) (tXfld X.K ta fl) := by
  intro pins s σ H Q I h
  refine attr_of hb (thn (he pins s σ H _ I h) fun u s1 ⟨x, H1, I1, rx, a, C, t0, dx, y, ex, ea, ed, eg, en, ey, q⟩ => ?_)
  subst ex
  obtain rfl : u = Value.ref a := rx
  obtain ⟨g1, g2, g3, _, cd, g5, g6, g7⟩ := errGet_of eg
  have hx := (I1.hok a _ ea).1
  obtain ⟨mA, N, r⟩ := (show ObjOk X.prog X.w H1 s1.heap dx (.xd [(fl, y)]) from I1.hok dx _ ed)
  obtain ⟨od, es, ep, hod, N'⟩ := id N
  have r1 := r fl
  have zb : (fl == fl) = true := beq_iff_eq.mpr rfl
  simp only [List.lookup, zb] at r1
  cases q0 : mA fl with
  | none => rw [q0] at r1; exact False.elim r1
  | some v =>
    rw [q0] at r1
    have ll := look_ns N hod q0
    have J : InstAt s1.heap a (xObj C t0 (some dx)) C (some od) := ⟨hx, rfl, rfl, hod⟩
    have hh : handedIn v = true := by
      rcases ey with ⟨i, rfl | ⟨z, rfl⟩⟩
      · obtain ⟨t, rfl⟩ := (show ∃ t, v = Value.int i t from r1); rfl
      · obtain ⟨t, rfl⟩ := (show ∃ t, v = Value.str z t from r1); rfl
    refine xget I1.kIn J g1 g2 g3 ?_ hh ⟨y, H1, I1.tok _, r1, q⟩
    unfold findObj
    rw [g5, Option.bind_some, en, Option.bind_some]
    simp [PySem.W.ownOf, g7, ll]
end
end L2
namespace L2
open PySem PySem.Spec PyProof.Rows PySem.W
section
variable {P : Program} {w : World} {A : Around} {E : Value → Shared → Prop} {s : Shared} {K : PySem.W.Frag} {x C : Addr} {ox od : Obj} {n : Str} {ex : Bool} {v : Value}
theorem xcls {Q : Option Value → Shared → Prop} (X : K.In s.heap) (I : InstAt s.heap x ox C (some od)) (hd : (clsIn K C).isSome = true) (ha : findIn K (.ref C) "__getattribute__" = some (some (.builtin "BaseException.__getattribute__"))) (hk : findIn K (.ref C) "__getattr__" = some none)
    (hb : mroIn K C (.type "BaseException") = some true) (c1 : findIn K (.ref C) "__class__" = some (some (.builtin "object.__class__"))) (c2 : specialIn K (.builtin "object.__class__") "__get__" = some (some (.builtin "getset_descriptor.__get__")))
    (c3 : takesIn K (.builtin "object.__class__") = some true) (c4 : mroIn K C (.type "object") = some true) (h : Q (some (.ref C)) { s with toks := s.toks + 1 }) : wpAny (model P w) A (getAttr? (.ref x) "__class__") Q E s := by
  obtain ⟨hp, g, d, t, os⟩ := s
  have L0 := I.type (M := model P w)
  have L1 := looks_findIn (M := model P w) X ha
  have hf : findObj K C (some od) "__class__" = some (.bind (.builtin "getset_descriptor.__get__") (.builtin "object.__class__")) := findObj_data hd c1 c2 c3
  have L2 := looks_find (M := model P w) X I hf
  have e1 : (Value.builtin "BaseException.__getattribute__" == Value.builtin "object.__getattribute__") = false := by decide +kernel
  unfold getAttr? getAttrBy? getAttrBy
  refine wpAny_bind (wpAny_mkText (wpAny_bind (wpAny_attempt (wpAny_holding (wpAny_bind (L0.at (wpAny_bind (L1.at ?_))))))))
  dsimp only
  rw [e1, Bool.and_false, if_neg Bool.false_ne_true]
  refine wpAny_bind ((looks_hook X (mc := .ref C) (r := none) (by rw [if_pos (by rfl)]; exact hk)).at (wpAny_bind (wpAny_attempt (wpAny_holding ?_))))
  unfold callGetattribute
  rw [show (false && onTheHeap (Value.builtin "BaseException.__getattribute__")) = false from rfl, if_neg Bool.false_ne_true]
  unfold boundAndCalled
  rw [PySem.F.attr_ValueError.ga.bind]
  refine wpAny_bind (wpAny_pure ?_)
  show wpAny _ _ (call (.builtin "BaseException.__getattribute__") [.ref x, .str "__class__" t]) _ _ _
  refine wpAny_call (codeAny_call_builtin PySem.F.attr_ValueError.ga.plain PySem.F.entry_bexc_ga ?_)
  refine @check_slot (model P w) _ _ ⟨hp, g, d, t + 1, os⟩ "BaseException.__getattribute__" "BaseException" "__getattribute__" (.ref x) [.str "__class__" t] [] _ (by decide +kernel) (by decide +kernel) (L0.andThen (looks_mroIn X hb)) (PySem.F.args_bexc_ga _ _) ?_
  unfold Builtin.«object.__getattribute__»
  refine wpAny_bind (wpAny_pure (wpAny_bind (wpAny_pure (wpAny_bind (L0.at (wpAny_bind (L2.at ?_)))))))
  show wpAny _ _ (holding [Value.builtin "object.__class__"] (call (.builtin "getset_descriptor.__get__") [.builtin "object.__class__", .ref x, .ref C]) >>= ret) _ _ _
  refine wpAny_bind (wpAny_holding (wpAny_call (class_get (s := ⟨hp, g, d, t + 1, os⟩) (ox := ox) (od := some od) X I c4 (wpAny_pure ?_))))
  exact wpAny_mono (handed_on rfl (Q := fun v s' => v = .ref C ∧ s' = ⟨hp, g, d, t + 1, os⟩) ⟨rfl, rfl⟩) (fun v s' ⟨e1, e2⟩ => by subst e1 e2; exact wpAny_pure h) fun _ _ z => z
theorem kx_err (hd : (clsIn K C).isSome = true) (ha : findIn K (.ref C) "__getattribute__" = some (some (.builtin "BaseException.__getattribute__"))) (hk : findIn K (.ref C) "__getattr__" = some none)
    (hb : mroIn K C (.type "BaseException") = some true) (c1 : findIn K (.ref C) "__class__" = some (some (.builtin "object.__class__"))) (c2 : specialIn K (.builtin "object.__class__") "__get__" = some (some (.builtin "getset_descriptor.__get__")))
    (c3 : takesIn K (.builtin "object.__class__") = some true) (c4 : mroIn K C (.type "object") = some true) : KitX K (.ref x) (.ref C) (fun h => InstAt h x ox C (some od)) := by
  obtain ⟨cd, hcd⟩ := Option.isSome_iff_exists.mp hd
  have at_ : ∃ c' d' sl', K.lookup C = some ⟨c', d', .cls cd, sl'⟩ := by
    unfold clsIn at hcd
    split at hcd
    · rename_i c' d' cd' sl' ho; cases hcd; exact ⟨c', d', sl', ho⟩
    · cases hcd
  obtain ⟨c', d', sl', ho⟩ := at_
  refine ⟨fun _ _ _ I => I.type, fun _ _ X _ => ?_, fun h tp dd its n sl X htp => ?_, fun X I k => xcls X I hd ha hk hb c1 c2 c3 c4 k⟩
  · intro A1 Q1 E1 s1 k1 q1
    unfold isType loadHead
    refine wpAny_bind (wpAny_loadPart (k1 _ _ (X _ _ ho)) ?_)
    exact wpAny_pure q1
  · rw [Bool.eq_false_iff]
    intro q
    cases Value.ref.inj (beq_iff_eq.mp q)
    cases (X _ _ ho).symm.trans htp
end
def errCls (K : Frag) (C : Addr) : Bool := errGet K C && (findIn K (.ref C) "__class__" == some (some (.builtin "object.__class__")) && (specialIn K (.builtin "object.__class__") "__get__" == some (some (.builtin "getset_descriptor.__get__")) &&
  (takesIn K (.builtin "object.__class__") == some true && mroIn K C (.type "object") == some true)))
section
variable {X : Cx} {pins : List (Addr × Obj)} {σ : St} {H : Hp} {s : Shared} {A : Around} {E : Value → Shared → Prop} {Q : Value → Shared → Prop} {c : Value} {b : Bool} {a C t0 dx : Addr} {fl : Str} {y : V}
theorem isi_err (I : Inv X pins σ H s) (ea : H a = some (XO a C t0 (some dx))) (ed : H dx = some (.xd [(fl, y)])) (ec : errCls X.K C = true) (e : kitOne X.K (.ref C) c = some b) (h : ∀ tk, Q (.bool b) { s with toks := tk }) :
    wpAny (model X.prog X.w) A (call (.builtin "isinstance") [.ref a, c]) Q E s := by
  simp only [errCls, Bool.and_eq_true, beq_iff_eq] at ec
  obtain ⟨eg, c1, c2, c3, c4⟩ := ec
  obtain ⟨g1, g2, g3, _, cd, g5, _⟩ := errGet_of eg
  have hx := (I.hok a _ ea).1
  obtain ⟨mA, ⟨od, es, ep, hod, _⟩, _⟩ := (show ObjOk X.prog X.w H s.heap dx (.xd [(fl, y)]) from I.hok dx _ ed)
  have J : InstAt s.heap a (xObj C t0 (some dx)) C (some od) := ⟨hx, rfl, rfl, hod⟩
  exact kia_one (kx_err (by rw [g5]; rfl) g1 g2 g3 c1 c2 c3 c4) I.kIn J e (fun z => nomatch z) h
end
end L2
namespace L2
open PySem PySem.Spec PyProof.Rows PySem.W
section
variable {X : Cx}
theorem strs_of : ∀ {ts : List Str} {us : List Value}, Vals (ts.map V.str) us → ∃ l : List (Str × Tok), us = strValues l ∧ l.map (·.1) = ts := by
  intro ts
  induction ts with
  | nil => intro us r; cases r; exact ⟨[], rfl, rfl⟩
  | cons t ts ih =>
    intro us r
    cases r with
    | cons r1 r2 =>
      obtain ⟨tk, rfl⟩ := r1
      obtain ⟨l, rfl, e⟩ := ih r2
      exact ⟨(t, tk) :: l, rfl, by rw [List.map_cons, e]⟩
theorem mt_join : MtR X "str.join" (fun x xs H Q => ∃ z p ts, x = .str z ∧ xs = [.ref p] ∧ SqL X.K H p (ts.map V.str) ∧ JoinOk z ts = true ∧ Q (.str (Str.join z ts)) H) := by
  intro pins s σ H x xs v us Q I rx rs ⟨z, p, ts, e1, e2, hq, hok, q⟩
  subst e1 e2
  obtain ⟨t, rfl⟩ := rx
  obtain ⟨u, rfl, ru⟩ := Vals.one rs
  cases (show u = Value.ref p from ru)
  obtain ⟨its, r, pl, _⟩ := I.list hq
  obtain ⟨l, rfl, hl⟩ := strs_of r
  have ej : Txt.join z ts = Str.join z ts := beq_iff_eq.mp (PyProof.Rows.join_plain_closes z ts)
  exact SC.join pl.isList hl hok fun t' k => ⟨.str _, H, I.tok k, ⟨_, by rw [ej]⟩, q⟩
end
end L2
namespace SM
open PySem PySem.Spec PyProof.Rows L2
def strsOf : List Dt → Option (List Str)
  | [] => some []
  | .str z :: r => (strsOf r).map fun ts => z :: ts
  | _ :: _ => none
theorem strs_rel {K : PySem.W.Frag} {H : Hp} {ρ : Rg} : ∀ {ds : List Dt} {ts : List Str} {vs : List V}, strsOf ds = some ts → RelDs K H ρ ds vs → vs = ts.map V.str := by
  intro ds
  induction ds with
  | nil => intro ts vs e r; cases e; exact r.unnil
  | cons d ds ih =>
    intro ts vs e r
    obtain ⟨v, w, rfl, r1, r2⟩ := RelDs.uncons r
    cases d with
    | str z =>
      simp only [strsOf] at e
      obtain ⟨ts', e1, e2⟩ := Option.map_eq_some_iff.mp e
      cases e2
      rw [ih e1 r2, rel_str.mp r1]; rfl
    | _ => simp [strsOf] at e
def eJoin (fa fb : RE) : RE := fun l h => (fa l h).bind fun r => (fb l r.2).bind fun q => match r.1, q.1 with
  | .str z, .lst xs => (strsOf xs).bind fun ts => if PySem.JoinOk z ts = true then some (.str (Str.join z ts), q.2) else none
  | _, _ => none
section
variable {X : Cx} {a b : Expr} {fa fb : RE} {apos cpos : Pos}
theorem em_join (ho : EM X a fa) (hb : EM X b fb) (hbase : attributeBase a "join" X.env (eval a X.env) = eval a X.env := by rfl)
    (hline : (apos.endLine == cpos.line) = true := by rfl) (hs : notStar b = true := by rfl) :
    EM X (.Call (.Attribute a "join" apos) [b] [] cpos) (eJoin fa fb) := by
  with_unfolding_all
    exact PE.imp (pe_bm PySem.F.plainAttrs_str PySem.F.slot_str_join PySem.F.type_str_join mt_join ho (pa_cons hb pa_nil (star_of hs _ _)) hbase (star_few hs) hline (star_of hs _ _)) fun σ H Q ⟨ρ, l, h, d, h', S, L, e, k⟩ => by
      obtain ⟨⟨d1, h1⟩, e1, e⟩ := bindE e
      obtain ⟨⟨d2, h2⟩, e2, e⟩ := bindE e
      refine ⟨ρ, l, h, d1, h1, S, L, e1, fun ρ1 v H1 R1 S1 E1 => ?_⟩
      cases d1 with
      | str z =>
        cases rel_str.mp R1
        refine ⟨rfl, ρ1, l, h1, d2, h2, S1, L.ext E1, e2, fun ρ2 y H2 R2 S2 E2 => ?_⟩
        cases d2 with
        | lst xs =>
          dsimp only at e
          obtain ⟨ts, e3, e⟩ := bindE e
          obtain ⟨ok, e⟩ := ifE2 e
          cases e
          obtain ⟨p, vs, zz, t, rs⟩ := rel_lst.mp R2
          subst zz
          have := strs_rel e3 rs
          subst this
          exact ⟨z, p, ts, rfl, rfl, t.sq, ok, k ρ2 _ H2 (rel_str.mpr rfl) S2 (E1.trans E2)⟩
        | _ => cases e
      | _ => cases e
end
end SM
namespace L2
open PySem PySem.Spec PyProof.Rows PySem.W
def spErr (C : Addr) (fl : Str) (c : Int) : Sp := fun vs H Q _ => ∃ a t0 y z, vs = [.ref a, y] ∧ H a = some (XO a C t0 none) ∧ Shows c y z ∧
  ∀ t1 dx, upd H a (XO a C t1 none) dx = none → Q .non (upd (upd (upd H a (XO a C t1 none)) dx (.xd [(fl, y)])) a (XO a C t1 (some dx)))
inductive IsTxt (c : Int) (prm : Str) : Expr → Prop
  | three {a b : Str} {j1 j2 : Nat} {p1 p2 p3 p4 pos : Pos} (ha : a.length ≤ 1000) (hb : b.length ≤ 1000) : IsTxt c prm (.JoinedStr [.Constant (.str a) j1 p1, .FormattedValue (.Name prm p4) c none pos, .Constant (.str b) j2 p2] p3)
  | two {a : Str} {j1 : Nat} {p1 p3 p4 pos : Pos} (ha : a.length ≤ 1000) : IsTxt c prm (.JoinedStr [.Constant (.str a) j1 p1, .FormattedValue (.Name prm p4) c none pos] p3)
theorem pe_txt {X : Cx} {c : Int} {prm : Str} {e : Expr} {te : TE} (t : IsTxt c prm e) (hc : c = -1 ∨ c = 114) (he : ∀ p, PE X (.Name prm p) te) : PE X e (tFst c te) := by
  cases t with
  | three ha hb => exact pe_fstr3 hc (he _) ha hb
  | two ha => exact pe_fstr2 hc (he _) ha
theorem txt_star {c : Int} {prm : Str} {e : Expr} (t : IsTxt c prm e) (es : List Expr) (env : Env) : starEach (e :: es) env = (false, eval e env) :: starEach es env := by
  cases t <;> rfl
section
variable {P : Program} {w : World} {K : Frag} {mg : Str → Option Value} {base : Heap} {qual B fl prm : Str} {st : Stmt} {f C S : Addr} {fd : FuncData} {k : Nat} {c : Int} {J : Expr} {p1 p2 p3 p4 p5 p6 p7 p8 p9 : Pos}
theorem err_fn {pl : Env → Sem Bool} (F : Fun K "__init__" qual st f fd) (Sc : FnScope ["self", prm] ["self", prm] (defScope st))
    (hb : defBody st = [.Expr (.Call (.Attribute (.Name B p1) "__init__" p2) [.Name "self" p3, J] [] p4) p5, .Assign [.Attribute (.Name "self" p6) fl p7] (.Name prm p8) p9])
    (hJ : IsTxt c prm J) (hc : c = -1 ∨ c = 114) (hC : errIn K C f = true) (hG : errGet K C = true) (hN : findIn K (.ref C) fl = some none) (hS : baseIn K S = true) (hm : mg B = some (.ref S))
    (hs1 : Vis (defScope st) "self") (hs2 : Vis (defScope st) prm) (hd2 : (prm == ("__debug__" : Str)) = false) (hd3 : (prm == ("__classdict__" : Str)) = false) (hdB : (B == ("__debug__" : Str)) = false)
    (hg : ∀ (cdv : Value) (A : Around) (outer : List Env) (s : Shared) (H : Hp) (E : XK), Gl (cxOf CX0 P w K mg base ["self", prm] qual (defScope st) f cdv A outer s H E).nox B)
    (ht : ∀ env, eval (.Call (.Attribute (.Name B p1) "__init__" p2) [.Name "self" p3, J] [] p4) env = (do
      let ov ← eval (.Name B p1) env
      standAt p2.atName
      let (f, first) ← holding [ov] (getMethod ov "__init__" (pl env))
      callWith p4 f first (backTo p4 (starEach [.Name "self" p3, J] env)) (backToKw p4 (keywordEach [] env)))) : FnOk P w K mg base CX0 (k + 1) f fd ["self", prm] (spErr C fl c) := by
  refine F.ok Sc (fun vs H Q E ⟨a, t0, y, z, e, _⟩ => by rw [e]; rfl) fun cdv A outer s H vs Q E hr ⟨a, t0, y, z, ev, ea, sh, q⟩ => ?_
  have v0 : ∀ p, PE (cxOf CX0 P w K mg base ["self", prm] qual (defScope st) f cdv A outer s H E).nox (.Name "self" p) (tVar 0) := fun p => pe_var rfl hs1 (by decide) (by decide)
  have v1 : ∀ p, PE (cxOf CX0 P w K mg base ["self", prm] qual (defScope st) f cdv A outer s H E).nox (.Name prm p) (tVar 1) := fun p => pe_var rfl hs2 hd2 hd3
  rw [hb]
  refine ⟨_, pss_cons (ps_expr (pe_xini (pl := pl (envOfC qual (defScope st) s.heap.objs.size f cdv)) hS (hg cdv A outer s H E) hm (pa_cons (v0 _) (pa_cons (pe_txt hJ hc v1) pa_nil (txt_star hJ _ _)) (by rfl)) hdB (by rfl) (by rw [txt_star hJ]; rfl) ?_) (by rfl)) (pss_one (ps_xset (v0 _) (v1 _) (by rfl))), ?_⟩
  · exact ht _
  · subst ev
    refine ⟨.ref a, rfl, y, rfl, z, sh, fun x => ⟨a, C, t0, x, f, rfl, ea, hC, fun t1 => ⟨y, rfl, .ref a, rfl, a, C, t1, rfl, upd_same, hG, hN, fun dx hdx => q t1 dx hdx⟩⟩⟩
end
end L2
namespace SM
open PySem PySem.Spec PyProof.Rows L2
def errV (c : Int) : Dt → Option (Sum Int Str)
  | .int i => if c = -1 ∧ i.natAbs < 2 ^ 100 then some (.inl i) else none
  | .str z => if c = 114 ∧ z.length ≤ 1000 ∧ ∀ n ∈ z.cps.toList, n < 1000 then some (.inr z) else none
  | _ => none
theorem errV_V {K : PySem.W.Frag} {H : Hp} {ρ : Rg} {c : Int} {d : Dt} {i : Sum Int Str} {v : V} (e : errV c d = some i) (r : RelD K H ρ d v) : v = xV i ∧ ∃ z, Shows c v z := by
  cases d with
  | int j =>
    simp only [errV] at e
    obtain ⟨⟨rfl, hj⟩, rfl⟩ := ifE e
    cases rel_int.mp r
    refine ⟨rfl, _, .int j ?_⟩
    by_cases z : j.natAbs = 0
    · rw [z]; decide
    · exact Nat.lt_trans ((Nat.log2_lt z).mpr hj) (by decide)
  | str z =>
    simp only [errV] at e
    obtain ⟨⟨rfl, hl, hz⟩, rfl⟩ := ifE e
    cases rel_str.mp r
    refine ⟨rfl, _, .rep z ?_⟩
    have := PySem.StrLaws.reprText_len z fun n hn => Nat.lt_trans (hz n hn) (by decide)
    omega
  | _ => simp [errV] at e
structure ErrF (K : PySem.W.Frag) (x fl : Str) : Prop where
  ex : ∃ C, clsOf K x C ∧ errCls K C = true ∧ PySem.W.findIn K (.ref C) fl = some none
structure ErrC (P : Program) (w : World) (K : PySem.W.Frag) (mg : Str → Option Value) (base : Heap) (k : Nat) (x fl : Str) (c : Int) : Prop where
  ex : ∃ C f fd ps, clsOf K x C ∧ errIn K C f = true ∧ PySem.W.isFn K (.ref f) = true ∧ PySem.W.keepIn K (.ref C) = true ∧ FnOk P w K mg base CX0 k f fd ps (spErr C fl c) ∧ mg x = some (.ref C) ∧ Binds K fd ps [] ∧ ps.length ≤ 100
def eErr (x fl : Str) (c : Int) (g : RE) : RE := fun l h => (g l h).bind fun r => (errV c r.1).map fun i => (.err x fl i, r.2)
def xD : Sum Int Str → Dt
  | .inl i => .int i
  | .inr z => .str z
def eXf (x fl : Str) (g : RE) : RE := fun l h => (g l h).bind fun r => match r.1 with
  | .err y f i => if y = x ∧ f = fl then some (xD i, r.2) else none
  | _ => none
section
variable {X : Cx} {x fl : Str} {c : Int} {k k' : Nat} {e : Expr} {g : RE} {p pos p2 : Pos}
theorem em_mkerr (ec : ErrC X.prog X.w X.K X.mg X.base k x fl c) (hr : Room k' X.A) (hk : k + 1 ≤ k') (hg : Gl X x) (ha : EM X e g) (hdb : (x == ("__debug__" : Str)) = false := by decide) (he : notStar e = true := by rfl) :
    EM X (.Call (.Name x p) [e] [] pos) (eErr x fl c g) := by
  with_unfolding_all
    obtain ⟨C, f, fd, ps, c1, c2, c3, c4, c5, c6, c7, c8⟩ := ec.ex
    exact PE.imp (pe_mkerr c2 c3 c4 c5 (hr.mono hk) hg c6 c7 (E := E0) pass0 c8 (pa_cons ha pa_nil (star_of he _ _)) hdb (star_of he _ _) rfl) fun σ H Q ⟨ρ, l, h, d, h', S, L, e, k⟩ => by
      obtain ⟨⟨d1, h1⟩, e1, e⟩ := bindE e
      obtain ⟨i, e2, e⟩ := Option.map_eq_some_iff.mp e
      cases e
      refine ⟨ρ, l, h, d1, h1, S, L, e1, fun ρ1 v H1 R1 S1 E1 a t0 ha => ?_⟩
      obtain ⟨ev, z, sh⟩ := errV_V e2 R1
      refine ⟨a, t0, v, z, rfl, upd_same, sh, fun t1 dx hdx => ⟨rfl, ?_⟩⟩
      rw [upd_upd] at hdx ⊢
      have na : dx ≠ a := fun q => by rw [q, upd_same] at hdx; cases hdx
      rw [upd_ne na] at hdx
      have eH : upd (upd (upd H1 a (XO a C t1 none)) dx (.xd [(fl, v)])) a (XO a C t1 (some dx)) = upd (upd H1 dx (.xd [(fl, v)])) a (XO a C t1 (some dx)) := by
        funext b; unfold upd; by_cases q1 : b = a
        · rw [if_pos q1, if_pos q1]
        · rw [if_neg q1, if_neg q1, if_neg q1]
      rw [eH]
      have ha2 : upd H1 dx (.xd [(fl, v)]) a = none := by rw [upd_ne (Ne.symm na)]; exact ha
      have E2 : Ext ρ1 ρ1 H1 (upd H1 dx (.xd [(fl, v)])) := Ext.fresh hdx
      have S2 : SimH X.K ρ1 h1 (upd H1 dx (.xd [(fl, v)])) := S1.fresh hdx
      have E3 : Ext ρ1 ρ1 (upd H1 dx (.xd [(fl, v)])) (upd (upd H1 dx (.xd [(fl, v)])) a (XO a C t1 (some dx))) := Ext.fresh ha2
      refine k ρ1 _ _ (rel_err.mpr ⟨a, C, t1, dx, rfl, c1, S1.out ha, upd_same, S1.out hdx, ?_⟩) (S2.fresh ha2) (E1.trans (E2.trans E3))
      rw [upd_ne na, upd_same, ev]
theorem em_xfld (cl : ErrF X.K x fl) (ha : EM X e g) (hb : attributeBase e fl X.env (eval e X.env) = eval e X.env := by rfl) : EM X (.Attribute e fl pos) (eXf x fl g) := by
  with_unfolding_all
    exact PE.imp (pe_xfld ha hb) fun σ H Q ⟨ρ, l, h, d, h', S, L, e, k⟩ => by
      obtain ⟨⟨d1, h1⟩, e1, e0⟩ := bindE e
      clear e
      refine ⟨ρ, l, h, d1, h1, S, L, e1, fun ρ1 v H1 R1 S1 E1 => ?_⟩
      cases d1 with
      | err y f i =>
        dsimp only at e0
        by_cases hy : y = x ∧ f = fl
        case neg => rw [if_neg hy] at e0; cases e0
        rw [if_pos hy] at e0
        obtain ⟨hy, hf⟩ := hy
        subst hy hf
        cases e0
        obtain ⟨a, C, t0, dx, z, c1, n1, q1, n2, q2⟩ := rel_err.mp R1
        obtain ⟨C', c2, c3, c4⟩ := cl.ex
        have cc : C' = C := clsOf.inj c2 c1
        subst cc
        rw [errCls, Bool.and_eq_true] at c3
        refine ⟨a, C', t0, dx, xV i, z, q1, q2, c3.1, c4, ?_, k ρ1 _ _ ?_ S1 E1⟩
        · cases i with
          | inl j => exact ⟨j, .inl rfl⟩
          | inr j => exact ⟨0, .inr ⟨j, rfl⟩⟩
        · cases i with
          | inl j => exact rel_int.mpr rfl
          | inr j => exact rel_str.mpr rfl
      | _ => cases e0
def eIsX (tab : List (Str × Bool)) (g : RE) : RE := fun l h => (g l h).bind fun r => match r.1 with
  | .err y _ _ => (tab.lookup y).map fun b => (.bl b, r.2)
  | _ => none
def IsTab (K : PySem.W.Frag) (D : Value) (tab : List (Str × Bool)) : Prop := ∀ y b, tab.lookup y = some b → ∃ C, clsOf K y C ∧ errCls K C = true ∧ PySem.W.kitOne K (.ref C) D = some b
theorem call_isx {D : Value} {Dv : V} (hD : ∀ u, RelV Dv u → u = D) : CallR X (.builtin "isinstance") (fun xs H Q => ∃ a C t0 dx fl y b, xs = [.ref a, Dv] ∧ H a = some (XO a C t0 (some dx)) ∧ H dx = some (.xd [(fl, y)]) ∧ errCls X.K C = true ∧ PySem.W.kitOne X.K (.ref C) D = some b ∧ Q (.bl b) H) := by
  intro pins s σ H vs us Q I r ⟨a, C, t0, dx, fl, y, b, ev, ea, ed, ec, ek, q⟩
  subst ev
  obtain ⟨u1, u2, rfl, r1, r2⟩ := Vals.two r
  cases (show u1 = Value.ref a from r1)
  rw [hD u2 r2]
  exact isi_err I ea ed ec ek fun tk => ⟨.bl b, H, I.tok tk, rfl, q⟩
theorem isx_read {tab : List (Str × Bool)} {D : Value} {Dv : V} {e2 : Expr} (hD : ∀ u, RelV Dv u → u = D) (hN : PE X e2 (tC Dv)) (ht : IsTab X.K D tab) (hg : Gl X "isinstance") (hm : X.mg "isinstance" = none) (ha : EM X e g) (hs : notStar e = true) (hs2 : notStar e2 = true) :
    EM X (.Call (.Name "isinstance" p) [e, e2] [] pos) (eIsX tab g) := by
  with_unfolding_all
    exact PE.imp (pe_callB (call_isx hD) hg hm PyProof.Rows.boot_isinstance (pa_cons ha (pa_cons hN pa_nil (star_of hs2 _ _)) (star_of hs _ _)) (he := star_of hs _ _) (hpl := star_any (by rw [List.all_cons, hs2]; rfl))) fun σ H Q ⟨ρ, l, h, d, h', S, L, e, k⟩ => by
      obtain ⟨⟨d1, h1⟩, e1, e⟩ := bindE e
      refine ⟨ρ, l, h, d1, h1, S, L, e1, fun ρ1 v H1 R1 S1 E1 => ?_⟩
      cases d1 with
      | err y f i =>
        dsimp only at e
        obtain ⟨b, q, e⟩ := Option.map_eq_some_iff.mp e
        cases e
        obtain ⟨a, C, t0, dx, z, c1, n1, q1, n2, q2⟩ := rel_err.mp R1
        obtain ⟨C', c2, c3, c4⟩ := ht y b q
        have cc : C' = C := clsOf.inj c2 c1
        subst cc
        subst z
        exact ⟨a, C', t0, dx, f, xV i, b, rfl, q1, q2, c3, c4, k ρ1 _ H1 (rel_bl.mpr rfl) S1 E1⟩
      | _ => cases e
theorem em_isxo {T : Str} {D : Addr} {tab : List (Str × Bool)} (hg : Gl X "isinstance") (hm : X.mg "isinstance" = none) (hgT : Gl X T) (hmT : X.mg T = some (.ref D)) (ht : IsTab X.K (.ref D) tab) (ha : EM X e g) (hdT : (T == ("__debug__" : Str)) = false := by decide) (hs : notStar e = true := by rfl) :
    EM X (.Call (.Name "isinstance" p) [e, .Name T p2] [] pos) (eIsX tab g) := by
  have hN : PE X (.Name T p2) (tC (.ref D)) := fun pins s σ H Q I h => ld_glob I hgT hmT ⟨.ref D, H, I, rfl, h⟩ hdT
  exact isx_read (Dv := .ref D) (D := .ref D) (fun u r => r) hN ht hg hm ha hs rfl
theorem em_isxb {T : Str} {TT : String} {tab : List (Str × Bool)} (hg : Gl X "isinstance") (hm : X.mg "isinstance" = none) (hgT : Gl X T) (hmT : X.mg T = none) (hv : bootBuiltins T = some (.type TT)) (ht : IsTab X.K (.type TT) tab) (ha : EM X e g)
    (hnT : T ≠ "__name__" := by decide) (hdT : (T == ("__debug__" : Str)) = false := by decide) (hs : notStar e = true := by rfl) :
    EM X (.Call (.Name "isinstance" p) [e, .Name T p2] [] pos) (eIsX tab g) :=
  isx_read (Dv := .ty TT) (D := .type TT) (fun u r => r) (pe_bltn hgT hmT hv (v := .ty TT) rfl hnT hdT) ht hg hm ha hs rfl
end
end SM
namespace SM
open PySem PySem.Spec PyProof.Rows L2
def ErrK (K : PySem.W.Frag) (C : Addr) (x qual fl : Str) (st : Stmt) : Prop := ∃ (f : Addr) (oc : Value) (od : Option Addr) (kV dc pm : Value) (an : Option Addr) (cd ct : Value) (sl : Array (Option Value)),
  PySem.W.nsIn K mainGlobals x = some (some (.ref C)) ∧ PySem.W.findIn K (.ref C) "__init__" = some (some (.ref f)) ∧ PySem.W.isFn K (.ref f) = true ∧
  K.lookup f = some ⟨oc, od, .func (PySem.W.fnOf "__init__" qual (defArgs st) (defBody st) (defScope st) .none kV dc pm an cd ct), sl⟩ ∧ PySem.W.codeIn K cd qual = true ∧ PySem.W.keepIn K (.ref f) = true ∧
  errIn K C f = true ∧ PySem.W.keepIn K (.ref C) = true ∧ errCls K C = true ∧ PySem.W.findIn K (.ref C) fl = some none
structure ErrI (K : PySem.W.Frag) (mg : Str → Option Value) (x B qual fl prm : Str) (st : Stmt) : Prop where
  ex : ∃ C f fd S, clsOf K x C ∧ errIn K C f = true ∧ PySem.W.isFn K (.ref f) = true ∧ PySem.W.keepIn K (.ref C) = true ∧ errCls K C = true ∧ PySem.W.findIn K (.ref C) fl = some none ∧ Fun K "__init__" qual st f fd ∧ mg x = some (.ref C) ∧
    Binds K fd ["self", prm] [] ∧ baseIn K S = true ∧ mg B = some (.ref S)
structure IsO (K : PySem.W.Frag) (mg : Str → Option Value) (T : Str) (tab : List (Str × Bool)) : Prop where
  ex : ∃ D, mg T = some (.ref D) ∧ IsTab K (.ref D) tab
section
variable {K : PySem.W.Frag} {h : Heap} {mg : Str → Option Value} {x B qual fl prm y : Str} {st : Stmt} {C S : Addr} {b : Bool} {tab : List (Str × Bool)} {D : Value}
theorem errk_at (X : K.In h) (G : h.Ns mainGlobals mg) (E : ErrK K C x qual fl st) (b1 : PySem.W.nsIn K mainGlobals B = some (some (.ref S))) (b2 : baseIn K S = true)
    (hb : ∀ (kV doc pm : Value) (an : Option Addr) (cdv ct : Value) (us : List Value), us.length = 2 → bindArgs (PySem.W.fnOf "__init__" qual (defArgs st) (defBody st) (defScope st) .none kV doc pm an cdv ct) ⟨us, []⟩ = pure ((["self", prm] : List Str).zip us)) : ErrI K mg x B qual fl prm st := by
  obtain ⟨f, oc, od, kV, dc, pm, an, cd, ct, sl, a, i, n, l, c, k, e1, e2, e3, e4⟩ := E
  have F := fun_mk l c k
  exact ⟨⟨C, f, _, S, a, e1, n, e2, e3, e4, F, PySem.W.mg_of X G a, F.binds hb, b2, PySem.W.mg_of X G b1⟩⟩
theorem errf_at (E : ErrI K mg x B qual fl prm st) : ErrF K x fl := by
  obtain ⟨C, f, fd, S, c1, c2, c3, c4, c5, c6, _⟩ := E.ex
  exact ⟨⟨C, c1, c5, c6⟩⟩
theorem tab_nil : IsTab K D [] := fun _ _ e => by cases e
theorem tab_cons (E : ErrK K C x qual fl st) (k : PySem.W.kitOne K (.ref C) D = some b) (r : IsTab K D tab) : IsTab K D ((x, b) :: tab) := fun y' b' e => by
  obtain ⟨f, oc, od, kV, dc, pm, an, cd, ct, sl, a, i, n, l, c, k', e1, e2, e3, e4⟩ := E
  by_cases z : y' = x
  · subst z
    have zb : (y' == y') = true := beq_iff_eq.mpr rfl
    simp only [List.lookup, zb] at e
    cases e
    exact ⟨C, a, e3, k⟩
  · have zb : (y' == x) = false := by rw [← Bool.not_eq_true, beq_iff_eq]; exact z
    simp only [List.lookup, zb] at e
    exact r y' b' e
end
section
variable {P : Program} {w : World} {K : PySem.W.Frag} {mg : Str → Option Value} {base : Heap} {qual B fl prm x : Str} {st : Stmt} {k : Nat} {c : Int} {J : Expr} {p1 p2 p3 p4 p5 p6 p7 p8 p9 : Pos}
theorem err_cal {pl : Env → Sem Bool} (E : ErrI K mg x B qual fl prm st) (Sc : FnScope ["self", prm] ["self", prm] (defScope st))
    (hb : defBody st = [.Expr (.Call (.Attribute (.Name B p1) "__init__" p2) [.Name "self" p3, J] [] p4) p5, .Assign [.Attribute (.Name "self" p6) fl p7] (.Name prm p8) p9])
    (hJ : IsTxt c prm J) (hc : c = -1 ∨ c = 114)
    (ht : ∀ env, eval (.Call (.Attribute (.Name B p1) "__init__" p2) [.Name "self" p3, J] [] p4) env = (do
      let ov ← eval (.Name B p1) env
      standAt p2.atName
      let (f, first) ← holding [ov] (getMethod ov "__init__" (pl env))
      callWith p4 f first (backTo p4 (starEach [.Name "self" p3, J] env)) (backToKw p4 (keywordEach [] env))))
    (hg : ∀ (f : Addr) (cdv : Value) (A : Around) (outer : List Env) (s : Shared) (H : Hp) (E : XK), Gl (cxOf CX0 P w K mg base ["self", prm] qual (defScope st) f cdv A outer s H E).nox B)
    (hs1 : Vis (defScope st) "self" := by exact .inl rfl) (hs2 : Vis (defScope st) prm := by exact .inl rfl) (hd2 : (prm == ("__debug__" : Str)) = false := by decide) (hd3 : (prm == ("__classdict__" : Str)) = false := by decide) (hdB : (B == ("__debug__" : Str)) = false := by decide) :
    ErrC P w K mg base (k + 1) x fl c := by
  obtain ⟨C, f, fd, S, c1, c2, c3, c4, c5, c6, F, c7, c8, c9, c10⟩ := E.ex
  rw [errCls, Bool.and_eq_true] at c5
  exact ⟨⟨C, f, fd, _, c1, c2, c3, c4, err_fn F Sc hb hJ hc c2 c5.1 c6 c9 c10 hs1 hs2 hd2 hd3 hdB (hg f) ht, c7, c8, by show 2 ≤ 100; decide⟩⟩
end
section
variable {X : Cx} {e : Expr} {g : RE} {p pos p2 : Pos}
theorem em_iso {T : Str} {tab : List (Str × Bool)} (hg : Gl X "isinstance") (hm : X.mg "isinstance" = none) (hgT : Gl X T) (t : IsO X.K X.mg T tab) (ha : EM X e g) (hdT : (T == ("__debug__" : Str)) = false := by decide) (hs : notStar e = true := by rfl) :
    EM X (.Call (.Name "isinstance" p) [e, .Name T p2] [] pos) (eIsX tab g) := by
  obtain ⟨D, h1, h2⟩ := t.ex
  exact em_isxo hg hm hgT h1 h2 ha hdT hs
end
end SM
namespace SM
open PySem PySem.Spec PyProof.Rows L2
def bnd {α β : Type} (o : Option α) (f : α → Option β) : Option β := o.bind f
@[simp] theorem bnd_some {α β : Type} (a : α) (f : α → Option β) : bnd (some a) f = f a := by rfl
section
variable {l : LI} {h : HI} {f g fa fb fc : RE}
@[simp] theorem q_eC (d : Dt) : eC d l h = some (d, h) := by rfl
def getV (h : HI) : Option (Option Dt) → Option (Dt × HI)
  | some (some d) => some (d, h)
  | _ => none
@[simp] theorem getV_some (d : Dt) : getV h (some (some d)) = some (d, h) := by rfl
@[simp] theorem q_eV (i : Nat) : eV i l h = getV h l[i]? := by unfold eV getV; rfl
@[simp] theorem q_e2 (op : Op2) : e2 op fa fb l h = bnd (fa l h) fun r => bnd (fb l r.2) fun q => op r.1 q.1 q.2 := by rfl
@[simp] theorem q_aNil : aNil l h = some ([], h) := by rfl
@[simp] theorem q_aCons (r : RA) : aCons f r l h = bnd (f l h) fun r' => bnd (r l r'.2) fun q => some (r'.1 :: q.1, q.2) := by rfl
def tbK : Dt × HI → Option (Bool × HI)
  | (.bl b, h) => some (b, h)
  | _ => none
@[simp] theorem tbK_bl (b : Bool) : tbK (.bl b, h) = some (b, h) := by rfl
@[simp] theorem q_tB : tB' f l h = bnd (f l h) tbK := by
  unfold bnd
  unfold tB'
  congr 1
  funext r
  obtain ⟨d, h⟩ := r
  cases d <;> rfl
@[simp] theorem q_tOr (t u : RT) : tOr' t u l h = bnd (t l h) fun r => if r.1 = true then some (true, r.2) else u l r.2 := by rfl
@[simp] theorem q_eLst (r : RA) : eLst r l h = bnd (r l h) fun r => if r.1.length ≤ sizeLine then some (.lst r.1, r.2) else none := by rfl
def negK : Dt × HI → Option (Dt × HI)
  | (.int b, h) => some (.int (-b), h)
  | _ => none
@[simp] theorem o_add (i j : Int) : oAdd (.int i) (.int j) h = some (.int (i + j), h) := by rfl
theorem o_mul {i j : Int} (c : CMul i j) : oMul (.int i) (.int j) h = some (.int (i * j), h) := by simp only [oMul, oI, if_pos c]
theorem o_div {i j : Int} (c : CDiv i j) : oDiv (.int i) (.int j) h = some (.int (i / j), h) := by simp only [oDiv, oI, if_pos c]
theorem o_mod {i j : Int} (c : 0 < j) : oMod (.int i) (.int j) h = some (.int (i % j), h) := by simp only [oMod, oI, if_pos c]
@[simp] theorem o_ne (i j : Int) : oNeD (.int i) (.int j) h = some (.bl (!decide (i = j)), h) := by
  show some (Dt.bl (!decide (V.int i = V.int j)), h) = _
  simp
@[simp] theorem o_nes (i j : Str) : oNeD (.str i) (.str j) h = some (.bl (!decide (i = j)), h) := by
  show some (Dt.bl (!decide (V.str i = V.str j)), h) = _
  simp
@[simp] theorem atI_nat {α : Type} (xs : List α) (k : Nat) : atI xs (k : Int) = xs[k]? := by
  unfold atI ixN
  rw [if_pos (by omega)]
  by_cases hk : k < xs.length
  · rw [if_pos (by omega)]
    simp
  · rw [if_neg (by omega)]
    simp
    omega
def sqK (g : RS) : Rs → Option Rs
  | .nx l h => g l h
  | r => some r
@[simp] theorem sqK_nx (g : RS) : sqK g (.nx l h) = g l h := by rfl
@[simp] theorem q_sSeq (f g : RS) : sSeq f g l h = bnd (f l h) (sqK g) := by
  unfold bnd
  unfold sSeq
  congr 1
@[simp] theorem q_sNil : sNil l h = some (.nx l h) := by rfl
@[simp] theorem q_sSet (i : Nat) : sSet i f l h = bnd (f l h) fun r => some (.nx (l.set i (some r.1)) r.2) := by rfl
@[simp] theorem q_sRet : sRet f l h = bnd (f l h) fun r => some (.rt r.1 r.2) := by rfl
@[simp] theorem q_sIf (t : RT) (f g : RS) : sIf t f g l h = bnd (t l h) fun r => if r.1 = true then f l r.2 else g l r.2 := by rfl
def finK : Option Rs → Option (Dt × HI)
  | some (.rt d h') => some (d, h')
  | some (.nx _ h') => some (.non, h')
  | _ => none
@[simp] theorem finK_rt (d : Dt) : finK (some (.rt d h)) = some (d, h) := by rfl
@[simp] theorem q_fn (n N : Nat) (body : RS) (ds : List Dt) : fnI n N body ds h = if ds.length = n then finK (body (ds.map some ++ List.replicate (N - n) none) h) else none := by
  unfold fnI finK
  rfl
@[simp] theorem q_call (F : FnI) (dds : List Dt) (g : RA) : eCall F dds g l h = bnd (g l h) fun r => F (r.1 ++ dds) r.2 := by rfl
def stK (go : LI → HI → Option Rs) : Rs → Option Rs
  | .nx l h => go l h
  | .ct l h => go l h
  | .bk l h => some (.nx l h)
  | .rt d h => some (.rt d h)
@[simp] theorem stK_nx (go : LI → HI → Option Rs) : stK go (.nx l h) = go l h := by rfl
@[simp] theorem stK_ct (go : LI → HI → Option Rs) : stK go (.ct l h) = go l h := by rfl
def walkL (bd : RG) (body : RS) : List Dt → LI → HI → Option Rs
  | [], l, h => some (.nx l h)
  | x :: xs, l, h => (bd x l).bind fun l1 => (body l1 h).bind (stK (walkL bd body xs))
theorem forL_vals (bd : RG) (body : RS) (xs : List Dt) : ∀ (n k : Nat) (l : LI) (h : HI), n = (xs.length - k) + 1 → k ≤ xs.length → forL bd body (.vals xs) n k l h = walkL bd body (xs.drop k) l h := by
  intro n
  induction n with
  | zero => intro k l h e; omega
  | succ n ih =>
    intro k l h e hk
    unfold forL
    simp only [Src.at]
    by_cases hl : k < xs.length
    · rw [List.getElem?_eq_getElem hl, List.drop_eq_getElem_cons hl]
      simp only [walkL]
      congr 1
      funext l1
      congr 1
      funext r
      cases r with
      | nx l' h' => exact ih (k + 1) l' h' (by omega) (by omega)
      | ct l' h' => exact ih (k + 1) l' h' (by omega) (by omega)
      | bk l' h' => rfl
      | rt d h' => rfl
    · rw [List.getElem?_eq_none (by omega), List.drop_eq_nil_of_le (by omega)]
      rfl
theorem for_vals {g : RI} {xs : List Dt} {h' : HI} (e : g l h = some (.vals xs, h')) (bd : RG) (body : RS) : sFor g bd body l h = walkL bd body xs l h' := by
  unfold sFor
  rw [e]
  simp only [Option.bind_some, Src.fuel]
  exact forL_vals bd body xs _ 0 _ _ (by omega) (by omega)
@[simp] theorem q_gSet (i : Nat) (d : Dt) : gSet i d l = some (l.set i (some d)) := by rfl
def forK (bd : RG) (body : RS) (l : LI) : Src × HI → Option Rs := fun r => forL bd body r.1 (r.1.fuel r.2) 0 l r.2
@[simp] theorem q_sFor (g : RI) (bd : RG) (body : RS) : sFor g bd body l h = bnd (g l h) (forK bd body l) := by rfl
@[simp] theorem forK_vals (bd : RG) (body : RS) (xs : List Dt) : forK bd body l (.vals xs, h) = walkL bd body xs l h := by
  unfold forK
  simp only [Src.fuel]
  exact forL_vals bd body xs _ 0 _ _ (by omega) (by omega)
def r1K : Dt × HI → Option (Src × HI)
  | (.int j, h) => if -(2 ^ 62) ≤ j ∧ j < 2 ^ 62 then some (.vals ((List.range j.toNat).map fun (k : Nat) => Dt.int (k : Int)), h) else none
  | _ => none
@[simp] theorem q_iR1 : iR1 f l h = bnd (f l h) r1K := by
  unfold bnd
  unfold iR1
  congr 1
  funext r
  obtain ⟨d, h⟩ := r
  cases d <;> rfl
theorem r1K_int {j : Int} (a : -(2 ^ 62) ≤ j) (b : j < 2 ^ 62) : r1K (.int j, h) = some (.vals ((List.range j.toNat).map fun (k : Nat) => Dt.int (k : Int)), h) := if_pos ⟨a, b⟩
def seqK : Dt × HI → Option (Src × HI)
  | (.lst xs, h) => some (.vals xs, h)
  | (.ref n, h) => if 0 < Src.fuel (.rf n) h then some (.rf n, h) else none
  | _ => none
@[simp] theorem seqK_lst (xs : List Dt) : seqK (.lst xs, h) = some (.vals xs, h) := by rfl
@[simp] theorem q_iLst : iLst f l h = bnd (f l h) seqK := by
  unfold bnd
  unfold iLst iSeq
  cases f l h with
  | none => rfl
  | some r =>
    obtain ⟨d, h⟩ := r
    cases d <;> first | rfl | (simp [seqK, Src.fuel]; done)
def compV (bd : RG) (tc : RT) (te : RE) : List Dt → LI → HI → Option (List Dt × HI)
  | [], _, h => some ([], h)
  | x :: xs, l, h => (bd x l).bind fun l1 => (tc l1 h).bind fun b => if b.1 = true then (te l1 b.2).bind fun r => (compV bd tc te xs l1 r.2).bind fun q => some (r.1 :: q.1, q.2)
      else compV bd tc te xs l1 b.2
theorem compL_vals (bd : RG) (tc : RT) (te : RE) (xs : List Dt) (hx : xs.length < sizeLine) : ∀ (n k : Nat) (l : LI) (h : HI) (ys : List Dt), n = (xs.length - k) + 1 → k ≤ xs.length → ys.length ≤ k →
    compL bd tc te (.vals xs) n k l h ys = (compV bd tc te (xs.drop k) l h).bind fun q => some (ys ++ q.1, q.2) := by
  intro n
  induction n with
  | zero => intro k l h ys e; omega
  | succ n ih =>
    intro k l h ys e hk hy
    unfold compL
    simp only [Src.at]
    by_cases hl : k < xs.length
    · rw [List.getElem?_eq_getElem hl, List.drop_eq_getElem_cons hl]
      simp only [compV]
      cases bd xs[k] l with
      | none => rfl
      | some l1 =>
        simp only [Option.bind_some]
        cases tc l1 h with
        | none => rfl
        | some b =>
          simp only [Option.bind_some]
          by_cases hb : b.1 = true
          · simp only [if_pos hb]
            cases te l1 b.2 with
            | none => rfl
            | some r =>
              simp only [Option.bind_some]
              rw [if_pos (by omega), ih (k + 1) l1 r.2 _ (by omega) (by omega) (by simp; omega)]
              cases compV bd tc te (xs.drop (k + 1)) l1 r.2 with
              | none => rfl
              | some q => simp
          · simp only [if_neg hb]
            exact ih (k + 1) l1 b.2 ys (by omega) (by omega) (by omega)
    · rw [List.getElem?_eq_none (by omega), List.drop_eq_nil_of_le (by omega)]
      simp [compV]
def compK (bd : RG) (tc : RT) (te : RE) (l : LI) : Src × HI → Option (List Dt × HI) := fun r => compL bd tc te r.1 (r.1.fuel r.2) 0 l r.2 []
theorem compK_vals (bd : RG) (tc : RT) (te : RE) {xs : List Dt} (hx : xs.length < sizeLine) : compK bd tc te l (.vals xs, h) = compV bd tc te xs l h := by
  unfold compK
  simp only [Src.fuel]
  rw [compL_vals bd tc te xs hx _ 0 _ _ _ (by omega) (by omega) (by simp)]
  rw [List.drop_zero]
  cases compV bd tc te xs l h <;> simp
@[simp] theorem q_eComp (g : RI) (bd : RG) (tc : RT) (te : RE) (cap : List (Option Nat)) : eComp g bd tc te cap l h = bnd (bnd (g l h) (compK bd tc te (capI l cap))) fun q => some (.lst q.1, q.2) := by
  unfold bnd
  unfold eComp compK
  rw [Option.bind_assoc]
@[simp] theorem cap_nil : capI l [] = [] := by rfl
@[simp] theorem cap_none (cap : List (Option Nat)) : capI l (none :: cap) = none :: capI l cap := by rfl
@[simp] theorem cap_some (j : Nat) (cap : List (Option Nat)) : capI l (some j :: cap) = (l[j]?).join :: capI l cap := by rfl
theorem compV_on {α : Type} {te : RE} {i : Nat} {tc : RT} (D : α → Dt) (p : α → Bool) (F : α → Dt) (h : HI) : ∀ (xs : List α) (l : LI), (∀ x ∈ xs, tc (l.set i (some (D x))) h = some (p x, h) ∧ (p x = true → te (l.set i (some (D x))) h = some (F x, h))) →
    compV (gSet i) tc te (xs.map D) l h = some ((xs.filter p).map F, h)
  | [], _, _ => rfl
  | x :: xs, l, H => by
    have hx := H x (by simp)
    have ih := compV_on D p F h xs (l.set i (some (D x))) (te := te) (tc := tc) (i := i) (fun y hy => by
      rw [List.set_set]
      exact H y (by simp [hy]))
    simp only [List.map_cons, compV, q_gSet, Option.bind_some, hx.1]
    by_cases hp : p x = true
    · simp only [hp, if_true, hx.2 hp, Option.bind_some, ih]
      simp [hp]
    · simp only [hp]
      rw [if_neg (by simp), ih]
      simp [hp]
theorem compV_all {α : Type} {te : RE} {i : Nat} {tc : RT} (D : α → Dt) (F : α → Dt) (h : HI) (xs : List α) (l : LI) (H : ∀ x ∈ xs, tc (l.set i (some (D x))) h = some (true, h) ∧ te (l.set i (some (D x))) h = some (F x, h)) :
    compV (gSet i) tc te (xs.map D) l h = some (xs.map F, h) := by
  rw [compV_on D (fun _ => true) F h xs l fun x hx => ⟨(H x hx).1, fun _ => (H x hx).2⟩, List.filter_eq_self.mpr (by simp)]
@[simp] theorem q_isi (T : String) : eIsi T f l h = bnd (f l h) fun r => (tyN r.2 r.1).map fun t => (.bl (isT t T), r.2) := by rfl
theorem o_cat {xs ys : List Dt} (c : xs.length + ys.length ≤ sizeLine) : oCat (.lst xs) (.lst ys) h = some (.lst (xs ++ ys), h) := by simp only [oCat, seqL, Option.bind_some, if_pos c]
@[simp] theorem size_lit : sizeLine = 16777216 := by rfl
end
def Pass (I : LI → HI → Prop) : Rs → Prop
  | .nx l h => I l h
  | .ct l h => I l h
  | _ => False
theorem walk_inv {α : Type} {i : Nat} {body : RS} (D : α → Dt) (I : LI → HI → Prop) (xs : List α) (H : ∀ x ∈ xs, ∀ l h, I l h → ∃ r, body (l.set i (some (D x))) h = some r ∧ Pass I r) :
    ∀ l h, I l h → ∃ l' h', walkL (gSet i) body (xs.map D) l h = some (.nx l' h') ∧ I l' h' := by
  induction xs with
  | nil => intro l h i; exact ⟨l, h, rfl, i⟩
  | cons x xs ih =>
    intro l h i
    obtain ⟨r, e, p⟩ := H x (by simp) l h i
    cases r with
    | nx l2 h2 =>
      obtain ⟨l', h', e', i'⟩ := ih (fun y hy => H y (by simp [hy])) l2 h2 p
      exact ⟨l', h', by simp [walkL, e, e'], i'⟩
    | ct l2 h2 =>
      obtain ⟨l', h', e', i'⟩ := ih (fun y hy => H y (by simp [hy])) l2 h2 p
      exact ⟨l', h', by simp [walkL, e, e'], i'⟩
    | bk l2 h2 => exact p.elim
    | rt d h2 => exact p.elim
section
variable {l : LI} {h : HI} {f g : RE}
end
end SM
namespace SM
open PySem PySem.Spec PyProof.Rows L2
section
variable {l : LI} {h : HI} {f g fe fo fi fa fb : RE}
end
section
variable {l : LI} {h : HI} {fo fi fe f fa : RE}
end
end SM
namespace SM
open PySem PySem.Spec PyProof.Rows L2
section
variable {l : LI} {h : HI} {f g fo fe : RE} {ga : RA}
end
end SM
namespace G
open PySem PySem.Spec PyProof.Rows L2 SM
def top (i : Nat) : Stmt := PySem.Challenge.pw_spanways_k33_what_refusals_bear.main.body.getD i (.Pass ⟨0, 0, 0, 0⟩)
def tab_BadFact : List (Str × Bool) := [("BadText", false), ("Twice", false), ("NoLabel", false), ("NoName", false)]
def tab_BadText : List (Str × Bool) := [("BadText", true), ("Twice", false), ("NoLabel", false), ("NoName", false)]
def tab_NoLabel : List (Str × Bool) := [("BadText", false), ("Twice", false), ("NoLabel", true), ("NoName", false)]
def tab_NoName : List (Str × Bool) := [("BadText", false), ("Twice", false), ("NoLabel", false), ("NoName", true)]
def tab_SpanError : List (Str × Bool) := [("BadText", true), ("Twice", true), ("NoLabel", true), ("NoName", true)]
def tab_TooMany : List (Str × Bool) := [("BadText", false), ("Twice", false), ("NoLabel", false), ("NoName", false)]
def tab_Twice : List (Str × Bool) := [("BadText", false), ("Twice", true), ("NoLabel", false), ("NoName", false)]
def tab_ValueError : List (Str × Bool) := [("BadText", true), ("Twice", true), ("NoLabel", true), ("NoName", true)]
abbrev s_BadText___init__ : Stmt := inClass (top 2) 0
abbrev s_Twice___init__ : Stmt := inClass (top 3) 0
abbrev s_NoLabel___init__ : Stmt := inClass (top 4) 0
abbrev s_NoName___init__ : Stmt := inClass (top 5) 0
abbrev s__law_word : Stmt := top 9
def E__law_word_0 : RE := e2 oIx (eV 1) (e2 oMod (e2 oDiv (eV 2) (e2 oAdd (e2 oMul (e2 oMul (eV 0) (eV 0)) (eC (.int 7))) (eC (.int 1)))) (eC (.int 26)))
def B__law_word : RS := sSeq (sSet 1 (eC (.str "abcdefghijklmnopqrstuvwxyz"))) (sSeq (sSet 2 (e2 oMod (eV 0) (e2 oPow (eC (.int 10)) (eC (.int 12))))) (sRet (eJoin (eC (.str "")) (eComp (iR1 (e2 oAdd (eC (.int 1)) (e2 oMod (eV 2) (eC (.int 8))))) (gSet 0) tTrue E__law_word_0 [none, some 1, some 2]))))
def F__law_word : FnI := fnI 1 3 B__law_word
abbrev s__law_kinds : Stmt := top 10
def B__law_kinds : RS := sSeq (sIf (tOr' (tNot' (tB' (eIsX tab_SpanError (eV 0)))) (tNot' (tB' (eIsX tab_ValueError (eV 0))))) (sRet (eLst aNil)) sNil) (sSeq (sIf (tOr' (tB' (eIsX tab_BadFact (eV 0))) (tB' (eIsX tab_TooMany (eV 0)))) (sRet (eLst aNil)) sNil) (sSeq (sSet 1 (eLst (aCons (eIsX tab_NoLabel (eV 0)) (aCons (eIsX tab_NoName (eV 0)) aNil)))) (sRet (e2 oCat (eLst (aCons (eIsX tab_BadText (eV 0)) (aCons (eIsX tab_Twice (eV 0)) aNil))) (eV 1)))))
def F__law_kinds : FnI := fnI 1 2 B__law_kinds
abbrev s_law : Stmt := top 11
def L_law_0 : RS := sSeq (sSet 2 (e2 oMod (eV 1) (e2 oPow (eC (.int 10)) (eC (.int 6))))) (sSeq (sSet 3 (eCall F__law_word [] (aCons (eV 1) aNil))) (sSeq (sSet 4 (eErr "BadText" "row" (-1) (eV 2))) (sSeq (sIf (tOr' (tB' (e2 oNeD (eXf "BadText" "row" (eV 4)) (eV 2))) (tOr' (tB' (eIsi "bool" (eXf "BadText" "row" (eV 4)))) (tB' (e2 oNeD (eCall F__law_kinds [] (aCons (eV 4) aNil)) (eLst (aCons (eC (.bl true)) (aCons (eC (.bl false)) (aCons (eC (.bl false)) (aCons (eC (.bl false)) aNil))))))))) (sRet (eC (.bl false))) sNil) (sSeq (sSet 5 (eErr "Twice" "word" (114) (eV 3))) (sSeq (sSet 6 (eErr "NoLabel" "word" (114) (eV 3))) (sSeq (sSet 7 (eErr "NoName" "word" (114) (eV 3))) (sSeq (sIf (tOr' (tB' (e2 oNeD (eXf "Twice" "word" (eV 5)) (eV 3))) (tOr' (tB' (e2 oNeD (eXf "NoLabel" "word" (eV 6)) (eV 3))) (tB' (e2 oNeD (eXf "NoName" "word" (eV 7)) (eV 3))))) (sRet (eC (.bl false))) sNil) (sSeq (sIf (tOr' (tB' (e2 oNeD (eCall F__law_kinds [] (aCons (eV 5) aNil)) (eLst (aCons (eC (.bl false)) (aCons (eC (.bl true)) (aCons (eC (.bl false)) (aCons (eC (.bl false)) aNil))))))) (tB' (e2 oNeD (eCall F__law_kinds [] (aCons (eV 6) aNil)) (eLst (aCons (eC (.bl false)) (aCons (eC (.bl false)) (aCons (eC (.bl true)) (aCons (eC (.bl false)) aNil)))))))) (sRet (eC (.bl false))) sNil) (sIf (tB' (e2 oNeD (eCall F__law_kinds [] (aCons (eV 7) aNil)) (eLst (aCons (eC (.bl false)) (aCons (eC (.bl false)) (aCons (eC (.bl false)) (aCons (eC (.bl true)) aNil))))))) (sRet (eC (.bl false))) sNil)))))))))
def B_law : RS := sSeq (sFor (iLst (e2 oCat (eLst (aCons (eC (.int 0)) aNil)) (eV 0))) (gSet 1) L_law_0) (sRet (eC (.bl true)))
def F_law : FnI := fnI 1 8 B_law
structure Txt (K : PySem.W.Frag) (mg : Str → Option Value) : Prop where
  d__law_word : DefAt K mg "_law_word" s__law_word ["_law_cell"]
  d__law_kinds : DefAt K mg "_law_kinds" s__law_kinds ["_law_error"]
  ei_BadText : ErrI K mg "BadText" "SpanError" "BadText.__init__" "row" "row" s_BadText___init__
  ei_Twice : ErrI K mg "Twice" "SpanError" "Twice.__init__" "word" "word" s_Twice___init__
  ei_NoLabel : ErrI K mg "NoLabel" "SpanError" "NoLabel.__init__" "word" "word" s_NoLabel___init__
  ei_NoName : ErrI K mg "NoName" "SpanError" "NoName.__init__" "word" "word" s_NoName___init__
  is_BadFact : IsO K mg "BadFact" tab_BadFact
  is_BadText : IsO K mg "BadText" tab_BadText
  is_NoLabel : IsO K mg "NoLabel" tab_NoLabel
  is_NoName : IsO K mg "NoName" tab_NoName
  is_SpanError : IsO K mg "SpanError" tab_SpanError
  is_TooMany : IsO K mg "TooMany" tab_TooMany
  is_Twice : IsO K mg "Twice" tab_Twice
  ib_ValueError : IsTab K (.type "ValueError") tab_ValueError
  z_ValueError : mg "ValueError" = none
  z_bool : mg "bool" = none
  z_isinstance : mg "isinstance" = none
  z_range : mg "range" = none
section
variable {P : Program} {w : World} {K : PySem.W.Frag} {mg : Str → Option Value}
theorem sc__law_word : FnScope ["_law_cell", "_law_letters", "_law_number"] ["_law_cell"] (defScope s__law_word) := mkSc
theorem sc__law_kinds : FnScope ["_law_error", "_law_others"] ["_law_error"] (defScope s__law_kinds) := mkSc
theorem sc_law : FnScope ["_law_script", "_law_cell", "_law_row", "_law_word_here", "_law_bad", "_law_twice", "_law_lost", "_law_strange"] ["_law_script"] (defScope s_law) := mkSc
theorem sc_BadText___init__ : FnScope ["self", "row"] ["self", "row"] (defScope s_BadText___init__) := mkSc
theorem sc_Twice___init__ : FnScope ["self", "word"] ["self", "word"] (defScope s_Twice___init__) := mkSc
theorem sc_NoLabel___init__ : FnScope ["self", "word"] ["self", "word"] (defScope s_NoLabel___init__) := mkSc
theorem sc_NoName___init__ : FnScope ["self", "word"] ["self", "word"] (defScope s_NoName___init__) := mkSc
variable (T : Txt K mg) (b : Heap)
include T
theorem ecal_BadText : ErrC P w K mg b 1 "BadText" "row" (-1) := err_cal (k := 0) T.ei_BadText sc_BadText___init__ rfl (.three (by decide) (by decide)) (.inl rfl) (fun _ => rfl) fun _ _ _ _ _ _ _ => rfl
theorem ecal_Twice : ErrC P w K mg b 1 "Twice" "word" (114) := err_cal (k := 0) T.ei_Twice sc_Twice___init__ rfl (.three (by decide) (by decide)) (.inr rfl) (fun _ => rfl) fun _ _ _ _ _ _ _ => rfl
theorem ecal_NoLabel : ErrC P w K mg b 1 "NoLabel" "word" (114) := err_cal (k := 0) T.ei_NoLabel sc_NoLabel___init__ rfl (.three (by decide) (by decide)) (.inr rfl) (fun _ => rfl) fun _ _ _ _ _ _ _ => rfl
theorem ecal_NoName : ErrC P w K mg b 1 "NoName" "word" (114) := err_cal (k := 0) T.ei_NoName sc_NoName___init__ rfl (.two (by decide)) (.inr rfl) (fun _ => rfl) fun _ _ _ _ _ _ _ => rfl
theorem cal__law_word : Cal P w K mg b 1 1 "_law_word" F__law_word :=
  cal_of (k := 0) (body := B__law_word) T.d__law_word sc__law_word rfl rfl fun _ _ _ _ _ _ _ hr => zms_cons (zm_set 1 sc__law_word.nd em_str) (zms_cons (zm_set 2 sc__law_word.nd (em_op om_mod (em_var 0) (em_op om_pow em_int em_int))) (zms_one (zm_ret (em_join em_str (em_comp (Nc := ["_law_k", "_law_letters", "_law_number"]) rfl (im_range1 rfl T.z_range (em_op om_add em_int (em_op om_mod (em_var 2) em_int))) (by decide +kernel) rfl (by decide +kernel) (by rfl) (by exact ⟨⟨rfl, .inl rfl, .inl rfl, rfl⟩, ⟨⟨rfl, .inl rfl, .inl rfl, rfl⟩, trivial⟩⟩) (fun _ _ _ _ => gm_name 0 (show (["_law_k", "_law_letters", "_law_number"] : List Str).Nodup by decide +kernel)) (fun _ _ _ _ => cm_nil) (fun _ _ _ _ => em_ix (em_var 1) (em_op om_mod (em_op om_div (em_var 2) (em_op om_add (em_op om_mul (em_op om_mul (em_var 0) (em_var 0)) em_int) em_int)) em_int)))))))
theorem cal__law_kinds : Cal P w K mg b 1 1 "_law_kinds" F__law_kinds :=
  cal_of (k := 0) (body := B__law_kinds) T.d__law_kinds sc__law_kinds rfl rfl fun _ _ _ _ _ _ _ hr => zms_cons (zm_if (WM.tm (wm_or (tm_not (tm_val (em_iso rfl T.z_isinstance rfl T.is_SpanError (em_var 0)))) (wm_or1 (tm_not (tm_val (em_isxb rfl T.z_isinstance rfl T.z_ValueError (by rfl) T.ib_ValueError (em_var 0))))))) (zms_one (zm_ret (em_lst am_nil))) zms_nil) (zms_cons (zm_if (WM.tm (wm_or (tm_val (em_iso rfl T.z_isinstance rfl T.is_BadFact (em_var 0))) (wm_or1 (tm_val (em_iso rfl T.z_isinstance rfl T.is_TooMany (em_var 0)))))) (zms_one (zm_ret (em_lst am_nil))) zms_nil) (zms_cons (zm_set 1 sc__law_kinds.nd (em_lst (am_cons (em_iso rfl T.z_isinstance rfl T.is_NoLabel (em_var 0)) (am_cons (em_iso rfl T.z_isinstance rfl T.is_NoName (em_var 0)) am_nil)))) (zms_one (zm_ret (em_op om_cat (em_lst (am_cons (em_iso rfl T.z_isinstance rfl T.is_BadText (em_var 0)) (am_cons (em_iso rfl T.z_isinstance rfl T.is_Twice (em_var 0)) am_nil))) (em_var 1))))))
theorem fn_law {f : Addr} {fd : FuncData} (F : Fun K "law" "law" s_law f fd) : FnOk P w K mg b CX0 3 f fd ["_law_script"] (spM K 1 F_law) := by
  unfold F_law; exact fn_okN (k := 2) (body := B_law) F sc_law rfl rfl fun cdv A outer s H E hr => by (unfold B_law L_law_0; exact zms_cons (zm_for PassesOwn.never rfl (im_list (em_op om_cat (em_lst (am_cons em_int am_nil)) (em_var 0))) (gm_name 1 sc_law.nd) (zms_cons (zm_set 2 sc_law.nd (em_op om_mod (em_var 1) (em_op om_pow em_int em_int))) (zms_cons (zm_set 3 sc_law.nd (em_c (cal__law_word T b) hr (am_cons (em_var 1) am_nil))) (zms_cons (zm_set 4 sc_law.nd (em_mkerr (ecal_BadText T b) hr (by decide) rfl (em_var 2))) (zms_cons (zm_if (WM.tm (wm_or (tm_cmp (om_neD hr.units) (em_xfld (errf_at T.ei_BadText) (em_var 4)) (em_var 2)) (wm_or (tm_val (em_isi rfl T.z_isinstance rfl T.z_bool PyProof.Rows.boot_bool (by decide) (em_xfld (errf_at T.ei_BadText) (em_var 4)))) (wm_or1 (tm_cmp (om_neD hr.units) (em_c (cal__law_kinds T b) hr (am_cons (em_var 4) am_nil)) (em_lst (am_cons em_bl (am_cons em_bl (am_cons em_bl (am_cons em_bl am_nil)))))))))) (zms_one (zm_ret em_bl)) zms_nil) (zms_cons (zm_set 5 sc_law.nd (em_mkerr (ecal_Twice T b) hr (by decide) rfl (em_var 3))) (zms_cons (zm_set 6 sc_law.nd (em_mkerr (ecal_NoLabel T b) hr (by decide) rfl (em_var 3))) (zms_cons (zm_set 7 sc_law.nd (em_mkerr (ecal_NoName T b) hr (by decide) rfl (em_var 3))) (zms_cons (zm_if (WM.tm (wm_or (tm_cmp (om_neD hr.units) (em_xfld (errf_at T.ei_Twice) (em_var 5)) (em_var 3)) (wm_or (tm_cmp (om_neD hr.units) (em_xfld (errf_at T.ei_NoLabel) (em_var 6)) (em_var 3)) (wm_or1 (tm_cmp (om_neD hr.units) (em_xfld (errf_at T.ei_NoName) (em_var 7)) (em_var 3)))))) (zms_one (zm_ret em_bl)) zms_nil) (zms_cons (zm_if (WM.tm (wm_or (tm_cmp (om_neD hr.units) (em_c (cal__law_kinds T b) hr (am_cons (em_var 5) am_nil)) (em_lst (am_cons em_bl (am_cons em_bl (am_cons em_bl (am_cons em_bl am_nil)))))) (wm_or1 (tm_cmp (om_neD hr.units) (em_c (cal__law_kinds T b) hr (am_cons (em_var 6) am_nil)) (em_lst (am_cons em_bl (am_cons em_bl (am_cons em_bl (am_cons em_bl am_nil))))))))) (zms_one (zm_ret em_bl)) zms_nil) (zms_one (zm_if (tm_cmp (om_neD hr.units) (em_c (cal__law_kinds T b) hr (am_cons (em_var 7) am_nil)) (em_lst (am_cons em_bl (am_cons em_bl (am_cons em_bl (am_cons em_bl am_nil)))))) (zms_one (zm_ret em_bl)) zms_nil)))))))))))) (zms_one (zm_ret em_bl)))
end
end G
namespace G
open PySem PySem.Spec PyProof.Rows L2 SM
def jnK : Dt → Dt → HI → Option (Dt × HI)
  | .str z, .lst xs, h => (strsOf xs).bind fun ts => if PySem.JoinOk z ts = true then some (.str (Str.join z ts), h) else none
  | _, _, _ => none
theorem q_join {fa fb : RE} {l : LI} {h : HI} : eJoin fa fb l h = bnd (fa l h) fun r => bnd (fb l r.2) fun q => jnK r.1 q.1 q.2 := by
  unfold eJoin
  cases fa l h with
  | none => rfl
  | some r =>
    obtain ⟨d, h1⟩ := r
    simp only [Option.bind_some, bnd_some]
    cases fb l h1 with
    | none => rfl
    | some q => obtain ⟨d2, h2⟩ := q; cases d <;> cases d2 <;> rfl
theorem strs_map {α : Type} (g : α → Str) : ∀ xs : List α, strsOf (xs.map fun k => Dt.str (g k)) = some (xs.map g) := by
  intro xs
  induction xs with
  | nil => rfl
  | cons x xs ih => simp only [List.map_cons, strsOf, ih, Option.map_some]
theorem join_all {P : Nat → Prop} {z : Str} (hz : ∀ n ∈ z.cps.toList, P n) : ∀ ts : List Str, (∀ t ∈ ts, ∀ n ∈ t.cps.toList, P n) → ∀ n ∈ (Str.join z ts).cps.toList, P n := by
  intro ts
  induction ts with
  | nil => intro _ n hn; cases hn
  | cons x r ih =>
    intro H n hn
    cases r with
    | nil => exact H x (by simp) n hn
    | cons y r =>
      have e : (Str.join z (x :: y :: r)).cps.toList = x.cps.toList ++ z.cps.toList ++ (Str.join z (y :: r)).cps.toList := by
        show (x ++ z ++ Str.join z (y :: r)).cps.toList = _
        rw [show (x ++ z ++ Str.join z (y :: r)).cps = x.cps ++ z.cps ++ (Str.join z (y :: r)).cps from rfl]
        simp
      rw [e] at hn
      rcases List.mem_append.mp hn with hn | hn
      · rcases List.mem_append.mp hn with hn | hn
        · exact H x (by simp) n hn
        · exact hz n hn
      · exact ih (fun t ht => H t (List.mem_cons_of_mem _ ht)) n hn
abbrev LT : Str := "abcdefghijklmnopqrstuvwxyz"
theorem lt_at : ∀ j < 26, LT.cps.toList[j]? = some (97 + j) := by decide +kernel
abbrev sg (j : Nat) : Str := ⟨#[97 + j]⟩
theorem p12 (h : HI) : oPow (.int 10) (.int 12) h = some (.int 1000000000000, h) := by kernel_rfl
theorem p6 (h : HI) : oPow (.int 10) (.int 6) h = some (.int 1000000, h) := by kernel_rfl
theorem e_sign (n : Int) (k : Nat) (hk : k < 9) (h : HI) : E__law_word_0 [some (.int k), some (.str LT), some (.int n)] h = some (.str (sg ((n / ((k : Int) * k * 7 + 1) % 26).toNat)), h) := by
  have m1 : CMul (k : Int) k := .inl ⟨by omega, by omega⟩
  have hk2 : 0 ≤ (k : Int) * k ∧ (k : Int) * k ≤ 64 := by
    refine ⟨Int.mul_nonneg (by omega) (by omega), ?_⟩
    exact Int.mul_le_mul (show (k : Int) ≤ 8 by omega) (show (k : Int) ≤ 8 by omega) (by omega) (by decide)
  have m2 : CMul ((k : Int) * k) 7 := .inr ⟨by decide, by decide⟩
  have d1 : CDiv n ((k : Int) * k * 7 + 1) := ⟨by omega, by omega⟩
  have a1 := Int.emod_nonneg (n / ((k : Int) * k * 7 + 1)) (show (26 : Int) ≠ 0 by decide)
  have a2 := Int.emod_lt_of_pos (n / ((k : Int) * k * 7 + 1)) (show (0 : Int) < 26 by decide)
  obtain ⟨j, hj⟩ := Int.eq_ofNat_of_zero_le a1
  have hj26 : j < 26 := by omega
  have ix : oIx (.str LT) (.int (j : Int)) h = some (.str (sg j), h) := by
    show (if LT.length ≤ sizeLine then (L2.atI LT.cps.toList (j : Int)).map fun c => (Dt.str ⟨#[c]⟩, h) else none) = _
    rw [if_pos (by decide +kernel), SM.atI_nat, lt_at j hj26]
    rfl
  simp only [E__law_word_0, q_e2, q_eV, q_eC, List.getElem?_cons_zero, List.getElem?_cons_succ, getV_some, bnd_some, o_mul m1, o_mul m2, o_add, o_div d1, o_mod (show (0 : Int) < 26 by decide), hj, ix, Int.toNat_natCast]
theorem e_word (c : Int) (h : HI) : ∃ w : Str, F__law_word [.int c] h = some (.str w, h) ∧ w.length ≤ 1000 ∧ ∀ n ∈ w.cps.toList, n < 1000 := by
  have a1 := Int.emod_nonneg c (show (1000000000000 : Int) ≠ 0 by decide)
  generalize hn : c % 1000000000000 = n at a1
  have b1 := Int.emod_nonneg n (show (8 : Int) ≠ 0 by decide)
  have b2 := Int.emod_lt_of_pos n (show (0 : Int) < 8 by decide)
  have er := r1K_int (h := h) (j := 1 + n % 8) (by omega) (by omega)
  have ec := compV_all (te := E__law_word_0) (tc := tTrue) (i := 0) (fun (k : Nat) => Dt.int (k : Int)) (fun (k : Nat) => Dt.str (sg ((n / ((k : Int) * k * 7 + 1) % 26).toNat))) h (List.range (1 + n % 8).toNat) [none, some (.str LT), some (.int n)] fun k hk => ⟨rfl, by
    have := List.mem_range.mp hk
    exact e_sign n k (by omega) h⟩
  have hl : ((List.range (1 + n % 8).toNat).map fun (k : Nat) => Dt.int (k : Int)).length < sizeLine := by
    rw [List.length_map, List.length_range]; exact Nat.lt_of_le_of_lt (show (1 + n % 8).toNat ≤ 8 by omega) (by decide)
  have st := strs_map (fun (k : Nat) => sg ((n / ((k : Int) * k * 7 + 1) % 26).toNat)) (List.range (1 + n % 8).toNat)
  generalize hts : (List.range (1 + n % 8).toNat).map (fun (k : Nat) => sg ((n / ((k : Int) * k * 7 + 1) % 26).toNat)) = ts at st
  have t1 : ∀ t ∈ ts, ∃ j, j < 26 ∧ t = sg j := by
    intro t ht
    rw [← hts] at ht
    obtain ⟨k, hk, rfl⟩ := List.mem_map.mp ht
    refine ⟨_, ?_, rfl⟩
    have := Int.emod_lt_of_pos (n / ((k : Int) * k * 7 + 1)) (show (0 : Int) < 26 by decide)
    have := Int.emod_nonneg (n / ((k : Int) * k * 7 + 1)) (show (26 : Int) ≠ 0 by decide)
    omega
  have tl : ts.length ≤ 8 := by rw [← hts, List.length_map, List.length_range]; omega
  have tsum : (ts.map (·.length)).sum ≤ 8 := by
    have : ∀ us : List Str, (∀ t ∈ us, ∃ j, j < 26 ∧ t = sg j) → (us.map (·.length)).sum = us.length := by
      intro us
      induction us with
      | nil => intro _; rfl
      | cons u us ih =>
        intro H
        obtain ⟨j, _, e⟩ := H u (by simp)
        rw [List.map_cons, List.sum_cons, ih fun t ht => H t (List.mem_cons_of_mem _ ht), e, List.length_cons]
        show 1 + _ = _
        omega
    rw [this ts t1]; exact tl
  have ok : PySem.JoinOk ("" : Str) ts = true := by
    unfold PySem.JoinOk
    rw [PySem.StrLaws.joinTotal]
    have z0 : ("" : Str).length = 0 := by decide +kernel
    rw [z0]
    simp only [Builtin.Str.tooLong, PySem.sizeLine_eq, Bool.not_eq_true', decide_eq_false_iff_not]
    omega
  refine ⟨Str.join "" ts, ?_, ?_, ?_⟩
  · have jk : jnK (.str "") (.lst ((List.range (1 + n % 8).toNat).map fun (k : Nat) => Dt.str (sg ((n / ((k : Int) * k * 7 + 1) % 26).toNat)))) h = some (.str (Str.join "" ts), h) := by
      simp only [jnK, st, Option.bind_some, if_pos ok]
    simp [F__law_word, B__law_word, q_join, p12, o_mod, hn, er, compK_vals _ _ _ hl, ec, jk]
  · have := PySem.StrLaws.join_length_le "" ts
    have z0 : ("" : Str).length = 0 := by decide +kernel
    rw [z0] at this
    omega
  · refine join_all (P := fun n => n < 1000) (by decide +kernel) ts fun t ht m hm => ?_
    obtain ⟨j, hj, rfl⟩ := t1 t ht
    have : m = 97 + j := by simpa using hm
    omega
theorem k_bad (i : Sum Int Str) (h : HI) : F__law_kinds [.err "BadText" "row" i] h = some (.lst [.bl true, .bl false, .bl false, .bl false], h) := by kernel_rfl
theorem k_twice (i : Sum Int Str) (h : HI) : F__law_kinds [.err "Twice" "word" i] h = some (.lst [.bl false, .bl true, .bl false, .bl false], h) := by kernel_rfl
theorem k_lost (i : Sum Int Str) (h : HI) : F__law_kinds [.err "NoLabel" "word" i] h = some (.lst [.bl false, .bl false, .bl true, .bl false], h) := by kernel_rfl
theorem k_strange (i : Sum Int Str) (h : HI) : F__law_kinds [.err "NoName" "word" i] h = some (.lst [.bl false, .bl false, .bl false, .bl true], h) := by kernel_rfl
theorem n_true (a b c d : Bool) (h : HI) : oNeD (.lst [.bl a, .bl b, .bl c, .bl d]) (.lst [.bl a, .bl b, .bl c, .bl d]) h = some (.bl false, h) := by cases a <;> cases b <;> cases c <;> cases d <;> kernel_rfl
def erK (x fl : Str) (c : Int) : Dt × HI → Option (Dt × HI) := fun r => (errV c r.1).map fun i => (.err x fl i, r.2)
theorem q_err {x fl : Str} {c : Int} {g : RE} {l : LI} {h : HI} : eErr x fl c g l h = bnd (g l h) (erK x fl c) := by rfl
theorem er_i (x fl : Str) {i : Int} (h : HI) (a : 0 ≤ i) (b : i < 1000000) : erK x fl (-1) (.int i, h) = some (.err x fl (.inl i), h) := by
  simp only [erK, errV]
  rw [if_pos ⟨True.intro, Nat.lt_of_lt_of_le (show i.natAbs < 1000000 by omega) (by decide)⟩]
  rfl
theorem er_s (x fl : Str) {w : Str} (h : HI) (a : w.length ≤ 1000) (b : ∀ n ∈ w.cps.toList, n < 1000) : erK x fl 114 (.str w, h) = some (.err x fl (.inr w), h) := by
  simp only [erK, errV]
  rw [if_pos ⟨True.intro, a, b⟩]
  rfl
def xfK (x fl : Str) : Dt × HI → Option (Dt × HI)
  | (.err y f i, h) => if y = x ∧ f = fl then some (xD i, h) else none
  | _ => none
theorem q_xf {x fl : Str} {g : RE} {l : LI} {h : HI} : eXf x fl g l h = bnd (g l h) (xfK x fl) := by
  unfold eXf
  cases g l h with
  | none => rfl
  | some r => obtain ⟨d, h1⟩ := r; cases d <;> rfl
theorem xf_ok (x fl : Str) (i : Sum Int Str) (h : HI) : xfK x fl (.err x fl i, h) = some (xD i, h) := if_pos ⟨rfl, rfl⟩
theorem e_cell (c : Int) (s r0 w0 b0 t0 l0 n0 : Option Dt) (h : HI) : ∃ r w b t l n, L_law_0 [s, some (.int c), r0, w0, b0, t0, l0, n0] h = some (.nx [s, some (.int c), r, w, b, t, l, n] h) := by
  obtain ⟨w, ew, h1, h2⟩ := e_word c h
  have a1 := Int.emod_nonneg c (show (1000000 : Int) ≠ 0 by decide)
  have a2 := Int.emod_lt_of_pos c (show (0 : Int) < 1000000 by decide)
  have eb := er_i "BadText" "row" h a1 a2
  have et := er_s "Twice" "word" h h1 h2
  have el := er_s "NoLabel" "word" h h1 h2
  have en := er_s "NoName" "word" h h1 h2
  refine ⟨some (.int (c % 1000000)), some (.str w), some (.err "BadText" "row" (.inl (c % 1000000))), some (.err "Twice" "word" (.inr w)), some (.err "NoLabel" "word" (.inr w)), some (.err "NoName" "word" (.inr w)), ?_⟩
  simp [L_law_0, p6, o_mod, ew, q_err, eb, et, el, en, q_xf, xf_ok, xD, tyN, isT, k_bad, k_twice, k_lost, k_strange, n_true]
theorem law_true (ns : List Int) (hl : ns.length ≤ 63) : ∃ h', F_law [.lst (ns.map Dt.int)] [] = some (.bl true, h') := by
  have hcat := o_cat (h := []) (xs := [Dt.int 0]) (ys := ns.map Dt.int) (by rw [List.length_map]; exact Nat.le_trans (Nat.add_le_add_left hl _) (by decide))
  obtain ⟨l', h', e, -⟩ := walk_inv (i := 1) (body := L_law_0) Dt.int (fun l h' => ∃ c r w b t u n, l = [some (.lst (ns.map Dt.int)), c, r, w, b, t, u, n]) (0 :: ns) (by
    rintro c _ l h ⟨c0, r0, w0, b0, t0, u0, n0, rfl⟩
    obtain ⟨r, w, b, t, u, n, e⟩ := e_cell c (some (.lst (ns.map Dt.int))) r0 w0 b0 t0 u0 n0 h
    exact ⟨_, e, ⟨_, _, _, _, _, _, _, rfl⟩⟩) [some (.lst (ns.map Dt.int)), none, none, none, none, none, none, none] [] ⟨_, _, _, _, _, _, _, rfl⟩
  refine ⟨h', ?_⟩
  have hc2 : [Dt.int 0] ++ ns.map Dt.int = (0 :: ns).map Dt.int := rfl
  rw [hc2] at hcat
  simp [F_law, B_law, hcat]
  simp only [List.map_cons] at e
  simp [e]
end G
namespace G
open PySem PySem.Spec PyProof.Rows L2 SM
set_option maxHeartbeats 0 in
theorem all_mk {l : PySem.W.OpenLaw} {w : World} {K : PySem.W.Frag} {h : Heap} {mg : Str → Option Value} {fa : Addr} (X : K.In h) (G : h.Ns mainGlobals mg) (hfa : mg "law" = some (.ref fa))
    {C_SpanError : Addr} {C_BadText : Addr} {C_Twice : Addr} {C_NoLabel : Addr} {C_NoName : Addr} {C_BadFact : Addr} {C_TooMany : Addr}
    (yq0 : DefK K "_law_word" s__law_word) (yq1 : DefK K "_law_kinds" s__law_kinds) (yq2 : DefK K "law" s_law) (yq3 : PySem.W.nsIn K mainGlobals "BadFact" = some (some (.ref C_BadFact))) (yq4 : PySem.W.nsIn K mainGlobals "BadText" = some (some (.ref C_BadText))) (yq5 : PySem.W.nsIn K mainGlobals "NoLabel" = some (some (.ref C_NoLabel))) (yq6 : PySem.W.nsIn K mainGlobals "NoName" = some (some (.ref C_NoName))) (yq7 : PySem.W.nsIn K mainGlobals "SpanError" = some (some (.ref C_SpanError))) (yq8 : PySem.W.nsIn K mainGlobals "TooMany" = some (some (.ref C_TooMany))) (yq9 : PySem.W.nsIn K mainGlobals "Twice" = some (some (.ref C_Twice))) (yq10 : baseIn K C_SpanError = true) (yq11 : ErrK K C_BadText "BadText" "BadText.__init__" "row" s_BadText___init__) (yq12 : ErrK K C_Twice "Twice" "Twice.__init__" "word" s_Twice___init__) (yq13 : ErrK K C_NoLabel "NoLabel" "NoLabel.__init__" "word" s_NoLabel___init__) (yq14 : ErrK K C_NoName "NoName" "NoName.__init__" "word" s_NoName___init__) (yq15 : PySem.W.kitOne K (.ref C_BadText) (.ref C_BadFact) = some false) (yq16 : PySem.W.kitOne K (.ref C_Twice) (.ref C_BadFact) = some false) (yq17 : PySem.W.kitOne K (.ref C_NoLabel) (.ref C_BadFact) = some false) (yq18 : PySem.W.kitOne K (.ref C_NoName) (.ref C_BadFact) = some false) (yq19 : PySem.W.kitOne K (.ref C_BadText) (.ref C_BadText) = some true) (yq20 : PySem.W.kitOne K (.ref C_Twice) (.ref C_BadText) = some false) (yq21 : PySem.W.kitOne K (.ref C_NoLabel) (.ref C_BadText) = some false) (yq22 : PySem.W.kitOne K (.ref C_NoName) (.ref C_BadText) = some false) (yq23 : PySem.W.kitOne K (.ref C_BadText) (.ref C_NoLabel) = some false) (yq24 : PySem.W.kitOne K (.ref C_Twice) (.ref C_NoLabel) = some false) (yq25 : PySem.W.kitOne K (.ref C_NoLabel) (.ref C_NoLabel) = some true) (yq26 : PySem.W.kitOne K (.ref C_NoName) (.ref C_NoLabel) = some false) (yq27 : PySem.W.kitOne K (.ref C_BadText) (.ref C_NoName) = some false) (yq28 : PySem.W.kitOne K (.ref C_Twice) (.ref C_NoName) = some false) (yq29 : PySem.W.kitOne K (.ref C_NoLabel) (.ref C_NoName) = some false) (yq30 : PySem.W.kitOne K (.ref C_NoName) (.ref C_NoName) = some true) (yq31 : PySem.W.kitOne K (.ref C_BadText) (.ref C_SpanError) = some true) (yq32 : PySem.W.kitOne K (.ref C_Twice) (.ref C_SpanError) = some true) (yq33 : PySem.W.kitOne K (.ref C_NoLabel) (.ref C_SpanError) = some true) (yq34 : PySem.W.kitOne K (.ref C_NoName) (.ref C_SpanError) = some true) (yq35 : PySem.W.kitOne K (.ref C_BadText) (.ref C_TooMany) = some false) (yq36 : PySem.W.kitOne K (.ref C_Twice) (.ref C_TooMany) = some false) (yq37 : PySem.W.kitOne K (.ref C_NoLabel) (.ref C_TooMany) = some false) (yq38 : PySem.W.kitOne K (.ref C_NoName) (.ref C_TooMany) = some false) (yq39 : PySem.W.kitOne K (.ref C_BadText) (.ref C_Twice) = some false) (yq40 : PySem.W.kitOne K (.ref C_Twice) (.ref C_Twice) = some true) (yq41 : PySem.W.kitOne K (.ref C_NoLabel) (.ref C_Twice) = some false) (yq42 : PySem.W.kitOne K (.ref C_NoName) (.ref C_Twice) = some false) (yq43 : PySem.W.kitOne K (.ref C_BadText) (.type "ValueError") = some true) (yq44 : PySem.W.kitOne K (.ref C_Twice) (.type "ValueError") = some true) (yq45 : PySem.W.kitOne K (.ref C_NoLabel) (.type "ValueError") = some true) (yq46 : PySem.W.kitOne K (.ref C_NoName) (.type "ValueError") = some true) (yq47 : PySem.W.nsIn K mainGlobals "ValueError" = some none) (yq48 : PySem.W.nsIn K mainGlobals "bool" = some none) (yq49 : PySem.W.nsIn K mainGlobals "isinstance" = some none) (yq50 : PySem.W.nsIn K mainGlobals "range" = some none)
    : ∃ fd : FuncData, (∀ (s : Shared) (v : Value), BindsTo s fd ⟨[v], []⟩ [("_law_script", v)]) ∧ ∀ base : Heap, K.In base → base.Ns mainGlobals mg → FnOk l.prog w K mg base CX0 3 fa fd ["_law_script"] (spM K 1 F_law) := by
  have T : Txt K mg := {
    d__law_word := defk_at X G yq0 fun _ _ _ _ _ _ => len1 (fun _ => rfl)
    d__law_kinds := defk_at X G yq1 fun _ _ _ _ _ _ => len1 (fun _ => rfl)
    ei_BadText := errk_at X G yq11 yq7 yq10 fun _ _ _ _ _ _ => len2 (fun _ _ => rfl)
    ei_Twice := errk_at X G yq12 yq7 yq10 fun _ _ _ _ _ _ => len2 (fun _ _ => rfl)
    ei_NoLabel := errk_at X G yq13 yq7 yq10 fun _ _ _ _ _ _ => len2 (fun _ _ => rfl)
    ei_NoName := errk_at X G yq14 yq7 yq10 fun _ _ _ _ _ _ => len2 (fun _ _ => rfl)
    is_BadFact := ⟨⟨_, PySem.W.mg_of X G yq3, tab_cons yq11 yq15 (tab_cons yq12 yq16 (tab_cons yq13 yq17 (tab_cons yq14 yq18 (tab_nil))))⟩⟩
    is_BadText := ⟨⟨_, PySem.W.mg_of X G yq4, tab_cons yq11 yq19 (tab_cons yq12 yq20 (tab_cons yq13 yq21 (tab_cons yq14 yq22 (tab_nil))))⟩⟩
    is_NoLabel := ⟨⟨_, PySem.W.mg_of X G yq5, tab_cons yq11 yq23 (tab_cons yq12 yq24 (tab_cons yq13 yq25 (tab_cons yq14 yq26 (tab_nil))))⟩⟩
    is_NoName := ⟨⟨_, PySem.W.mg_of X G yq6, tab_cons yq11 yq27 (tab_cons yq12 yq28 (tab_cons yq13 yq29 (tab_cons yq14 yq30 (tab_nil))))⟩⟩
    is_SpanError := ⟨⟨_, PySem.W.mg_of X G yq7, tab_cons yq11 yq31 (tab_cons yq12 yq32 (tab_cons yq13 yq33 (tab_cons yq14 yq34 (tab_nil))))⟩⟩
    is_TooMany := ⟨⟨_, PySem.W.mg_of X G yq8, tab_cons yq11 yq35 (tab_cons yq12 yq36 (tab_cons yq13 yq37 (tab_cons yq14 yq38 (tab_nil))))⟩⟩
    is_Twice := ⟨⟨_, PySem.W.mg_of X G yq9, tab_cons yq11 yq39 (tab_cons yq12 yq40 (tab_cons yq13 yq41 (tab_cons yq14 yq42 (tab_nil))))⟩⟩
    ib_ValueError := tab_cons yq11 yq43 (tab_cons yq12 yq44 (tab_cons yq13 yq45 (tab_cons yq14 yq46 (tab_nil))))
    z_ValueError := PySem.W.mg_none_of X G yq47
    z_bool := PySem.W.mg_none_of X G yq48
    z_isinstance := PySem.W.mg_none_of X G yq49
    z_range := PySem.W.mg_none_of X G yq50
  }
  obtain ⟨f, oc, od, kV, dc, pm, an, cd, ct, sl, a, l1, c1, k1⟩ := yq2
  have e := hfa.symm.trans (PySem.W.mg_of X G a)
  cases e
  exact ⟨_, fun s v => .of_eq rfl, fun base _ _ => fn_law T base (fun_mk l1 c1 k1)⟩
end G
open PySem PySem.W PyProof.Rows
set_option maxRecDepth 100000 in
set_option maxHeartbeats 0 in
theorem PySem.Challenge.cw_spanways_k33_what_refusals_bear_holds : PySem.Challenge.rw_spanways_k33_what_refusals_bear.Holds := by
  w_on; o_law; k_head; (case hw => w_witness2)
  k_fill
  refine SM.law_walk (l := PySem.Challenge.rw_spanways_k33_what_refusals_bear) (F := G.F_law) (k := 3) (x := "_law_script") rfl rfl ⟨rfl, by decide, by decide⟩ (fun w h Y => PySem.W.kIn_of Y) ?F G.law_true
  case F =>
    intro w mg fa h KX GN hmg
    refine' G.all_mk KX GN hmg ?yq0 ?yq1 ?yq2 ?yq3 ?yq4 ?yq5 ?yq6 ?yq7 ?yq8 ?yq9 ?yq10 ?yq11 ?yq12 ?yq13 ?yq14 ?yq15 ?yq16 ?yq17 ?yq18 ?yq19 ?yq20 ?yq21 ?yq22 ?yq23 ?yq24 ?yq25 ?yq26 ?yq27 ?yq28 ?yq29 ?yq30 ?yq31 ?yq32 ?yq33 ?yq34 ?yq35 ?yq36 ?yq37 ?yq38 ?yq39 ?yq40 ?yq41 ?yq42 ?yq43 ?yq44 ?yq45 ?yq46 ?yq47 ?yq48 ?yq49 ?yq50
    (case yq0 | yq1 | yq2 => exact ⟨_, _, _, _, _, _, _, _, _, _, by k_is, by k_is, by k_is, by k_is⟩)
    (case yq3 | yq4 | yq5 | yq6 | yq7 | yq8 | yq9 => k_is)
    (case yq10 => kernel_rfl)
    (case yq11 | yq12 | yq13 | yq14 => exact ⟨_, _, _, _, _, _, _, _, _, _, by k_is, by k_is, by k_is, by k_is, by k_is, by k_is, by kernel_rfl, by k_is, by kernel_rfl, by k_is⟩)
    (case yq15 | yq16 | yq17 | yq18 | yq19 | yq20 | yq21 | yq22 | yq23 | yq24 | yq25 | yq26 | yq27 | yq28 | yq29 | yq30 | yq31 | yq32 | yq33 | yq34 | yq35 | yq36 | yq37 | yq38 | yq39 | yq40 | yq41 | yq42 | yq43 | yq44 | yq45 | yq46 => kernel_rfl)
    (case yq47 | yq48 | yq49 | yq50 => k_is)

