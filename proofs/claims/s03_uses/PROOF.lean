import PyProof.Rows.All
import Wide.All
import OpenK.AllK
import Wide.FinOn
import PyProof.EqAt
import PyProof.EqKinds
import PyProof.TupleCall
import KE.BitLaws
import Open.SpecLaws
import KE.OsHead
import KE.OsGo
import PyProof.RulesAs
import PyProof.PassesOwn
import PyProof.StationsW
import PyProof.ExcInit
import PyProof.ExcArgsOwn
import PyProof.InstStoreFacts
import PyProof.ExcAttrAll.Exception
import PySem.Challenge.RW_rankedfunctions_s03_uses
set_option Elab.async false
set_option linter.all false
set_option maxRecDepth 100000
/-! THE HAND LAYER, for ints, bools, texts, own classes, lists, tuples, dicts, comprehensions, walks over dicts, enumerate, zip, reversed, texts, calls, loops. Paste it whole ahead of your own text; what your proof does not reach may be deleted. -/
namespace L2
open PySem PySem.Spec PyProof.Rows

/-- a key: an int or a str -/
abbrev Key := Sum Int Str
def keyIs : Key → Value → Bool
  | .inl k, v => Value.isInt k v
  | .inr x, v => Value.isStrOf x v
def keyH (w : World) : Key → Int
  | .inl k => hashInt k
  | .inr x => hashStr w x
theorem keyIs_shape : ∀ {k : Key} {v : Value}, keyIs k v = true → (∃ i t, k = Sum.inl i ∧ v = Value.int i t) ∨ (∃ x t, k = Sum.inr x ∧ v = Value.str x t)
  | .inl i, v, h => by
    obtain ⟨t, e⟩ := Value.isInt_shape (k := i) (v := v) h
    exact .inl ⟨i, t, rfl, e⟩
  | .inr x, v, h => by
    obtain ⟨t, e⟩ := Value.isStrOf_shape (x := x) (v := v) h
    exact .inr ⟨x, t, rfl, e⟩
theorem key_ll (a b : Int) : decide ((Sum.inl a : Key) = Sum.inl b) = (a == b) := by
  by_cases e : a = b
  · subst e; simp
  · have h : ¬ (Sum.inl a : Key) = Sum.inl b := fun q => e (Sum.inl.inj q)
    rw [decide_eq_false h]
    exact (beq_eq_false_iff_ne.mpr e).symm
theorem key_rr (a b : Str) : decide ((Sum.inr a : Key) = Sum.inr b) = decide (a = b) := by
  by_cases e : a = b
  · subst e; simp
  · have h : ¬ (Sum.inr a : Key) = Sum.inr b := fun q => e (Sum.inr.inj q)
    rw [decide_eq_false h, decide_eq_false e]
theorem key_lr (a : Int) (b : Str) : decide ((Sum.inl a : Key) = Sum.inr b) = false := decide_eq_false (fun q => nomatch q)
theorem key_rl (a : Str) (b : Int) : decide ((Sum.inr a : Key) = Sum.inl b) = false := decide_eq_false (fun q => nomatch q)

def mixKind (prog : Program) (w : World) : PySem.KeyKind prog w Key where
  is := keyIs
  hash := keyH w
  inj := fun v a b ha hb => by
    rcases keyIs_shape ha with ⟨i, t, rfl, rfl⟩ | ⟨x, t, rfl, rfl⟩
    · rcases keyIs_shape hb with ⟨j, u, rfl, e⟩ | ⟨y, u, rfl, e⟩
      · injection e with e1 _; rw [e1]
      · exact nomatch e
    · rcases keyIs_shape hb with ⟨j, u, rfl, e⟩ | ⟨y, u, rfl, e⟩
      · exact nomatch e
      · injection e with e1 _; rw [e1]
  byValue := fun k v h => by
    rcases keyIs_shape h with ⟨i, t, rfl, rfl⟩ | ⟨x, t, rfl, rfl⟩ <;> rfl
  pyHash := fun hv h => by
    rcases keyIs_shape hv with ⟨i, t, rfl, rfl⟩ | ⟨x, t, rfl, rfl⟩
    · exact wpAny_pyHash_int h
    · exact wpAny_pyHash_str h
  eqBool := fun hu hv h => by
    rcases keyIs_shape hu with ⟨i, t, rfl, rfl⟩ | ⟨x, t, rfl, rfl⟩
    · rcases keyIs_shape hv with ⟨j, u, rfl, rfl⟩ | ⟨y, u, rfl, rfl⟩
      · rw [key_ll] at h; exact wpAny_eqBool_int h
      · rw [key_lr] at h; exact SeqAt.EqAt.int_str i t y u _ _ _ _ h
    · rcases keyIs_shape hv with ⟨j, u, rfl, rfl⟩ | ⟨y, u, rfl, rfl⟩
      · rw [key_rl] at h; exact SeqAt.EqAt.str_int x t j u _ _ _ _ h
      · rw [key_rr] at h; exact wpAny_eqBool_str h
  «strs» := fun k x t v h => by
    rcases keyIs_shape h with ⟨i, u, rfl, e⟩ | ⟨y, u, rfl, e⟩
    · exact nomatch e
    · injection e with e1 _
      subst e1
      cases v <;> rfl

end L2

namespace L2
open PySem PySem.Spec PyProof.Rows

/-- a value, without the heap -/
inductive V where
  | non | bl (b : Bool) | int (i : Int) | str (x : Str) | byt (b : Array UInt8) | flt (b : UInt64) | ref (a : Addr) | ty (n : String)
  deriving DecidableEq

def RelV : V → Value → Prop
  | .non, u => u = Value.none
  | .bl b, u => u = Value.bool b
  | .int i, u => ∃ t, u = Value.int i t
  | .str x, u => ∃ t, u = Value.str x t
  | .byt b, u => ∃ t, u = Value.bytes b t
  | .flt b, u => ∃ t, u = Value.float b t
  | .ref a, u => u = Value.ref a
  | .ty n, u => u = Value.type n

abbrev Vals : List V → List Value → Prop := Paired RelV
theorem Vals.length {xs : List V} {us : List Value} (r : Vals xs us) : xs.length = us.length := Paired.length r
theorem Vals.get : ∀ {xs : List V} {us : List Value} {i : Nat} {x : V}, Vals xs us → xs[i]? = some x → ∃ u, us[i]? = some u ∧ RelV x u
  | _, _, _, _, .nil, e => by simp at e
  | _, _, 0, _, .cons r _, e => by simp at e; subst e; exact ⟨_, rfl, r⟩
  | _, _, i + 1, x, .cons _ t, e => by
    obtain ⟨u, h1, h2⟩ := Vals.get (i := i) (x := x) t (by simpa using e)
    exact ⟨u, by simpa using h1, h2⟩
theorem Vals.append : ∀ {xs ys : List V} {us ws : List Value}, Vals xs us → Vals ys ws → Vals (xs ++ ys) (us ++ ws)
  | _, _, _, _, .nil, s => s
  | _, _, _, _, .cons r t, s => .cons r (Vals.append t s)
theorem Vals.take : ∀ {xs : List V} {us : List Value} (n : Nat), Vals xs us → Vals (xs.take n) (us.take n)
  | _, _, 0, _ => .nil
  | _, _, _ + 1, .nil => .nil
  | _, _, n + 1, .cons r t => .cons r (Vals.take n t)
theorem Vals.drop : ∀ {xs : List V} {us : List Value} (n : Nat), Vals xs us → Vals (xs.drop n) (us.drop n)
  | _, _, 0, r => r
  | _, _, _ + 1, .nil => .nil
  | _, _, n + 1, .cons _ t => Vals.drop n t
def RelO : Option V → Option Value → Prop
  | some v, some u => RelV v u
  | none, none => True
  | _, _ => False
def KV {κ : Type} : List (κ × V) → List (κ × Value) → Prop := Paired fun (p : κ × V) (q : κ × Value) => p.1 = q.1 ∧ RelV p.2 q.2

/-- a key of a dict (00_mix): an int or a text -/
def kV : Key → V
  | .inl i => .int i
  | .inr x => .str x

/-- what stands at a tracked address -/
inductive HO where
  /-- a list -/
  | lst (xs : List V)
  /-- a tuple (never changes) -/
  | tup (xs : List V)
  /-- a dict whose keys are ints and texts; one whose keys are tuples of ints and texts (the empty one is both) -/
  | dK (kvs : List (Key × V)) | dT (kvs : List (List Key × V))
  /-- a set of ints: its members, its size -/
  | set (S : Int → Bool) (n : Nat)
  /-- an instance of the class at C, its dict at dx, its attributes -/
  | ins (C dx : Addr) (fs : List (Str × V))
  /-- the dict of the instance at x -/
  | own (x : Addr)
  /-- the dict of an exception -/
  | xd (fs : List (Str × V))
  /-- a bound method, f of x -/
  | met (f x : Addr)
  /-- a range object lo, lo + 1, .. below hi -/
  | rng (lo hi : Int)
  /-- a thing that is known to the object (the script; a dict while a loop walks it): read, never written while it is so -/
  | frz (o : Obj) (u : HO)
  /-- a code object's table -/
  | tbl (ps : Array Value)
  /-- any other thing, by what is true of its one object (a def of one's own: SetO a S n := HO.ext fun h => ..) -/
  | ext (φ : Heap → Prop)

abbrev Hp := Addr → Option HO
def upd (H : Hp) (a : Addr) (o : HO) : Hp := fun b => if b = a then some o else H b
theorem upd_same {H : Hp} {a : Addr} {o : HO} : upd H a o a = some o := by unfold upd; rw [if_pos rfl]
theorem upd_ne {H : Hp} {a b : Addr} {o : HO} (h : b ≠ a) : upd H a o b = H b := by unfold upd; rw [if_neg h]
theorem upd_upd {H : Hp} {a : Addr} {o u : HO} : upd (upd H a o) a u = upd H a u := by
  funext b; unfold upd; split <;> rfl
/-- two objects of different content stand apart -/
theorem ne_of {H : Hp} {a b : Addr} {o u : HO} (h : H a = some o) (h' : H b = some u) (d : o ≠ u) : a ≠ b := by
  intro e; subst e; rw [h] at h'; exact d (Option.some.inj h')
theorem ne_of_none {H : Hp} {a b : Addr} {o : HO} (h : H a = some o) (h' : H b = none) : a ≠ b := by
  intro e; subst e; rw [h] at h'; cases h'

section
variable (P : Program) (w : World)
def ObjOk (H : Hp) (h : Heap) (a : Addr) : HO → Prop
  | .lst xs => xs.length ≤ sizeLine ∧ ∃ (its : List Value) (n : Nat), Vals xs its ∧ h.get? a = some { cls := .type "list", data := .seq its.toArray n }
  | .tup xs => xs.length ≤ sizeLine ∧ ∃ its : List Value, Vals xs its ∧ IsTup h a its.toArray
  | .dK kvs => kvs.length ≤ sizeLine ∧ (a == sysModules) = false ∧ ∃ vs, KV kvs vs ∧ h.DictOf (mixKind P w) a vs
  | .dT kvs => kvs.length ≤ sizeLine ∧ (a == sysModules) = false ∧ ∃ xs : List (List Key × Addr × Value),
      Paired (fun (p : List Key × V) (q : List Key × Addr × Value) => p.1 = q.1 ∧ H q.2.1 = some (.tup (p.1.map kV)) ∧ RelV p.2 q.2.2) kvs xs ∧
      ∃ o es ep, h.get? a = some o ∧ o.ExactDict ∧ o.data = .dict es ep ∧ es.toList = xs.map (entryOfKey (tupleKind (mixKind P w))) ∧ (xs.map (·.1)).Nodup
  | .set S n => h.SetOf (intKind P w) a S n
  | .ins C dx fs => H dx = some (.own a) ∧ fs.length ≤ 1000 ∧ dx ≠ a ∧ h.get? a = some (PySem.W.instObj C dx) ∧
      ∃ mA, h.Ns1 dx mA ∧ (∀ f, RelO (fs.lookup f) (mA f)) ∧ PySem.Within mA (fs.map (·.1))
  | .own _ => ∃ o, h.get? a = some o
  | .xd fs => ∃ mA, h.Ns1 a mA ∧ ∀ f, RelO (fs.lookup f) (mA f)
  | .rng lo hi => ∃ t u v, h.get? a = some { cls := .type "range", data := .fields #[.int lo t, .int hi u, .int 1 v] }
  | .frz o u => h.get? a = some o ∧ ObjOk H h a u
  | .tbl ps => h.get? a = some { cls := .none, data := .fields ps }
  | .met f x => h.get? a = some (PySem.W.methodObj (.ref f) (.ref x))
  | .ext φ => φ h ∧ (∃ o, h.get? a = some o) ∧ ∀ h1 h2 : Heap, φ h1 → (∀ o, h1.get? a = some o → h2.get? a = some o) → φ h2
/-- the abstract heap is held -/
def HOk (H : Hp) (h : Heap) : Prop := ∀ a o, H a = some o → ObjOk P w H h a o
end

section
variable {P : Program} {w : World} {H H' : Hp} {h h' : Heap} {a : Addr} {o : HO}
theorem ObjOk.lt (x : ObjOk P w H h a o) : a < h.objs.size := by
  cases o with
  | lst xs => obtain ⟨_, _, _, _, e⟩ := x; exact Heap.lt_size e
  | tup xs => obtain ⟨_, _, _, p⟩ := x; exact p.lt
  | dK kvs => obtain ⟨_, _, _, _, o, _, _, e, _⟩ := x; exact Heap.lt_size e
  | dT kvs => obtain ⟨_, _, _, _, o, _, _, e, _⟩ := x; exact Heap.lt_size e
  | set S n => obtain ⟨o, _, _, _, e, _⟩ := x; exact Heap.lt_size e
  | ins C dx fs => obtain ⟨_, _, _, e, _⟩ := x; exact Heap.lt_size e
  | own y => obtain ⟨_, e⟩ := x; exact Heap.lt_size e
  | xd fs => obtain ⟨_, ⟨_, _, _, e, _⟩, _⟩ := x; exact Heap.lt_size e
  | rng lo hi => obtain ⟨_, _, _, e⟩ := x; exact Heap.lt_size e
  | frz ob u => obtain ⟨e, _⟩ := x; exact Heap.lt_size e
  | tbl ps => exact Heap.lt_size (show h.get? a = some _ from x)
  | met f y => exact Heap.lt_size (show h.get? a = some _ from x)
  | ext φ => obtain ⟨_, ⟨_, e⟩, _⟩ := x; exact Heap.lt_size e
theorem Paired.mapP {α β : Type} {F G : α → β → Prop} : ∀ {l₁ : List α} {l₂ : List β}, Paired F l₁ l₂ → (∀ a b, F a b → G a b) → Paired G l₁ l₂
  | _, _, .nil, _ => .nil
  | _, _, .cons r t, f => .cons (f _ _ r) (Paired.mapP t f)
/-- what an object's description leans on: its own object, its own dict, the tuples -/
theorem ObjOk.stay (x : ObjOk P w H h a o) (k : ∀ b u, (b = a ∨ H b = some (.own a)) → h.get? b = some u → h'.get? b = some u)
    (ho : ∀ b, H b = some (.own a) → H' b = some (.own a)) (ht : ∀ b xs, H b = some (.tup xs) → H' b = some (.tup xs)) : ObjOk P w H' h' a o := by
  induction o with
  | lst xs => obtain ⟨z, its, n, r, e⟩ := x; exact ⟨z, its, n, r, k _ _ (.inl rfl) e⟩
  | tup xs => obtain ⟨z, its, r, ob, e, c⟩ := x; exact ⟨z, its, r, ob, k _ _ (.inl rfl) e, c⟩
  | dK kvs => obtain ⟨z, y, vs, r, ob, es, ep, e, c⟩ := x; exact ⟨z, y, vs, r, ob, es, ep, k _ _ (.inl rfl) e, c⟩
  | dT kvs =>
    obtain ⟨z, y, xs, r, ob, es, ep, e, c⟩ := x
    exact ⟨z, y, xs, Paired.mapP r fun p q z => ⟨z.1, ht _ _ z.2.1, z.2.2⟩, ob, es, ep, k _ _ (.inl rfl) e, c⟩
  | set S n => obtain ⟨ob, es, ep, t, e, c⟩ := x; exact ⟨ob, es, ep, t, k _ _ (.inl rfl) e, c⟩
  | ins C dx fs =>
    obtain ⟨d, z, ne, e, mA, ⟨od, es, ep, e2, c⟩, r⟩ := x
    exact ⟨ho _ d, z, ne, k _ _ (.inl rfl) e, mA, ⟨od, es, ep, k _ _ (.inr d) e2, c⟩, r⟩
  | own y => obtain ⟨ob, e⟩ := x; exact ⟨ob, k _ _ (.inl rfl) e⟩
  | xd fs => obtain ⟨mA, ⟨od, es, ep, e, c⟩, r⟩ := x; exact ⟨mA, ⟨od, es, ep, k _ _ (.inl rfl) e, c⟩, r⟩
  | rng lo hi => obtain ⟨t, u, v, e⟩ := x; exact ⟨t, u, v, k _ _ (.inl rfl) e⟩
  | frz ob u ih => obtain ⟨e, q⟩ := x; exact ⟨k _ _ (.inl rfl) e, ih q⟩
  | tbl ps =>
    have e : h.get? a = some { cls := .none, data := .fields ps } := x
    show h'.get? a = some { cls := .none, data := .fields ps }
    exact k a _ (.inl rfl) e
  | met f y =>
    have e : h.get? a = some (PySem.W.methodObj (.ref f) (.ref y)) := x
    show h'.get? a = some (PySem.W.methodObj (.ref f) (.ref y))
    exact k a _ (.inl rfl) e
  | ext φ => obtain ⟨p, ⟨o, e⟩, st⟩ := x; exact ⟨st _ _ p fun o q => k _ _ (.inl rfl) q, ⟨o, k _ _ (.inl rfl) e⟩, st⟩
theorem HOk.lt (x : HOk P w H h) (e : H a = some o) : a < h.objs.size := (x a o e).lt
theorem HOk.fresh (x : HOk P w H h) (e : h.objs.size ≤ a) : H a = none := by
  cases q : H a with
  | none => rfl
  | some u => exact absurd (Nat.lt_of_lt_of_le (x.lt q) e) (Nat.lt_irrefl _)
/-- every object of the heap is kept -/
theorem HOk.kept (x : HOk P w H h) (k : ∀ b u, h.get? b = some u → h'.get? b = some u) : HOk P w H h' := fun a o e =>
  (x a o e).stay (fun b u _ q => k b u q) (fun _ q => q) fun _ _ q => q
/-- a new object is laid and tracked -/
theorem HOk.laid (x : HOk P w H h) (k : ∀ b u, h.get? b = some u → h'.get? b = some u) (hp : h.objs.size ≤ a) (new : ObjOk P w (upd H a o) h' a o) : HOk P w (upd H a o) h' := fun b u e => by
  have hn := x.fresh hp
  by_cases hb : b = a
  · subst hb; rw [upd_same] at e; cases e; exact new
  · rw [upd_ne hb] at e
    exact (x b u e).stay (fun c v _ q => k c v q) (fun c q => by rw [upd_ne (ne_of_none q hn)]; exact q) fun c xs q => by rw [upd_ne (ne_of_none q hn)]; exact q
end

/-- what may be read as u: it is u, or a known u -/
def Rd (H : Hp) (a : Addr) (u : HO) : Prop := H a = some u ∨ ∃ o, H a = some (.frz o u)
theorem Rd.ok {P : Program} {w : World} {H : Hp} {h : Heap} {a : Addr} {u : HO} (r : Rd H a u) (x : HOk P w H h) : ObjOk P w H h a u := by
  rcases r with r | ⟨o, r⟩
  · exact x a u r
  · obtain ⟨_, q⟩ := x a _ r
    exact q
/-- what may be written -/
def Mut : Option HO → Prop
  | some (.lst _) => True
  | some (.dK _) => True
  | some (.dT _) => True
  | some (.set _ _) => True
  | some (.ins _ _ _) => True
  | some (.ext _) => True
  | _ => False
section
variable {P : Program} {w : World} {H : Hp} {h h' : Heap} {x e : Addr} {o' : HO}
/-- the object at e is changed: x itself, or the dict of the instance x -/
theorem HOk.write (ok : HOk P w H h) (mu : Mut (H x)) (he : e = x ∨ H e = some (.own x)) (k : ∀ b u, b ≠ e → h.get? b = some u → h'.get? b = some u) (heo : ∃ u, h'.get? e = some u)
    (new : ObjOk P w (upd H x o') h' x o') : HOk P w (upd H x o') h' := fun b u q => by
  have nown : ∀ c y, H c = some (.own y) → c ≠ x := fun c y r z => by subst z; rw [r] at mu; exact mu
  have ntup : ∀ c xs, H c = some (.tup xs) → c ≠ x := fun c xs r z => by subst z; rw [r] at mu; exact mu
  by_cases hb : b = x
  · subst hb; rw [upd_same] at q; cases q; exact new
  · rw [upd_ne hb] at q
    by_cases hbe : b = e
    · have q' : H b = some (.own x) := by
        rcases he with z | z
        · exact absurd (hbe.trans z) hb
        · rw [hbe]; exact z
      rw [q] at q'; cases q'
      obtain ⟨v, hv⟩ := heo
      exact ⟨v, by rw [hbe]; exact hv⟩
    · refine (ok b u q).stay (fun c v hc r => k c v ?_ r) (fun c r => by rw [upd_ne (nown c b r)]; exact r) fun c xs r => by rw [upd_ne (ntup c xs r)]; exact r
      rcases hc with rfl | hc
      · exact hbe
      · rintro rfl
        rcases he with z | z
        · exact nown c b hc z
        · rw [hc] at z; cases z; exact hb rfl
end

/-! ### kept unless tracked; of the frames at fs (the callers') the slots may change (an exception that passes writes there); of the records at ex (iterators) nothing is said -/
structure Un (fs ex : List Addr) (H H' : Hp) (h h' : Heap) : Prop where
  keep : ∀ b o, h.get? b = some o → H b = none → b ∉ fs → b ∉ ex → h'.get? b = some o
  slot : ∀ b o, h.get? b = some o → H b = none → b ∈ fs → b ∉ ex → ∃ sl, h'.get? b = some { o with slots := sl }
  free : ∀ b o, h.get? b = some o → H b = none → b ∉ ex → H' b = none
  there : ∀ b o, h.get? b = some o → b ∉ ex → ∃ o', h'.get? b = some o'
  tups : ∀ b xs, H b = some (.tup xs) → H' b = some (.tup xs)
  frzs : ∀ b o u, H b = some (.frz o u) → H' b = some (.frz o u)
  tbls : ∀ b ps, H b = some (.tbl ps) → ∃ more, H' b = some (.tbl (ps ++ more))
section
variable {fs fs' ex ex' : List Addr} {H H1 H2 : Hp} {h h1 h2 h' : Heap} {a x e : Addr} {o : HO}
theorem Un.any (u : Un fs ex H H1 h h1) {b : Addr} {ob : Obj} (q : h.get? b = some ob) (n : H b = none) (hx : b ∉ ex) : ∃ sl, h1.get? b = some { ob with slots := sl } := by
  by_cases hb : b ∈ fs
  · exact u.slot b ob q n hb hx
  · exact ⟨ob.slots, u.keep b ob q n hb hx⟩
theorem Un.kept (k : ∀ b u, h.get? b = some u → h'.get? b = some u) : Un fs ex H H h h' :=
  ⟨fun b ob q _ _ _ => k b ob q, fun b ob q _ _ _ => ⟨ob.slots, k b ob q⟩, fun _ _ _ n _ => n, fun b ob q _ => ⟨ob, k b ob q⟩, fun _ _ q => q, fun _ _ _ q => q, fun _ ps q => ⟨#[], by rw [q]; simp⟩⟩
theorem Un.refl : Un fs ex H H h h := Un.kept fun _ _ q => q
theorem Un.laid (k : ∀ b u, h.get? b = some u → h'.get? b = some u) (hp : h.objs.size ≤ a) (hn : H a = none) : Un fs ex H (upd H a o) h h' where
  keep := fun b u q _ _ _ => k b u q
  slot := fun b u q _ _ _ => ⟨u.slots, k b u q⟩
  free := fun b u q n _ => by rw [upd_ne (Nat.ne_of_lt (Nat.lt_of_lt_of_le (Heap.lt_size q) hp))]; exact n
  there := fun b u q _ => ⟨u, k b u q⟩
  tups := fun b xs q => by rw [upd_ne (ne_of_none q hn)]; exact q
  frzs := fun b u xs q => by rw [upd_ne (ne_of_none q hn)]; exact q
  tbls := fun b ps q => ⟨#[], by rw [upd_ne (ne_of_none q hn), q]; simp⟩
theorem Un.write (mu : Mut (H x)) (he : e = x ∨ H e = some (.own x)) (k : ∀ b u, b ≠ e → h.get? b = some u → h'.get? b = some u) (heo : ∃ u, h'.get? e = some u) : Un fs ex H (upd H x o) h h' := by
  have hx : ∀ b, H b = none → b ≠ x := fun b n z => by subst z; rw [n] at mu; exact mu
  have hb : ∀ b, H b = none → b ≠ e := fun b n z => by
    subst z
    rcases he with r | r
    · exact hx b n r
    · rw [n] at r; cases r
  have hm : ∀ b u, H b = some u → ¬ Mut (some u) → b ≠ x := fun b u q nm z => by subst z; rw [q] at mu; exact nm mu
  refine ⟨fun b u q n _ _ => k b u (hb b n) q, fun b u q n _ _ => ⟨u.slots, k b u (hb b n) q⟩, fun b u q n _ => by rw [upd_ne (hx b n)]; exact n, fun b u q _ => ?_,
    fun b xs q => by rw [upd_ne (hm b _ q fun z => z)]; exact q, fun b u xs q => by rw [upd_ne (hm b _ q fun z => z)]; exact q, fun b ps q => ⟨#[], by rw [upd_ne (hm b _ q fun z => z), q]; simp⟩⟩
  by_cases hbe : b = e
  · subst hbe; exact heo
  · exact ⟨u, k b u hbe q⟩
end

/-! ### the heap without what is tracked -/
def trk (h : Heap) (H : Hp) : List Addr := (List.range h.objs.size).filter fun a => (H a).isSome
def hidT (h : Heap) (H : Hp) : Heap := PySem.W.hideAll h (trk h H)
theorem hidT_size (h : Heap) (H : Hp) : (hidT h H).objs.size = h.objs.size := PySem.W.hideAll_size _ _
theorem hidT_get {h : Heap} {H : Hp} {b : Addr} {o : Obj} (e : h.get? b = some o) (n : H b = none) : (hidT h H).get? b = some o :=
  PySem.W.hideAll_get _ e fun hm => by
    have q : (H b).isSome = true := (List.mem_filter.mp hm).2
    rw [n] at q; simp at q
theorem of_hidT {h : Heap} {H : Hp} {b : Addr} {o : Obj} (e : (hidT h H).get? b = some o) : h.get? b = some o ∧ H b = none := by
  have e' : h.get? b = some o := PySem.W.of_hideAll (trk h H) e
  refine ⟨e', ?_⟩
  cases q : H b with
  | none => rfl
  | some x =>
    have hm : b ∈ trk h H := List.mem_filter.mpr ⟨List.mem_range.mpr (Heap.lt_size e'), by simp [q]⟩
    have z : (hidT h H).get? b = none := PySem.W.hideAll_none (trk h H) hm
    rw [z] at e; cases e

/-! ### OpenK's ledger, filled with every new object but one -/
end L2

namespace L2
open PySem PySem.Spec PyProof.Rows

/-- the module's facts, over the base: the heap at the law's entry without what is tracked there -/
structure Mod (K : PySem.W.Frag) (mg : Str → Option Value) (base : Heap) : Prop where
  kin : K.In base
  glob : base.Ns mainGlobals mg
  blt : ∃ mb, base.Ns builtinsNs mb ∧ ∀ x : Str, x ≠ "__name__" → mb x = bootBuiltins x
  nolimit : base.NoLimit

/-- the context: a def's body (or a comprehension's block) running. base: fixed through the whole law; s₀, H₀: the entry; outer: the frames whose slots others may change (a def's callers); stack: all frames that run;
   ex: iterators that were made ahead of the entry and are walked here (a comprehension's); fn: the names whose cells were made at the entry (a def: all; a comprehension's block: its own); calm: not within an except suite; pn: pins that every state bears; xe: what is wanted of an exception that leaves the code -/
structure Cx where
  prog : Program
  w : World
  K : PySem.W.Frag
  mg : Str → Option Value
  base : Heap
  A : Around
  N : List Str
  s_0 : Shared
  H_0 : Hp
  env : Env
  outer : List Env
  stack : List Env
  ex : List Addr
  fn : Str → Bool
  calm : Bool
  pn : List (Addr × Obj)
  xe : Value → Shared → Prop
/-- the callers' frames -/
def frs (l : List Env) : List Addr := l.filterMap (·.frame)
abbrev Cx.fs (X : Cx) : List Addr := frs X.outer

def Vis (sc : Scope) (x : Str) : Prop := sc.names.lookup x = some .local ∨ sc.names.lookup x = some .cell ∨ sc.names.lookup x = some .free
def Loc (sc : Scope) (x : Str) : Prop := sc.names.lookup x = some .local ∨ sc.names.lookup x = some .cell
def Look (env : Env) (h : Heap) (m : Str → Option Value) (x : Str) (u : Value) : Prop :=
  (env.kindOf x = some .local ∧ m x = some u) ∨ ((env.kindOf x = some .cell ∨ env.kindOf x = some .free) ∧ ∃ c, env.cells.lookup x = some c ∧ h.IsCell c (some u))

structure Cx.Ok (X : Cx) : Prop where
  mod : Mod X.K X.mg X.base
  kind : X.env.scope.kind = .function
  glob : X.env.globals = mainGlobals
  blt : X.env.builtins = builtinsNs
  above : X.s_0.heap.objs.size ≤ X.env.locals
  inj : ∀ x y c, X.env.cells.lookup x = some c → X.env.cells.lookup y = some c → x = y
  has : ∀ x, (X.env.kindOf x = some .cell ∨ X.env.kindOf x = some .free) → ∃ c, X.env.cells.lookup x = some c
  cab : ∀ x c, X.fn x = true → X.env.cells.lookup x = some c → X.s_0.heap.objs.size ≤ c
  hd : X.calm = true → X.A.handled = none
  frames : X.A.frames = some X.stack
  stk : X.stack = X.outer ∨ (X.stack = X.env :: X.outer ∧ X.env.frame = some X.env.locals)
  exf : ∀ b ∈ X.ex, b ≠ X.env.locals ∧ ∀ x c, X.env.cells.lookup x = some c → c ≠ b
  bs : ∀ b o, X.base.get? b = some o → X.s_0.heap.get? b = some o ∧ X.H_0 b = none
  bsz : X.base.objs.size ≤ X.s_0.heap.objs.size
  noex : ∀ b o, X.base.get? b = some o → b ∉ X.ex
  exfs : ∀ b ∈ X.ex, b ∉ X.fs
  funs : X.s_0.heap.FunFrames X.base X.outer
  frf : ∀ b ∈ X.fs, X.H_0 b = none

structure Inv (X : Cx) (pins : List (Addr × Obj)) (σ : List (Option V)) (H : Hp) (s : Shared) : Prop where
  ok : X.Ok
  os : s.os = X.s_0.os
  bare : AllBare s.gens
  base : Un X.fs X.ex X.H_0 H X.s_0.heap s.heap
  loc : ∃ m, s.heap.Ns X.env.locals m ∧ ∀ (i : Nat) (x : Str) (v : V), X.N[i]? = some x → σ[i]? = some (some v) → Vis X.env.scope x → ∃ u, RelV v u ∧ Look X.env s.heap m x u
  cell : ∀ x c, X.env.cells.lookup x = some c → ∃ v, s.heap.IsCell c v
  free : H X.env.locals = none
  freeC : ∀ x c, X.env.cells.lookup x = some c → H c = none
  pin : ∀ p ∈ X.pn ++ pins, s.heap.get? p.1 = some p.2 ∧ H p.1 = none ∧ p.1 ≠ X.env.locals ∧ p.1 ∉ X.fs ∧ ∀ v, p.2.data ≠ .cell v
  hok : HOk X.prog X.w H s.heap
  len : σ.length = X.N.length

section
variable {X : Cx} {pins : List (Addr × Obj)} {σ : List (Option V)} {H H' : Hp} {s : Shared} {h' : Heap}

theorem Cx.Ok.nofr (ok : X.Ok) {b : Addr} {o : Obj} (e : X.base.get? b = some o) : b ∉ X.fs := fun hb => by
  have := (ok.funs.mem hb).1
  rw [e] at this; cases this
theorem Inv.bs (I : Inv X pins σ H s) : ∀ b o, X.base.get? b = some o → s.heap.get? b = some o ∧ H b = none := fun b o e =>
  ⟨I.base.keep b o (I.ok.bs b o e).1 (I.ok.bs b o e).2 (I.ok.nofr e) (I.ok.noex b o e), I.base.free b o (I.ok.bs b o e).1 (I.ok.bs b o e).2 (I.ok.noex b o e)⟩
theorem Inv.bk (I : Inv X pins σ H s) : ∀ b o, X.base.get? b = some o → s.heap.get? b = some o := fun b o e => (I.bs b o e).1
theorem Inv.mod (I : Inv X pins σ H s) : Mod X.K X.mg X.base := I.ok.mod
theorem Inv.kIn (I : Inv X pins σ H s) : X.K.In s.heap := I.ok.mod.kin.keeps I.bk
/-- the frame over the base: for OpenK's rules (K.In X.base is I.mod.kin) -/
theorem Inv.fr (I : Inv X pins σ H s) : ∃ m, Fr X.base X.env.locals s.heap m :=
  let ⟨m, hn, _⟩ := I.loc
  ⟨m, hn, I.bk, Nat.le_trans I.ok.bsz I.ok.above⟩
theorem Inv.lt (I : Inv X pins σ H s) : X.env.locals < s.heap.objs.size := let ⟨_, hn, _⟩ := I.loc; hn.lt
theorem Inv.sz (I : Inv X pins σ H s) : X.s_0.heap.objs.size ≤ s.heap.objs.size := Nat.le_trans I.ok.above (Nat.le_of_lt I.lt)
theorem Inv.nofs (I : Inv X pins σ H s) {a : Addr} (h : s.heap.objs.size ≤ a) : a ∉ X.fs := fun hb => by
  obtain ⟨_, o, ho, _⟩ := I.ok.funs.mem hb
  exact absurd (Nat.lt_of_lt_of_le (Heap.lt_size ho) (Nat.le_trans I.sz h)) (Nat.lt_irrefl _)
theorem Inv.cne (I : Inv X pins σ H s) : ∀ x c, X.env.cells.lookup x = some c → c ≠ X.env.locals := fun x c e z => by
  obtain ⟨v, o, ho, hd⟩ := I.cell x c e
  obtain ⟨m, ⟨o', es, ep, ho', hd', _⟩, _⟩ := I.loc
  rw [z, ho'] at ho; cases ho; rw [hd'] at hd; cases hd
theorem Inv.funs (I : Inv X pins σ H s) : s.heap.FunFrames X.base X.outer := by
  have all : ∀ (l : List Env), (∀ b ∈ frs l, b ∈ X.fs) → X.s_0.heap.FunFrames X.base l → s.heap.FunFrames X.base l := by
    intro l
    induction l with
    | nil => intro _ _; trivial
    | cons env r ih =>
      intro hs hl
      obtain ⟨hk, ⟨L, o, hf, hn, ho, hd⟩, hr⟩ := hl
      have hL : L ∈ X.fs := hs L (by unfold frs; rw [List.filterMap_cons, hf]; exact List.mem_cons_self)
      obtain ⟨sl, e⟩ := I.base.slot L o ho (I.ok.frf L hL) hL fun z => I.ok.exfs L z hL
      exact ⟨hk, ⟨L, _, hf, hn, e, hd⟩, ih (fun b hb => hs b (by unfold frs; rw [List.filterMap_cons, hf]; exact List.mem_cons_of_mem _ hb)) hr⟩
  exact all X.outer (fun _ hb => hb) I.ok.funs

/-- the frames that run, for a call -/
theorem Inv.stack (I : Inv X pins σ H s) : s.heap.FunFrames X.base X.stack := by
  rcases I.ok.stk with e | ⟨e, hf⟩
  · rw [e]; exact I.funs
  · rw [e]
    obtain ⟨m, hn, _⟩ := I.loc
    refine .cons (by rw [I.ok.kind]; decide) hf hn ?_ I.funs
    exact Heap.get?_none_of_le (Nat.le_trans I.ok.bsz I.ok.above)
theorem Inv.stkSub (I : Inv X pins σ H s) : ∀ b ∈ frs X.stack, b ∈ X.env.locals :: X.fs := fun b hb => by
  rcases I.ok.stk with e | ⟨e, hf⟩
  · rw [e] at hb; exact List.mem_cons_of_mem _ hb
  · rw [e] at hb
    unfold frs at hb
    rw [List.filterMap_cons, hf] at hb
    exact hb
theorem Inv.stkFree (I : Inv X pins σ H s) : ∀ b ∈ frs X.stack, H b = none := fun b hb => by
  rcases List.mem_cons.mp (I.stkSub b hb) with e | hb
  · rw [e]; exact I.free
  · obtain ⟨_, o, ho, _⟩ := I.ok.funs.mem hb
    exact I.base.free b o ho (I.ok.frf b hb) fun z => I.ok.exfs b z hb

/-- THE STEP: the untracked objects but the frame and the records at ch are kept (the callers' frames up to slots), the frame's map is kept, the new abstract heap is held -/
theorem Inv.step {g' : Array GenState} {t' : Nat} {d' : Drawn} {ch : List Addr} (I : Inv X pins σ H s)
    (hch : ∀ b ∈ ch, (b ∈ X.ex ∨ X.s_0.heap.objs.size ≤ b) ∧ b ≠ X.env.locals ∧ (∀ x c, X.env.cells.lookup x = some c → c ≠ b) ∧ ∀ p ∈ X.pn ++ pins, p.1 ≠ b)
    (keep : ∀ b o, b ≠ X.env.locals → b ∉ X.fs → b ∉ ch → s.heap.get? b = some o → H b = none → h'.get? b = some o)
    (slot : ∀ b o, b ≠ X.env.locals → b ∈ X.fs → b ∉ ch → s.heap.get? b = some o → H b = none → ∃ sl, h'.get? b = some { o with slots := sl }) (free : ∀ b o, b ∉ ch → s.heap.get? b = some o → H b = none → H' b = none)
    (there : ∀ b o, b ∉ ch → s.heap.get? b = some o → ∃ o', h'.get? b = some o')
    (tups : ∀ b xs, H b = some (.tup xs) → H' b = some (.tup xs)) (frzs : ∀ b o u, H b = some (.frz o u) → H' b = some (.frz o u)) (tbls : ∀ b ps, H b = some (.tbl ps) → ∃ more, H' b = some (.tbl (ps ++ more)))
    (ns : ∀ m, s.heap.Ns X.env.locals m → h'.Ns X.env.locals m) (hok : HOk X.prog X.w H' h') (hg : AllBare g') :
    Inv X pins σ H' { s with heap := h', gens := g', drawn := d', toks := t' } := by
  have neL : ∀ b o, X.s_0.heap.get? b = some o → b ≠ X.env.locals := fun b o e => Nat.ne_of_lt (Nat.lt_of_lt_of_le (Heap.lt_size e) I.ok.above)
  have neC : ∀ b o, X.s_0.heap.get? b = some o → b ∉ X.ex → b ∉ ch := fun b o e hx hb => by
    rcases (hch b hb).1 with z | z
    · exact hx z
    · exact absurd (Nat.lt_of_lt_of_le (Heap.lt_size e) z) (Nat.lt_irrefl _)
  have cellK : ∀ x c, X.env.cells.lookup x = some c → ∀ v, s.heap.IsCell c v → h'.IsCell c v := fun x c e v ⟨o, ho, hd⟩ => by
    have nch : c ∉ ch := fun z => (hch c z).2.2.1 x c e rfl
    by_cases hc : c ∈ X.fs
    · obtain ⟨sl, q⟩ := slot c o (I.cne x c e) hc nch ho (I.freeC x c e)
      exact ⟨_, q, hd⟩
    · exact ⟨o, keep c o (I.cne x c e) hc nch ho (I.freeC x c e), hd⟩
  refine ⟨I.ok, I.os, hg, ⟨fun b o e n hb hx => ?_, fun b o e n hb hx => ?_, fun b o e n hx => ?_, fun b o e hx => ?_, fun b xs e => tups b xs (I.base.tups b xs e), fun b o xs e => frzs b o xs (I.base.frzs b o xs e), fun b ps e => ?_⟩, ?_, fun x c e => ?_, ?_, fun x c e => ?_, fun p hp => ?_, hok, I.len⟩
  · exact keep b o (neL b o e) hb (neC b o e hx) (I.base.keep b o e n hb hx) (I.base.free b o e n hx)
  · obtain ⟨sl, e1⟩ := I.base.slot b o e n hb hx
    obtain ⟨sl', e2⟩ := slot b _ (neL b o e) hb (neC b o e hx) e1 (I.base.free b o e n hx)
    exact ⟨sl', e2⟩
  · obtain ⟨o', e1⟩ := I.base.there b o e hx
    exact free b o' (neC b o e hx) e1 (I.base.free b o e n hx)
  · obtain ⟨o', e1⟩ := I.base.there b o e hx
    exact there b o' (neC b o e hx) e1
  · obtain ⟨m1, e1⟩ := I.base.tbls b ps e
    obtain ⟨m2, e2⟩ := tbls b _ e1
    exact ⟨m1 ++ m2, by rw [e2, Array.append_assoc]⟩
  · obtain ⟨m, hn, hl⟩ := I.loc
    refine ⟨m, ns m hn, fun i x v e1 e2 e3 => ?_⟩
    obtain ⟨u, r, l⟩ := hl i x v e1 e2 e3
    refine ⟨u, r, ?_⟩
    rcases l with l | ⟨k, c, e, z⟩
    · exact .inl l
    · exact .inr ⟨k, c, e, cellK x c e _ z⟩
  · obtain ⟨v, z⟩ := I.cell x c e
    exact ⟨v, cellK x c e v z⟩
  · obtain ⟨m, ⟨o, _, _, ho, _⟩, _⟩ := I.loc
    exact free _ o (fun z => (hch _ z).2.1 rfl) ho I.free
  · obtain ⟨v, o, ho, hd⟩ := I.cell x c e
    exact free c o (fun z => (hch c z).2.2.1 x c e rfl) ho (I.freeC x c e)
  · obtain ⟨e, n, ne, nf, d⟩ := I.pin p hp
    have nch : p.1 ∉ ch := fun z => (hch p.1 z).2.2.2 p hp rfl
    exact ⟨keep p.1 p.2 ne nf nch e n, free p.1 p.2 nch e n, ne, nf, d⟩
/-- .. where the frame's own object is kept too -/
theorem Inv.un {t' : Nat} (I : Inv X pins σ H s) (u : Un X.fs [] H H' s.heap h') (hok : HOk X.prog X.w H' h') : Inv X pins σ H' { s with heap := h', toks := t' } := by
  obtain ⟨m, ⟨o, es, ep, ho, r⟩, _⟩ := id I.loc
  obtain ⟨sl, hL⟩ := u.any ho I.free (by simp)
  exact I.step (g' := s.gens) (d' := s.drawn) (ch := []) (fun _ z => nomatch z) (fun b o _ hb _ e n => u.keep b o e n hb (by simp)) (fun b o _ hb _ e n => u.slot b o e n hb (by simp)) (fun b o _ e n => u.free b o e n (by simp)) (fun b o _ e => u.there b o e (by simp)) u.tups u.frzs u.tbls (fun m' hm => by
    obtain ⟨o', es', ep', ho', r'⟩ := hm
    rw [ho] at ho'; cases ho'
    exact ⟨_, es', ep', hL, r'⟩) hok I.bare
/-- behind a call (or a comprehension's block): the slots of this frame may have changed too, the records at ch may have turned -/
theorem Inv.call {g' : Array GenState} {t' : Nat} {d' : Drawn} {ch : List Addr} (I : Inv X pins σ H s) (u : Un (frs X.stack) ch H H' s.heap h') (hok : HOk X.prog X.w H' h') (hg : AllBare g')
    (hch : ∀ b ∈ ch, (b ∈ X.ex ∨ X.s_0.heap.objs.size ≤ b) ∧ b ≠ X.env.locals ∧ (∀ x c, X.env.cells.lookup x = some c → c ≠ b) ∧ ∀ p ∈ X.pn ++ pins, p.1 ≠ b) :
    Inv X pins σ H' { s with heap := h', gens := g', drawn := d', toks := t' } := by
  obtain ⟨m, ⟨o, es, ep, ho, r⟩, _⟩ := id I.loc
  obtain ⟨sl, hL⟩ := u.any ho I.free fun z => (hch _ z).2.1 rfl
  exact I.step (ch := ch) hch (fun b o hL hb hc e n => u.keep b o e n (fun z => (List.mem_cons.mp (I.stkSub b z)).elim hL hb) hc) (fun b o _ _ hc e n => u.any e n hc) (fun b o hc e n => u.free b o e n hc) (fun b o hc e => u.there b o e hc) u.tups u.frzs u.tbls (fun m' hm => by
    obtain ⟨o', es', ep', ho', r'⟩ := hm
    rw [ho] at ho'; cases ho'
    exact ⟨_, es', ep', hL, r'⟩) hok hg
/-- an untracked record of ours (an iterator) has turned -/
theorem Inv.turned {t' : Nat} {it : Addr} (I : Inv X pins σ H s) (k : ∀ b o, b ≠ it → s.heap.get? b = some o → h'.get? b = some o) (hn : H it = none) (hL : it ≠ X.env.locals)
    (h1 : it ∈ X.ex ∨ X.s_0.heap.objs.size ≤ it) (h2 : ∀ x c, X.env.cells.lookup x = some c → c ≠ it) (h3 : ∀ p ∈ X.pn ++ pins, p.1 ≠ it) : Inv X pins σ H { s with heap := h', toks := t' } := by
  have nit : ∀ b u, H b = some u → b ≠ it := fun b u e z => by rw [z, hn] at e; cases e
  refine I.step (g' := s.gens) (d' := s.drawn) (ch := [it]) (fun b hb => ?_) (fun b o _ _ hc e _ => k b o (fun z => hc (by simp [z])) e) (fun b o _ _ hc e _ => ⟨o.slots, k b o (fun z => hc (by simp [z])) e⟩) (fun _ _ _ _ n => n)
    (fun b o hc e => ⟨o, k b o (fun z => hc (by simp [z])) e⟩) (fun _ _ e => e) (fun _ _ _ e => e) (fun b ps e => ⟨#[], by rw [e]; simp⟩) (fun m hm => ?_) (fun b u e => ?_) I.bare
  · have e : b = it := by simpa using hb
    subst e
    exact ⟨h1, hL, h2, h3⟩
  · obtain ⟨o, es, ep, ho, r⟩ := hm
    exact ⟨o, es, ep, k _ o (Ne.symm hL) ho, r⟩
  · refine (I.hok b u e).stay (fun c v hc q => k c v ?_ q) (fun _ q => q) fun _ _ q => q
    rcases hc with z | z
    · rw [z]; exact nit b u e
    · exact nit c _ z
theorem Inv.tok (I : Inv X pins σ H s) (t : Nat) : Inv X pins σ H { s with toks := t } := I.un (h' := s.heap) (t' := t) Un.refl I.hok
/-- all objects kept -/
theorem Inv.kept {t' : Nat} (I : Inv X pins σ H s) (k : ∀ b u, s.heap.get? b = some u → h'.get? b = some u) : Inv X pins σ H { s with heap := h', toks := t' } := I.un (Un.kept k) (I.hok.kept k)
/-- a new object laid and tracked -/
theorem Inv.laid {a : Addr} {o : HO} {t' : Nat} (I : Inv X pins σ H s) (k : ∀ b u, s.heap.get? b = some u → h'.get? b = some u) (hp : s.heap.objs.size ≤ a) (new : ObjOk X.prog X.w (upd H a o) h' a o) :
    Inv X pins σ (upd H a o) { s with heap := h', toks := t' } := I.un (Un.laid k hp (I.hok.fresh hp)) (I.hok.laid k hp new)
/-- an object written -/
theorem Inv.write {x e : Addr} {o : HO} {t' : Nat} (I : Inv X pins σ H s) (mu : Mut (H x)) (he : e = x ∨ H e = some (.own x)) (k : ∀ b u, b ≠ e → s.heap.get? b = some u → h'.get? b = some u) (heo : ∃ u, h'.get? e = some u)
    (new : ObjOk X.prog X.w (upd H x o) h' x o) : Inv X pins σ (upd H x o) { s with heap := h', toks := t' } := I.un (Un.write mu he k heo) (I.hok.write mu he k heo new)
/-- forgetting slots, pins -/
theorem Inv.weak {σ' : List (Option V)} (I : Inv X pins σ H s) (hl : σ'.length = σ.length) (w : ∀ (i : Nat) v, σ'[i]? = some (some v) → σ[i]? = some (some v)) : Inv X pins σ' H s :=
  ⟨I.ok, I.os, I.bare, I.base, let ⟨m, hn, hl'⟩ := I.loc; ⟨m, hn, fun i x v e1 e2 e3 => hl' i x v e1 (w i v e2) e3⟩, I.cell, I.free, I.freeC, I.pin, I.hok, hl.trans I.len⟩
theorem Inv.pins_of {pins' : List (Addr × Obj)} (I : Inv X pins σ H s) (h : ∀ p ∈ pins', s.heap.get? p.1 = some p.2 ∧ H p.1 = none ∧ p.1 ≠ X.env.locals ∧ p.1 ∉ X.fs ∧ ∀ v, p.2.data ≠ .cell v) : Inv X pins' σ H s :=
  ⟨I.ok, I.os, I.bare, I.base, I.loc, I.cell, I.free, I.freeC, fun p hp => (List.mem_append.mp hp).elim (fun z => I.pin p (List.mem_append_left _ z)) (h p), I.hok, I.len⟩

theorem nodup_ix {N : List Str} (hN : N.Nodup) {i j : Nat} {x : Str} (a : N[i]? = some x) (b : N[j]? = some x) : i = j := by
  obtain ⟨h1, e1⟩ := List.getElem?_eq_some_iff.mp a
  obtain ⟨h2, e2⟩ := List.getElem?_eq_some_iff.mp b
  exact (List.getElem_inj hN).mp (e1.trans e2.symm)

/-- a name is stored; what changed -/
theorem store_ok2 {M : Model} {A : Around} {E : Value → Shared → Prop} {i : Nat} {x : Str} {v : V} {u : Value} {Q : Unit → Shared → Prop} (I : Inv X pins σ H s) (hN : X.N.Nodup) (hi : X.N[i]? = some x) (hx : Loc X.env.scope x) (r : RelV v u)
    (h : ∀ s', Inv X pins (σ.set i (some v)) H s' → (∃ a, Heap.SameBut a s.heap s'.heap ∧ (a = X.env.locals ∨ X.env.cells.lookup x = some a)) → Q () s') (hf : X.fn x = true ∨ X.env.scope.names.lookup x = some .local := by first | exact .inl rfl | exact .inr rfl | assumption) : wpAny M A (storeName X.env x u) Q E s := by
  obtain ⟨m, hn, hl⟩ := id I.loc
  have hcls : (X.env.scope.kind == .class || (X.env.scope.kind == .module && X.env.locals != X.env.globals)) = false := by rw [I.ok.kind]; rfl
  have hiσ : i < σ.length := by rw [I.len]; exact (List.getElem?_eq_some_iff.mp hi).1
  have cne := I.cne
  have tracked : ∀ {a : Addr} {h' : Heap}, (∃ o, s.heap.get? a = some o ∧ H a = none) → Heap.SameBut a s.heap h' → HOk X.prog X.w H h' := fun {a h'} ha hs b ob e => by
    obtain ⟨_, _, hfree⟩ := ha
    refine (I.hok b ob e).stay (fun c w' hc q => (hs.2 c ?_).trans q) (fun _ q => q) fun _ _ q => q
    rintro rfl
    rcases hc with rfl | hc
    · rw [hfree] at e; cases e
    · rw [hfree] at hc; cases hc
  rcases hx with hk | hk
  · refine wpAny_storeName_local hk hn (fun h' hn' hs => ?_) hcls
    obtain ⟨oL, _, _, hoL, _⟩ := id hn
    refine h _ ⟨I.ok, I.os, I.bare, ⟨fun b o e n hb hx => ?_, fun b o e n hb hx => ?_, I.base.free, fun b o e hx => ?_, I.base.tups, I.base.frzs, I.base.tbls⟩, ⟨_, hn', fun j y v' e1 e2 e3 => ?_⟩, fun y c e => ?_, I.free, I.freeC, fun p hp => ?_, tracked ⟨oL, hoL, I.free⟩ hs, by simpa using I.len⟩ ⟨_, hs, .inl rfl⟩
    · exact (hs.2 b (Nat.ne_of_lt (Nat.lt_of_lt_of_le (Heap.lt_size e) I.ok.above))).trans (I.base.keep b o e n hb hx)
    · obtain ⟨sl, e1⟩ := I.base.slot b o e n hb hx
      exact ⟨sl, (hs.2 b (Nat.ne_of_lt (Nat.lt_of_lt_of_le (Heap.lt_size e) I.ok.above))).trans e1⟩
    · obtain ⟨o', e1⟩ := I.base.there b o e hx
      exact ⟨o', (hs.2 b (Nat.ne_of_lt (Nat.lt_of_lt_of_le (Heap.lt_size e) I.ok.above))).trans e1⟩
    · by_cases hj : j = i
      · subst hj
        rw [hi] at e1; cases e1
        rw [List.getElem?_set_self hiσ] at e2
        cases e2
        exact ⟨u, r, .inl ⟨hk, by simp⟩⟩
      · rw [List.getElem?_set_ne (Ne.symm hj)] at e2
        obtain ⟨u', r', q⟩ := hl j y v' e1 e2 e3
        refine ⟨u', r', ?_⟩
        rcases q with ⟨k, e⟩ | ⟨k, c, e, z⟩
        · refine .inl ⟨k, ?_⟩
          have : y ≠ x := fun e => hj (nodup_ix hN e1 (e ▸ hi))
          simp [this, e]
        · exact .inr ⟨k, c, e, z.sameBut hs (cne y c e)⟩
    · obtain ⟨w', z⟩ := I.cell y c e
      exact ⟨w', z.sameBut hs (cne y c e)⟩
    · obtain ⟨e, n, ne, nf, d⟩ := I.pin p hp
      exact ⟨(hs.2 p.1 ne).trans e, n, ne, nf, d⟩
  · have hfn : X.fn x = true := by
      rcases hf with z | z
      · exact z
      · rw [z] at hk; cases hk
    obtain ⟨c, hc⟩ := I.ok.has x (.inl hk)
    obtain ⟨w', z⟩ := I.cell x c hc
    refine wpAny_storeName_cell I.ok.kind hk hc z (fun h' hc' hs => ?_)
    obtain ⟨oc, hoc, hocd⟩ := id z
    refine h { s with heap := h' } ⟨I.ok, I.os, I.bare, ⟨fun b o e n hb hx => ?_, fun b o e n hb hx => ?_, I.base.free, fun b o e hx => ?_, I.base.tups, I.base.frzs, I.base.tbls⟩, ⟨m, hn.sameBut hs (Ne.symm (cne x c hc)), fun j y v' e1 e2 e3 => ?_⟩, fun y c' e => ?_, I.free, I.freeC, fun p hp => ?_, tracked ⟨oc, hoc, I.freeC x c hc⟩ hs, by simpa using I.len⟩ ⟨c, hs, .inr hc⟩
    · exact (hs.2 b (Nat.ne_of_lt (Nat.lt_of_lt_of_le (Heap.lt_size e) (I.ok.cab x c hfn hc)))).trans (I.base.keep b o e n hb hx)
    · obtain ⟨sl, e1⟩ := I.base.slot b o e n hb hx
      exact ⟨sl, (hs.2 b (Nat.ne_of_lt (Nat.lt_of_lt_of_le (Heap.lt_size e) (I.ok.cab x c hfn hc)))).trans e1⟩
    · obtain ⟨o', e1⟩ := I.base.there b o e hx
      exact ⟨o', (hs.2 b (Nat.ne_of_lt (Nat.lt_of_lt_of_le (Heap.lt_size e) (I.ok.cab x c hfn hc)))).trans e1⟩
    · by_cases hj : j = i
      · subst hj
        rw [hi] at e1; cases e1
        rw [List.getElem?_set_self hiσ] at e2
        cases e2
        exact ⟨u, r, .inr ⟨.inl hk, c, hc, hc'⟩⟩
      · rw [List.getElem?_set_ne (Ne.symm hj)] at e2
        obtain ⟨u', r', q⟩ := hl j y v' e1 e2 e3
        refine ⟨u', r', ?_⟩
        rcases q with q | ⟨k, c', e, z'⟩
        · exact .inl q
        · refine .inr ⟨k, c', e, z'.sameBut hs ?_⟩
          rintro rfl
          exact hj (nodup_ix hN e1 (I.ok.inj _ _ _ e hc ▸ hi))
    · by_cases hcc : c' = c
      · subst hcc; exact ⟨_, hc'⟩
      · obtain ⟨w2, z2⟩ := I.cell y c' e
        exact ⟨w2, z2.sameBut hs hcc⟩
    · obtain ⟨e, n, ne, nf, d⟩ := I.pin p hp
      refine ⟨(hs.2 p.1 ?_).trans e, n, ne, nf, d⟩
      intro q
      rw [q, hoc] at e
      have q' : oc = p.2 := Option.some.inj e
      exact d w' (by rw [← q']; exact hocd)
theorem store_ok {M : Model} {A : Around} {E : Value → Shared → Prop} {i : Nat} {x : Str} {v : V} {u : Value} {Q : Unit → Shared → Prop} (I : Inv X pins σ H s) (hN : X.N.Nodup) (hi : X.N[i]? = some x) (hx : Loc X.env.scope x) (r : RelV v u)
    (h : ∀ s', Inv X pins (σ.set i (some v)) H s' → Q () s') (hf : X.fn x = true ∨ X.env.scope.names.lookup x = some .local := by first | exact .inl rfl | exact .inr rfl | assumption) : wpAny M A (storeName X.env x u) Q E s :=
  store_ok2 I hN hi hx r (fun s' I' _ => h s' I') hf
/-- behind a call or a block, the state as it is -/
theorem Inv.call' {s' : Shared} {ch : List Addr} (I : Inv X pins σ H s) (ho : s'.os = s.os) (u : Un (frs X.stack) ch H H' s.heap s'.heap) (hok : HOk X.prog X.w H' s'.heap) (hg : AllBare s'.gens)
    (hch : ∀ b ∈ ch, (b ∈ X.ex ∨ X.s_0.heap.objs.size ≤ b) ∧ b ≠ X.env.locals ∧ (∀ x c, X.env.cells.lookup x = some c → c ≠ b) ∧ ∀ p ∈ X.pn ++ pins, p.1 ≠ b) : Inv X pins σ H' s' := by
  obtain ⟨h', g', d', t', o'⟩ := s'
  have e : o' = s.os := ho
  subst e
  exact I.call (g' := g') (t' := t') (d' := d') u hok hg hch
end

/-! ### the judgements -/
/-- an exception: its class, its own dict's address (where it has one), the abstract heap behind it -/
abbrev XK := Value → Option Addr → Hp → Prop
abbrev St := List (Option V)
abbrev VK := V → Hp → Prop
/-- an expression's reading; a test's; an argument list's -/
abbrev TE := St → Hp → VK → Prop
abbrev TT := St → Hp → (Bool → Hp → Prop) → Prop
abbrev TA := St → Hp → (List V → Hp → Prop) → Prop
/-- what is wanted behind a statement -/
structure Ends where
  nx : St → Hp → Prop
  rt : VK
  bk : St → Hp → Prop := fun _ _ => False
  ct : St → Hp → Prop := fun _ _ => False
abbrev TS := Ends → St → Hp → Prop

def EP (X : Cx) (pins : List (Addr × Obj)) (σ : St) (Q : VK) (u : Value) (s' : Shared) : Prop := ∃ v H', Inv X pins σ H' s' ∧ RelV v u ∧ Q v H'
def TP (X : Cx) (pins : List (Addr × Obj)) (σ : St) (Q : Bool → Hp → Prop) (b : Bool) (s' : Shared) : Prop := ∃ H', Inv X pins σ H' s' ∧ Q b H'
def AP (X : Cx) (pins : List (Addr × Obj)) (σ : St) (Q : List V → Hp → Prop) (us : List Value) (s' : Shared) : Prop := ∃ vs H', Inv X pins σ H' s' ∧ Vals vs us ∧ Q vs H'
def SP (X : Cx) (pins : List (Addr × Obj)) (D : Ends) (f : Flow) (s' : Shared) : Prop :=
  match f with
  | .next => ∃ σ' H', Inv X pins σ' H' s' ∧ D.nx σ' H'
  | .brk => ∃ σ' H', Inv X pins σ' H' s' ∧ D.bk σ' H'
  | .cont => ∃ σ' H', Inv X pins σ' H' s' ∧ D.ct σ' H'
  | .ret u => ∃ v σ' H', Inv X pins σ' H' s' ∧ RelV v u ∧ D.rt v H'

def PE (X : Cx) (e : Expr) (t : TE) : Prop :=
  ∀ (pins : List (Addr × Obj)) (s : Shared) (σ : St) (H : Hp) (Q : VK), Inv X pins σ H s → t σ H Q → wpAny (model X.prog X.w) X.A (eval e X.env) (EP X pins σ Q) X.xe s
def PT (X : Cx) (e : Expr) (t : TT) : Prop :=
  ∀ (pins : List (Addr × Obj)) (s : Shared) (σ : St) (H : Hp) (Q : Bool → Hp → Prop), Inv X pins σ H s → t σ H Q → wpAny (model X.prog X.w) X.A (isTrue e X.env (eval e X.env)) (TP X pins σ Q) X.xe s
/-- a test whatever its 'whole' is (and, or) -/
def PW (X : Cx) (e : Expr) (t : TT) : Prop :=
  ∀ (whole : Sem Value) (pins : List (Addr × Obj)) (s : Shared) (σ : St) (H : Hp) (Q : Bool → Hp → Prop), Inv X pins σ H s → t σ H Q → wpAny (model X.prog X.w) X.A (isTrue e X.env whole) (TP X pins σ Q) X.xe s
theorem PW.pt {X : Cx} {e : Expr} {t : TT} (h : PW X e t) : PT X e t := h _
/-- an argument list (no star), from the left -/
def PA (X : Cx) (es : List Expr) (t : TA) : Prop :=
  ∀ (pos : Pos) (pins : List (Addr × Obj)) (s : Shared) (σ : St) (H : Hp) (Q : List V → Hp → Prop), Inv X pins σ H s → t σ H Q → wpAny (model X.prog X.w) X.A (spliced (backTo pos (starEach es X.env))) (AP X pins σ Q) X.xe s
def PS (X : Cx) (st : Stmt) (t : TS) : Prop :=
  ∀ (pins : List (Addr × Obj)) (s : Shared) (σ : St) (H : Hp) (D : Ends), Inv X pins σ H s → t D σ H → wpAny (model X.prog X.w) X.A (exec st X.env) (SP X pins D) X.xe s
def PSs (X : Cx) (st : List Stmt) (t : TS) : Prop :=
  ∀ (pins : List (Addr × Obj)) (s : Shared) (σ : St) (H : Hp) (D : Ends), Inv X pins σ H s → t D σ H → wpAny (model X.prog X.w) X.A (execs st X.env) (SP X pins D) X.xe s
/-- weaken the end -/
theorem thn {α : Type} {t : Sem α} {Q Q' : α → Shared → Prop} {M : Model} {A : Around} {E : Value → Shared → Prop} {s : Shared} (h : wpAny M A t Q E s) (hQ : ∀ a s, Q a s → Q' a s) : wpAny M A t Q' E s := wpAny_mono h hQ fun _ _ x => x
end L2

namespace L2
open PySem PySem.Spec PyProof.Rows
section
variable {X : Cx}

/-! ### names and constants -/
def tVar (i : Nat) : TE := fun σ H Q => ∃ v, σ[i]? = some (some v) ∧ Q v H
def tC (v : V) : TE := fun _ H Q => Q v H
theorem pe_var {i : Nat} {x : Str} {pos : Pos} (hN : X.N[i]? = some x) (hv : Vis X.env.scope x) (hd : (x == ("__debug__" : Str)) = false := by decide) (hcd : (x == ("__classdict__" : Str)) = false := by decide) : PE X (.Name x pos) (tVar i) := by
  intro pins s σ H Q I h
  obtain ⟨v, e, h⟩ := h
  obtain ⟨m, hn, hl⟩ := I.loc
  obtain ⟨u, r, l⟩ := hl i x v hN e hv
  have fin : EP X pins σ Q u s := ⟨v, H, I, r, h⟩
  rcases l with ⟨hk, hm⟩ | ⟨hk, c, hc, hcell⟩
  · exact wpAny_Name (wpAny_loadName_local I.ok.kind hk hn hm fin) hd
  · rcases hk with hk | hk
    · exact wpAny_Name (wpAny_loadName_cell I.ok.kind hk hc hcell fin) hd
    · exact wpAny_Name (wpAny_loadName_free I.ok.kind hk hc hcell fin hcd) hd
theorem pe_int {i j pos} : PE X (.Constant (.int i) j pos) (tC (.int i)) := fun _ _ _ H _ I h => wpAny_Constant_int ⟨.int i, H, I.tok _, ⟨_, rfl⟩, h⟩
theorem pe_non {j pos} : PE X (.Constant .none j pos) (tC .non) := fun _ _ _ H _ I h => Constant_none ⟨.non, H, I, rfl, h⟩
theorem pe_str {x j pos} : PE X (.Constant (.str x) j pos) (tC (.str x)) := fun _ _ _ H _ I h => Calls.Constant_str ⟨.str x, H, I.tok _, ⟨_, rfl⟩, h⟩

/-- a global name of the def -/
def Gl (X : Cx) (x : Str) : Prop := X.env.kindOf x = some .globalImplicit
theorem ld_glob {E : Value → Shared → Prop} {pins : List (Addr × Obj)} {s : Shared} {σ : St} {H : Hp} {x : Str} {u : Value} {pos : Pos} {Q : Value → Shared → Prop} (I : Inv X pins σ H s) (hg : Gl X x) (hm : X.mg x = some u) (h : Q u s)
    (hd : (x == ("__debug__" : Str)) = false := by decide) : wpAny (model X.prog X.w) X.A (eval (.Name x pos) X.env) Q E s :=
  Calls.Name_function_global I.ok.kind hg (Calls.loadGlobal_global (by rw [I.ok.glob]; exact I.mod.glob.keeps I.bk) hm h) hd
theorem ld_blt {E : Value → Shared → Prop} {pins : List (Addr × Obj)} {s : Shared} {σ : St} {H : Hp} {x : Str} {u : Value} {pos : Pos} {Q : Value → Shared → Prop} (I : Inv X pins σ H s) (hg : Gl X x) (hm : X.mg x = none) (hv : bootBuiltins x = some u) (h : Q u s)
    (hn : x ≠ "__name__" := by decide) (hd : (x == ("__debug__" : Str)) = false := by decide) : wpAny (model X.prog X.w) X.A (eval (.Name x pos) X.env) Q E s := by
  obtain ⟨mb, h1, h2⟩ := I.mod.blt
  exact Calls.Name_function_global I.ok.kind hg (Calls.loadGlobal_builtin (by rw [I.ok.glob]; exact I.mod.glob.keeps I.bk) hm (by rw [I.ok.blt]; exact h1.keeps I.bk) ((h2 x hn).trans hv) h) hd
/-- a module's constant, a class, a function, as a value -/
theorem pe_glob {x : Str} {v : V} {u : Value} {pos : Pos} (hg : Gl X x) (hm : X.mg x = some u) (r : RelV v u) (hd : (x == ("__debug__" : Str)) = false := by decide) : PE X (.Name x pos) (tC v) :=
  fun _ _ _ H _ I h => ld_glob I hg hm ⟨v, H, I, r, h⟩ hd
/-! ### arithmetic -/
variable {a b : Expr} {ta tb : TE} {pos : Pos}
/-! ### comparisons -/
/-- a comparison as a value, as a test -/
def tB (t : TE) : TT := fun σ H Q => t σ H fun x H1 => ∃ c, x = .bl c ∧ Q c H1
/-- an expression whose value is a bool, as a test -/
theorem pt_val {e : Expr} {t : TE} (h : PE X e t) (he : ∀ whole, isTrue e X.env whole = (do let v ← whole; standAt e.pos; holding [v] (truthy v)) := by intro _; rfl) : PT X e (tB t) := by
  intro pins s σ H Q I hw
  refine isTrue_plain (thn (h pins s σ H _ I hw) fun v s1 ⟨x, H1, I1, r1, q1⟩ => ?_) (he _)
  obtain ⟨d, rfl, q⟩ := q1
  cases r1
  exact wpAny_truthy_bool ⟨H1, I1, q⟩

/-! ### and, or, not -/
variable {tA tB' : TT} {rest : List Expr}
def tAnd (t u : TT) : TT := fun σ H Q => t σ H fun c H1 => if c = true then u σ H1 Q else Q false H1
theorem pw_and1 (ha : PT X a tA) : PW X (.BoolOp .And [a] pos) tA := by
  intro wh pins s σ H Q I h
  refine isTrue_and (thn (ha pins s σ H Q I h) fun c s1 e => ?_)
  cases c with
  | true => exact isTrue_and_nil e
  | false => exact e
theorem pw_and (ha : PT X a tA) (hb : PW X (.BoolOp .And (b :: rest) pos) tB') : PW X (.BoolOp .And (a :: b :: rest) pos) (tAnd tA tB') := by
  intro wh pins s σ H Q I h
  refine isTrue_and (thn (ha pins s σ H _ I h) fun c s1 ⟨H1, I1, q1⟩ => ?_)
  cases c with
  | true => exact hb wh pins s1 σ H1 Q I1 q1
  | false => exact ⟨H1, I1, q1⟩
def tOrV (ta tb : TE) : TE := fun σ H Q => ta σ H fun x H1 => ∃ c, x = .bl c ∧ if c = true then Q (.bl true) H1 else tb σ H1 Q
theorem pe_one {op} {t : TE} (h : PE X a t) : PE X (.BoolOp op [a] pos) t := fun pins s σ H Q I hw => BoolOp_one (h pins s σ H Q I hw)
theorem pe_or (ha : PE X a ta) (hb : PE X (.BoolOp .Or (b :: rest) pos) tb) : PE X (.BoolOp .Or (a :: b :: rest) pos) (tOrV ta tb) := by
  intro pins s σ H Q I h
  refine BoolOp_or (thn (ha pins s σ H _ I h) fun v s1 ⟨x, H1, I1, r1, q1⟩ => ?_)
  obtain ⟨c, rfl, q1⟩ := q1
  cases r1
  refine wpAny_truthy_bool ?_
  cases c with
  | false => exact hb pins s1 σ H1 Q I1 q1
  | true => exact ⟨.bl true, H1, I1, rfl, q1⟩
/-- a if t else b -/
def tIf (t : TT) (ta tb : TE) : TE := fun σ H Q => t σ H fun c H1 => if c = true then ta σ H1 Q else tb σ H1 Q
theorem pe_ifExp {c : Expr} (hc : PT X c tA) (ha : PE X a ta) (hb : PE X b tb) : PE X (.IfExp c a b pos) (tIf tA ta tb) := by
  intro pins s σ H Q I h
  refine wpAny_IfExp (thn (hc pins s σ H _ I h) fun d s1 ⟨H1, I1, q1⟩ => ?_)
  cases d with
  | true => exact ha pins s1 σ H1 Q I1 q1
  | false => exact hb pins s1 σ H1 Q I1 q1
end
end L2

namespace L2
open PySem PySem.Spec PyProof.Rows

/-! ### a list, a tuple that is read: tracked, frozen, or an object of the module -/
def SqL (K : PySem.W.Frag) (H : Hp) (a : Addr) (xs : List V) : Prop :=
  Rd H a (.lst xs) ∨
    ∃ (o : Obj) (its : Array Value) (n : Nat), K.lookup a = some o ∧ o.cls = .type "list" ∧ o.dict = none ∧ o.data = .seq its n ∧ its.size ≤ sizeLine ∧ Vals xs its.toList
def SqT (K : PySem.W.Frag) (H : Hp) (a : Addr) (xs : List V) : Prop :=
  Rd H a (.tup xs) ∨
    ∃ (o : Obj) (its : Array Value) (n : Nat), K.lookup a = some o ∧ o.cls = .type "tuple" ∧ o.data = .seq its n ∧ its.size ≤ sizeLine ∧ Vals xs its.toList
def absV : Value → Option V
  | .none => some .non
  | .bool b => some (.bl b)
  | .int i _ => some (.int i)
  | .str x _ => some (.str x)
  | .bytes b _ => some (.byt b)
  | .float b _ => some (.flt b)
  | .ref a => some (.ref a)
  | .type n => some (.ty n)
  | _ => none
theorem RelV.abs {x : V} {u : Value} (r : RelV x u) : absV u = some x := by
  cases x with
  | non => cases r; rfl
  | bl _ => cases r; rfl
  | int _ => obtain ⟨t, rfl⟩ := r; rfl
  | str _ => obtain ⟨t, rfl⟩ := r; rfl
  | byt _ => obtain ⟨t, rfl⟩ := r; rfl
  | flt _ => obtain ⟨t, rfl⟩ := r; rfl
  | ref _ => cases r; rfl
  | ty _ => cases r; rfl
theorem RelV.inj {x y : V} {u : Value} (r : RelV x u) (q : RelV y u) : x = y := Option.some.inj (r.abs.symm.trans q.abs)
theorem Vals.inj : ∀ {xs ys : List V} {us : List Value}, Vals xs us → Vals ys us → xs = ys
  | _, _, _, .nil, .nil => rfl
  | _, _, _, .cons r t, .cons r' t' => by rw [r.inj r', Vals.inj t t']
section
variable {X : Cx} {pins : List (Addr × Obj)} {σ : St} {H : Hp} {s : Shared} {a : Addr} {xs ys : List V}
theorem SqL.of {K : PySem.W.Frag} (h : H a = some (.lst xs)) : SqL K H a xs := .inl (.inl h)
theorem SqT.of {K : PySem.W.Frag} (h : H a = some (.tup xs)) : SqT K H a xs := .inl (.inl h)
theorem Inv.list (I : Inv X pins σ H s) (h : SqL X.K H a xs) : ∃ its : List Value, Vals xs its ∧ PlainL s.heap a its.toArray ∧ xs.length ≤ sizeLine := by
  rcases h with h | ⟨o, its, n, hk, hc, hd, hs, hz, r⟩
  · obtain ⟨z, its, n, r, e⟩ := h.ok I.hok
    exact ⟨its, r, ⟨_, n, e, rfl, rfl, rfl⟩, z⟩
  · refine ⟨its.toList, r, ⟨o, n, I.kIn a o hk, hc, hd, by simpa using hs⟩, ?_⟩
    have e := r.length
    simp only [Array.length_toList] at e
    omega
theorem Inv.tuple (I : Inv X pins σ H s) (h : SqT X.K H a xs) : ∃ its : List Value, Vals xs its ∧ IsTup s.heap a its.toArray ∧ xs.length ≤ sizeLine := by
  rcases h with h | ⟨o, its, n, hk, hc, hs, hz, r⟩
  · obtain ⟨z, its, r, p⟩ := h.ok I.hok
    exact ⟨its, r, p, z⟩
  · refine ⟨its.toList, r, ⟨o, I.kIn a o hk, hc, n, by simpa using hs⟩, ?_⟩
    have e := r.length
    simp only [Array.length_toList] at e
    omega
theorem Inv.list_inj (I : Inv X pins σ H s) (h : SqL X.K H a xs) (h' : SqL X.K H a ys) : xs = ys := by
  obtain ⟨its, r, ⟨o, n, e, _, _, d⟩, _⟩ := I.list h
  obtain ⟨its', r', ⟨o', n', e', _, _, d'⟩, _⟩ := I.list h'
  rw [e] at e'; cases e'
  rw [d] at d'
  injection d' with d1 _
  have : its = its' := by simpa using congrArg Array.toList d1
  subst this
  exact r.inj r'
theorem Inv.tuple_inj (I : Inv X pins σ H s) (h : SqT X.K H a xs) (h' : SqT X.K H a ys) : xs = ys := by
  obtain ⟨its, r, ⟨o, e, _, n, d⟩, _⟩ := I.tuple h
  obtain ⟨its', r', ⟨o', e', _, n', d'⟩, _⟩ := I.tuple h'
  rw [e] at e'; cases e'
  rw [d] at d'
  injection d' with d1 _
  have : its = its' := by simpa using congrArg Array.toList d1
  subst this
  exact r.inj r'
end

/-! ### another wish about exceptions -/
section
variable {X : Cx} {pins : List (Addr × Obj)} {σ : St} {H : Hp} {s : Shared} {E : Value → Shared → Prop}
end

/-! ### blocks and small statements -/
section
variable {X : Cx} {st : Stmt} {rest : List Stmt} {t u : TS} {e : Expr} {te : TE} {pos : Pos}
def tNext : TS := fun D σ H => D.nx σ H
def tSeq (t u : TS) : TS := fun D σ H => t { D with nx := u D } σ H
theorem pss_nil : PSs X [] tNext := fun _ _ σ H _ I h => wpAny_execs_nil ⟨σ, H, I, h⟩
theorem pss_cons (h1 : PS X st t) (h2 : PSs X rest u) : PSs X (st :: rest) (tSeq t u) := by
  intro pins s σ H D I h
  refine wpAny_execs_cons (thn (h1 pins s σ H { D with nx := u D } I h) fun f s1 q => ?_)
  cases f with
  | next =>
    obtain ⟨σ', H', I', q⟩ := q
    exact h2 pins s1 σ' H' D I' q
  | ret v => exact q
  | brk => exact q
  | cont => exact q
theorem pss_one (h1 : PS X st t) : PSs X [st] t := by
  intro pins s σ H D I h
  refine wpAny_execs_cons (thn (h1 pins s σ H D I h) fun f s1 q => ?_)
  cases f with
  | next => exact wpAny_execs_nil q
  | ret v => exact q
  | brk => exact q
  | cont => exact q
/-- in a def's body nothing is shown -/
theorem Inv.quiet {pins : List (Addr × Obj)} {σ : St} {H : Hp} {s : Shared} (I : Inv X pins σ H s) : interactive X.env = false := by simp [interactive, I.ok.kind]
/-- an expression whose value is dropped -/
def tDrop (te : TE) : TS := fun D σ H => te σ H fun _ H1 => D.nx σ H1
theorem ps_expr (he : PE X e te) (hs : swapsWith e none pos.line X.env = pure false := by rfl) : PS X (.Expr e pos) (tDrop te) := by
  intro pins s σ H D I h
  exact wpAny_Expr_any (thn (he pins s σ H _ I h) fun v s1 ⟨x, H1, I1, r1, q1⟩ => ⟨σ, H1, I1, q1⟩) I.quiet hs
def tRet (te : TE) : TS := fun D σ H => te σ H D.rt
theorem ps_ret (he : PE X e te) : PS X (.Return (some e) pos) (tRet te) := by
  intro pins s σ H D I h
  exact wpAny_Return_some (thn (he pins s σ H _ I h) fun v s1 ⟨x, H1, I1, r1, q1⟩ => ⟨x, σ, H1, I1, r1, q1⟩)
def tIfS (c : TT) (t u : TS) : TS := fun D σ H => c σ H fun b H1 => if b = true then t D σ H1 else u D σ H1
theorem ps_if {c : Expr} {a b : List Stmt} {tc : TT} (hc : PT X c tc) (ha : PSs X a t) (hb : PSs X b u) : PS X (.If c a b pos) (tIfS tc t u) := by
  intro pins s σ H D I h
  refine wpAny_If (thn (hc pins s σ H _ I h) fun d s1 ⟨H1, I1, q1⟩ => ?_)
  cases d with
  | true => exact ha pins s1 σ H1 D I1 q1
  | false => exact hb pins s1 σ H1 D I1 q1
end

/-! ### targets -/
abbrev TG := V → St → Hp → (St → Hp → Prop) → Prop
def PG (X : Cx) (target : Expr) (t : TG) : Prop :=
  ∀ (pins : List (Addr × Obj)) (s : Shared) (σ : St) (H : Hp) (v : V) (u : Value) (Q : St → Hp → Prop), Inv X pins σ H s → RelV v u → t v σ H Q →
    wpAny (model X.prog X.w) X.A (assign target X.env u) (fun _ s' => ∃ σ' H', Inv X pins σ' H' s' ∧ Q σ' H') X.xe s
section
variable {X : Cx} {pos : Pos}
def gName (i : Nat) : TG := fun v σ H Q => Q (σ.set i (some v)) H
theorem pg_name {i : Nat} {x : Str} (hN : X.N.Nodup) (hi : X.N[i]? = some x) (hx : Loc X.env.scope x) (hf : X.fn x = true ∨ X.env.scope.names.lookup x = some .local := by first | exact .inl rfl | exact .inr rfl | assumption) : PG X (.Name x pos) (gName i) := by
  intro pins s σ H v u Q I r h
  exact wpAny_assign_Name (store_ok I hN hi hx r (fun s' I' => ⟨_, H, I', h⟩) hf)
/-- target = value -/
def tAsg (te : TE) (g : TG) : TS := fun D σ H => te σ H fun x H1 => g x σ H1 D.nx
/-- name = value -/
theorem ps_set {i : Nat} {x : Str} {e : Expr} {te : TE} {pos' : Pos} (hN : X.N.Nodup) (hi : X.N[i]? = some x) (hx : Loc X.env.scope x) (he : PE X e te) (hs : swapsWith e (some (.Name x pos')) pos.line X.env = pure false := by rfl) (hf : X.fn x = true ∨ X.env.scope.names.lookup x = some .local := by first | exact .inl rfl | exact .inr rfl | assumption) :
    PS X (.Assign [.Name x pos'] e pos) (tAsg te (gName i)) := by
  intro pins s σ H D I h
  refine wpAny_Assign_Name (thn (he pins s σ H _ I h) fun v s1 ⟨y, H1, I1, r1, q1⟩ => ?_) hs
  exact store_ok I1 hN hi hx r1 (fun s2 I2 => ⟨_, H1, I2, q1⟩) hf
end

/-! ### while -/
section
variable {X : Cx} {pos : Pos}
/-- the invariant W with its measure -/
def tWhile (c : TT) (tb : TS) : TS := fun D σ H => ∃ W : Nat → St → Hp → Prop, (∃ m, W m σ H) ∧ ∀ m σ H, W m σ H →
  c σ H fun b H1 => if b = true then ∃ N : St → Hp → Prop, (∀ σ' H', N σ' H' → ∃ m', m' < m ∧ W m' σ' H') ∧ tb { D with nx := N, ct := N, bk := D.nx } σ H1 else D.nx σ H1
theorem ps_while {c : Expr} {body : List Stmt} {tc : TT} {tb : TS} (hp : PassesOwn (model X.prog X.w) X.A X.env X.xe) (hc : PT X c tc) (hb : PSs X body tb) : PS X (.While c body [] pos) (tWhile tc tb) := by
  intro pins s σ H D I h
  obtain ⟨W, ⟨m0, w0⟩, turn⟩ := h
  refine wpAny_While (codeAny_whileLoop (fun n s' => ∃ σ' H', Inv X pins σ' H' s' ∧ W n σ' H') ?_ m0 ⟨σ, H, I, w0⟩)
  rintro n s1 ⟨σ1, H1, I1, w1⟩
  refine wpAny_passesOwn hp (thn (hc pins s1 σ1 H1 _ I1 (turn n σ1 H1 w1)) fun b s2 ⟨H2, I2, q2⟩ => ?_)
  cases b with
  | true =>
    obtain ⟨N, hN, q2⟩ := q2
    rw [if_pos rfl]
    refine wpAny_passesOwn hp (thn (hb pins s2 σ1 H2 _ I2 q2) fun f s3 q3 => ?_)
    cases f with
    | next =>
      obtain ⟨σ3, H3, I3, n3⟩ := q3
      obtain ⟨m', hm, w3⟩ := hN σ3 H3 n3
      exact ⟨m', hm, σ3, H3, I3, w3⟩
    | cont =>
      obtain ⟨σ3, H3, I3, n3⟩ := q3
      obtain ⟨m', hm, w3⟩ := hN σ3 H3 n3
      exact ⟨m', hm, σ3, H3, I3, w3⟩
    | brk => exact q3
    | ret v => exact q3
  | false =>
    rw [if_neg Bool.false_ne_true]
    exact wpAny_execs_nil ⟨σ1, H2, I2, q2⟩
end

/-! ### what a loop or a comprehension walks -/
/-- at turn i: it yields x (the heap may grow), or it stops -/
structure It where
  go : Nat → Hp → Prop
  yld : Nat → Hp → V → Hp → Prop
  stop : Nat → Hp → Prop
/-- the iterator's own objects may turn: they are not the frame's, not pinned, younger than the entry (or a comprehension's own) -/
def FpOk (X : Cx) (pins : List (Addr × Obj)) (H : Hp) (b : Addr) : Prop :=
  H b = none ∧ b ≠ X.env.locals ∧ b ∉ X.fs ∧ (b ∈ X.ex ∨ X.s_0.heap.objs.size ≤ b) ∧ (∀ x c, X.env.cells.lookup x = some c → c ≠ b) ∧ ∀ p ∈ X.pn ++ pins, p.1 ≠ b
theorem Inv.fpOk {X : Cx} {pins : List (Addr × Obj)} {σ : St} {H H' : Hp} {s : Shared} {b : Addr} (I : Inv X pins σ H s) (hb : s.heap.objs.size ≤ b) (hn : H' b = none) : FpOk X pins H' b := by
  refine ⟨hn, Nat.ne_of_gt (Nat.lt_of_lt_of_le I.lt hb), I.nofs hb, .inr (Nat.le_trans I.sz hb), fun x c e z => ?_, fun p hp z => ?_⟩
  · obtain ⟨v, q⟩ := I.cell x c e
    exact absurd (Nat.lt_of_lt_of_le q.lt (by rw [z]; exact hb)) (Nat.lt_irrefl _)
  · exact absurd (Nat.lt_of_lt_of_le (Heap.lt_size (I.pin p hp).1) (by rw [z]; exact hb)) (Nat.lt_irrefl _)
structure Turn (P : Program) (w : World) (K : PySem.W.Frag) (tg : Expr) (J : It) (fp : List Addr) (it : Addr) (tn : Nat → Heap → Prop) : Prop where
  mem : it ∈ fp
  obj : ∀ i h, tn i h → ∀ b ∈ fp, ∃ o, h.get? b = some o ∧ ∀ v, o.data ≠ .cell v
  keep : ∀ i h h', tn i h → (∀ b ∈ fp, ∀ o, h.get? b = some o → h'.get? b = some o) → tn i h'
  item : ∀ (X : Cx), X.prog = P → X.w = w → X.K = K → X.calm = true → ∀ (i : Nat) (pins : List (Addr × Obj)) (s : Shared) (σ : St) (H : Hp) (E : Value → Shared → Prop), Inv X pins σ H s → (∀ b ∈ fp, FpOk X pins H b) → tn i s.heap → J.go i H →
    wpAny (model P w) X.A (pyNext (.ref it)) (fun r s1 => ∃ u, r = some u ∧
      wpAny (model P w) X.A (letOwnedTupleGo tg (.ref it) u) (fun _ s2 => ∃ x H', Inv X pins σ H' s2 ∧ RelV x u ∧ J.yld i H x H' ∧ tn (i + 1) s2.heap ∧ ∀ b ∈ fp, H' b = none) E s1) E s
  done : ∀ (X : Cx), X.prog = P → X.w = w → X.K = K → X.calm = true → ∀ (i : Nat) (pins : List (Addr × Obj)) (s : Shared) (σ : St) (H : Hp) (E : Value → Shared → Prop), Inv X pins σ H s → (∀ b ∈ fp, FpOk X pins H b) → tn i s.heap → J.stop i H →
    wpAny (model P w) X.A (pyNext (.ref it)) (fun r s1 => r = none ∧ Inv X pins σ H s1) E s
  self : ∀ (A : Around) (i : Nat) (s : Shared) (Q : Value → Shared → Prop) (E : Value → Shared → Prop), tn i s.heap → Q (.ref it) s → wpAny (model P w) A (pyIter (.ref it)) Q E s
abbrev TI := St → Hp → (It → Hp → Prop) → Prop
/-- an iterator has come -/
def PIE (X : Cx) (pins : List (Addr × Obj)) (σ : St) (tg : Expr) (R : It → Hp → Prop) (itv : Value) (s2 : Shared) : Prop :=
  ∃ (it : Addr) (fp : List Addr) (tn : Nat → Heap → Prop) (J : It) (H' : Hp), itv = .ref it ∧ Inv X pins σ H' s2 ∧ Turn X.prog X.w X.K tg J fp it tn ∧ tn 0 s2.heap ∧ (∀ b ∈ fp, FpOk X pins H' b) ∧ R J H'
def PI (X : Cx) (tg iter : Expr) (wi : TI) : Prop :=
  ∀ (pins : List (Addr × Obj)) (s : Shared) (σ : St) (H : Hp) (R : It → Hp → Prop), Inv X pins σ H s → wi σ H R →
    wpAny (model X.prog X.w) X.A (eval iter X.env) (fun v s1 => wpAny (model X.prog X.w) X.A (pyIter v) (PIE X pins σ tg R) X.xe s1) X.xe s

/-- the step ahead of the store is nothing for an iterator that keeps no tuple -/
theorem go_of {M : Model} {A : Around} {E : Value → Shared → Prop} {s : Shared} {tg : Expr} {it : Addr} {u : Value} {o : Obj} {n : String} {vs : Array Value} {Q : Unit → Shared → Prop} (ho : s.heap.get? it = some o) (hc : o.cls = .type n) (hd : o.data = .fields vs)
    (hn : ["enumerate", "zip", "dict_itemiterator", "dict_reverseitemiterator", "odict_iterator", "itertools.zip_longest", "itertools.pairwise"].contains n = false) (hQ : Q () s) : wpAny M A (letOwnedTupleGo tg (.ref it) u) Q E s := by
  unfold letOwnedTupleGo
  cases tg <;> first
    | exact wpAny_pure hQ
    | (cases u <;> first
        | exact wpAny_pure hQ
        | (refine wpAny_bind (wpAny_load ho ?_)
           rw [hc, hd]
           show wpAny M A (if (["enumerate", "zip", "dict_itemiterator", "dict_reverseitemiterator", "odict_iterator", "itertools.zip_longest", "itertools.pairwise"].contains n && vs[0]? == some (rawInt _)) = true then _ else _) Q E s
           rw [if_neg (by intro h; rw [hn, Bool.false_and] at h; cases h)]
           exact wpAny_pure hQ))

/-- the list at a, as it stands at each turn (a loop may append to it) -/
def Itl (K : PySem.W.Frag) (a : Addr) : It :=
  ⟨fun i H => ∃ xs x, SqL K H a xs ∧ xs[i]? = some x, fun i H x H' => H' = H ∧ ∀ xs, SqL K H a xs → xs[i]? = some x, fun i H => ∃ xs, SqL K H a xs ∧ xs.length ≤ i⟩
def Itt (K : PySem.W.Frag) (a : Addr) : It :=
  ⟨fun i H => ∃ xs x, SqT K H a xs ∧ xs[i]? = some x, fun i H x H' => H' = H ∧ ∀ xs, SqT K H a xs → xs[i]? = some x, fun i H => ∃ xs, SqT K H a xs ∧ xs.length ≤ i⟩
theorem turn_list {P : Program} {w : World} {K : PySem.W.Frag} {tg : Expr} (a it : Addr) : Turn P w K tg (Itl K a) [it] it (fun i h => h.IsListIter it a i) where
  mem := by simp
  obj := fun i h st b hb => by
    have e : b = it := by simpa using hb
    subst e
    obtain ⟨o, e, c, d⟩ := st
    exact ⟨o, e, fun v z => by rw [d] at z; cases z⟩
  keep := fun i h h' st k => st.at fun o e => k it (by simp) o e
  item := by
    intro X hP hw hK hc i pins s σ H E I hf st hg
    subst hP hw hK
    obtain ⟨xs, x, hq, hx⟩ := hg
    obtain ⟨its, rv, p, hz⟩ := I.list hq
    obtain ⟨u, hu, ru⟩ := rv.get hx
    obtain ⟨f0, f1, f2, f3, f4, f5⟩ := hf it (by simp)
    refine wpAny_pyNext_list_item st p.isList (x := u) (by simpa using hu) fun h' st' sb => ?_
    have I1 : Inv X pins σ H { s with heap := h' } := I.turned (t' := s.toks) (fun b o hb e => (sb.2 b hb).trans e) f0 f1 f3 f4 f5
    obtain ⟨o, e, c, d⟩ := id st'
    exact ⟨u, rfl, go_of (s := { s with heap := h' }) e c d (by decide) ⟨x, H, I1, ru, ⟨rfl, fun ys hy => by rw [I.list_inj hy hq]; exact hx⟩, st', fun b hb => (hf b hb).1⟩⟩
  done := by
    intro X hP hw hK hc i pins s σ H E I hf st hg
    subst hP hw hK
    obtain ⟨xs, hq, hx⟩ := hg
    obtain ⟨its, rv, p, hz⟩ := I.list hq
    obtain ⟨f0, f1, f2, f3, f4, f5⟩ := hf it (by simp)
    have hl := rv.length
    exact wpAny_pyNext_list_end (I.ok.hd hc) st p.isList (by simp; omega) fun h' eb => ⟨rfl, I.turned (t' := s.toks) (fun b o hb e => eb b o hb e) f0 f1 f3 f4 f5⟩
  self := fun _ _ _ _ _ st h => wpAny_pyIter_listiter st h
theorem turn_tuple {P : Program} {w : World} {K : PySem.W.Frag} {tg : Expr} (a it : Addr) : Turn P w K tg (Itt K a) [it] it (fun i h => h.IsTupleIter it a i) where
  mem := by simp
  obj := fun i h st b hb => by
    have e : b = it := by simpa using hb
    subst e
    obtain ⟨o, e, c, d⟩ := st
    exact ⟨o, e, fun v z => by rw [d] at z; cases z⟩
  keep := fun i h h' st k => st.at fun o e => k it (by simp) o e
  item := by
    intro X hP hw hK hc i pins s σ H E I hf st hg
    subst hP hw hK
    obtain ⟨xs, x, hq, hx⟩ := hg
    obtain ⟨its, rv, p, hz⟩ := I.tuple hq
    obtain ⟨u, hu, ru⟩ := rv.get hx
    obtain ⟨f0, f1, f2, f3, f4, f5⟩ := hf it (by simp)
    refine wpAny_pyNext_tuple_item st (show s.heap.IsTuple a its.toArray from p) (x := u) (by simpa using hu) fun h' st' sb => ?_
    have I1 : Inv X pins σ H { s with heap := h' } := I.turned (t' := s.toks) (fun b o hb e => (sb.2 b hb).trans e) f0 f1 f3 f4 f5
    obtain ⟨o, e, c, d⟩ := id st'
    exact ⟨u, rfl, go_of (s := { s with heap := h' }) e c d (by decide) ⟨x, H, I1, ru, ⟨rfl, fun ys hy => by rw [I.tuple_inj hy hq]; exact hx⟩, st', fun b hb => (hf b hb).1⟩⟩
  done := by
    intro X hP hw hK hc i pins s σ H E I hf st hg
    subst hP hw hK
    obtain ⟨xs, hq, hx⟩ := hg
    obtain ⟨its, rv, p, hz⟩ := I.tuple hq
    obtain ⟨f0, f1, f2, f3, f4, f5⟩ := hf it (by simp)
    have hl := rv.length
    exact wpAny_pyNext_tuple_end (I.ok.hd hc) st (show s.heap.IsTuple a its.toArray from p) (by simp; omega) fun h' eb => ⟨rfl, I.turned (t' := s.toks) (fun b o hb e => eb b o hb e) f0 f1 f3 f4 f5⟩
  self := fun _ _ _ _ _ st h => wpAny_pyIter_tupleiter st h
end L2

namespace L2
open PySem PySem.Spec PyProof.Rows
section
variable {X : Cx} {tg : Expr}
def iList (K : PySem.W.Frag) (tl : TE) : TI := fun σ H R => tl σ H fun x H1 => ∃ a, x = .ref a ∧ (∃ xs, SqL K H1 a xs) ∧ R (Itl K a) H1
def iTup (K : PySem.W.Frag) (tl : TE) : TI := fun σ H R => tl σ H fun x H1 => ∃ a, x = .ref a ∧ (∃ xs, SqT K H1 a xs) ∧ R (Itt K a) H1
theorem pi_list {l : Expr} {tl : TE} (hl : PE X l tl) : PI X tg l (iList X.K tl) := by
  intro pins s σ H R I h
  refine thn (hl pins s σ H _ I h) fun v s1 ⟨x, H1, I1, r1, q1⟩ => ?_
  obtain ⟨a, e, ⟨xs, hq⟩, q⟩ := q1
  subst e
  cases r1
  obtain ⟨its, rv, p, hz⟩ := I1.list hq
  refine wpAny_pyIter_list p.isList ?_
  refine ⟨s1.heap.objs.size, [s1.heap.objs.size], _, _, H1, rfl, I1.kept (t' := s1.toks) fun b o e => Heap.get?_push_of_some _ e, turn_list a _, ⟨_, Heap.get?_push_size _ rfl, rfl, rfl⟩, fun b hb => ?_, q⟩
  have e : b = s1.heap.objs.size := by simpa using hb
  subst e
  exact I1.fpOk (Nat.le_refl _) (I1.hok.fresh (Nat.le_refl _))
theorem pi_tup {l : Expr} {tl : TE} (hl : PE X l tl) : PI X tg l (iTup X.K tl) := by
  intro pins s σ H R I h
  refine thn (hl pins s σ H _ I h) fun v s1 ⟨x, H1, I1, r1, q1⟩ => ?_
  obtain ⟨a, e, ⟨xs, hq⟩, q⟩ := q1
  subst e
  cases r1
  obtain ⟨its, rv, p, hz⟩ := I1.tuple hq
  refine wpAny_pyIter_tuple (show s1.heap.IsTuple a its.toArray from p) ?_
  refine ⟨s1.heap.objs.size, [s1.heap.objs.size], _, _, H1, rfl, I1.kept (t' := s1.toks) fun b o e => Heap.get?_push_of_some _ e, turn_tuple a _, ⟨_, Heap.get?_push_size _ rfl, rfl, rfl⟩, fun b hb => ?_, q⟩
  have e : b = s1.heap.objs.size := by simpa using hb
  subst e
  exact I1.fpOk (Nat.le_refl _) (I1.hok.fresh (Nat.le_refl _))
/-! ### for -/
/-- W: the invariant by the turn and a measure; N: what the body is to reach -/
def tFor (wi : TI) (g : TG) (tb : TS) : TS := fun D σ H => wi σ H fun J H1 => ∃ W : Nat → Nat → St → Hp → Prop, (∃ m, W 0 m σ H1) ∧ ∀ i m σ H, W i m σ H →
  (J.stop i H ∧ D.nx σ H) ∨ (J.go i H ∧ ∃ N : St → Hp → Prop, (∀ σ' H', N σ' H' → ∃ m', m' < m ∧ W (i + 1) m' σ' H') ∧ ∀ x H', J.yld i H x H' → g x σ H' fun σ2 H2 => tb { D with nx := N, ct := N, bk := D.nx } σ2 H2)
/-- the records at fp as they stand -/
def pinsAt (fp : List Addr) (h : Heap) : List (Addr × Obj) := fp.filterMap fun b => (h.get? b).map fun o => (b, o)
theorem mem_pinsAt {fp : List Addr} {h : Heap} {b : Addr} {o : Obj} (hb : b ∈ fp) (e : h.get? b = some o) : (b, o) ∈ pinsAt fp h := List.mem_filterMap.mpr ⟨b, hb, by rw [e]; rfl⟩
theorem of_pinsAt {fp : List Addr} {h : Heap} {p : Addr × Obj} (hp : p ∈ pinsAt fp h) : p.1 ∈ fp ∧ h.get? p.1 = some p.2 := by
  obtain ⟨b, hb, e⟩ := List.mem_filterMap.mp hp
  cases q : h.get? b with
  | none => rw [q] at e; cases e
  | some o =>
    rw [q] at e
    have e' : (b, o) = p := Option.some.inj e
    subst e'
    exact ⟨hb, q⟩
theorem Inv.pinned {pins : List (Addr × Obj)} {σ : St} {H : Hp} {s : Shared} {fp : List Addr} (I : Inv X pins σ H s) (hf : ∀ b ∈ fp, FpOk X pins H b) (ho : ∀ b ∈ fp, ∃ o, s.heap.get? b = some o ∧ ∀ v, o.data ≠ .cell v) : Inv X (pins ++ pinsAt fp s.heap) σ H s :=
  I.pins_of fun p hp => (List.mem_append.mp hp).elim (fun z => I.pin p (List.mem_append_right _ z)) fun z => by
    obtain ⟨hb, e⟩ := of_pinsAt z
    obtain ⟨f0, f1, f2, _⟩ := hf p.1 hb
    obtain ⟨o, e', d⟩ := ho p.1 hb
    rw [e] at e'; cases e'
    exact ⟨e, f0, f1, f2, d⟩
theorem Inv.unpinned {pins pl : List (Addr × Obj)} {σ : St} {H : Hp} {s : Shared} (I : Inv X (pins ++ pl) σ H s) : Inv X pins σ H s := I.pins_of fun p hp => I.pin p (List.mem_append_right _ (List.mem_append_left _ hp))
theorem ps_for {iter : Expr} {body : List Stmt} {wi : TI} {g : TG} {tb : TS} {pos : Pos} (hp : PassesOwn (model X.prog X.w) X.A X.env X.xe) (hc : X.calm = true) (hi : PI X tg iter wi) (hg : PG X tg g) (hb : PSs X body tb)
    (hs : ∀ x, foldedSetIterable iter X.env x = pure x := by intro _; rfl) : PS X (.For tg iter body [] pos) (tFor wi g tb) := by
  intro pins s σ H D I h
  refine wpAny_For (thn (hi pins s σ H _ I h) fun v s1 h1 => thn h1 fun itv s2 h2 => ?_) hs
  obtain ⟨it, fp, tn, J, H2, e, I2, T, st2, f2, W, ⟨m0, w0⟩, turn⟩ := h2
  subst e
  -- what stays true of the iterator's objects through the loop
  have stat : ∀ {H' : Hp}, (∀ b ∈ fp, H' b = none) → ∀ b ∈ fp, FpOk X pins H' b := fun hn b hb => ⟨hn b hb, (f2 b hb).2⟩
  refine codeAny_forLoop_any (fun n s' => ∃ i σ' H', Inv X pins σ' H' s' ∧ tn i s'.heap ∧ (∀ b ∈ fp, H' b = none) ∧ W i n σ' H') ?_ m0 ⟨0, σ, H2, I2, st2, fun b hb => (f2 b hb).1, w0⟩
  rintro n s3 ⟨i, σ3, H3, I3, st3, fr3, w3⟩
  rcases turn i n σ3 H3 w3 with ⟨stop, qn⟩ | ⟨go, N, hN, step⟩
  · refine wpAny_passesOwn hp (thn (T.done X rfl rfl rfl hc i pins s3 σ3 H3 X.xe I3 (stat fr3) st3 stop) fun r s4 ⟨hr, I4⟩ => ?_)
    subst hr
    exact wpAny_execs_nil ⟨σ3, H3, I4, qn⟩
  · refine wpAny_passesOwn hp (thn (T.item X rfl rfl rfl hc i pins s3 σ3 H3 X.xe I3 (stat fr3) st3 go) fun r s4 ⟨u, hr, h4⟩ => ?_)
    subst hr
    refine wpAny_passesOwn hp (thn h4 fun _ s5 ⟨x, H5, I5, r5, y5, st5, fr5⟩ => ?_)
    have I5' := I5.pinned (stat fr5) (T.obj _ _ st5)
    refine wpAny_passesOwn hp (thn (hg _ s5 σ3 H5 x u _ I5' r5 (step x H5 y5)) fun _ s6 ⟨σ6, H6, I6, q6⟩ => ?_)
    refine wpAny_passesOwn hp (thn (hb _ s6 σ6 H6 _ I6 q6) fun f s7 q7 => ?_)
    have again : ∀ {σ7 : St} {H7 : Hp}, Inv X (pins ++ pinsAt fp s5.heap) σ7 H7 s7 → N σ7 H7 → ∃ m, m < n ∧ ∃ i σ' H', Inv X pins σ' H' s7 ∧ tn i s7.heap ∧ (∀ b ∈ fp, H' b = none) ∧ W i m σ' H' := fun {σ7 H7} I7 n7 => by
      obtain ⟨m', hm, w7⟩ := hN σ7 H7 n7
      refine ⟨m', hm, i + 1, σ7, H7, I7.unpinned, T.keep _ _ _ st5 fun b hb o e => (I7.pin (b, o) (List.mem_append_right _ (List.mem_append_right _ (mem_pinsAt hb e)))).1, fun b hb => ?_, w7⟩
      obtain ⟨o, e, d⟩ := T.obj _ _ st5 b hb
      exact (I7.pin (b, o) (List.mem_append_right _ (List.mem_append_right _ (mem_pinsAt hb e)))).2.1
    cases f with
    | next => obtain ⟨σ7, H7, I7, n7⟩ := q7; exact again I7 n7
    | cont => obtain ⟨σ7, H7, I7, n7⟩ := q7; exact again I7 n7
    | brk => obtain ⟨σ7, H7, I7, q7⟩ := q7; exact ⟨σ7, H7, I7.unpinned, q7⟩
    | ret v => obtain ⟨x7, σ7, H7, I7, r7, q7⟩ := q7; exact ⟨x7, σ7, H7, I7.unpinned, r7, q7⟩
end

/-! ### the forms one uses -/
/-- over a list that the body leaves as it is -/
theorem for_list {K : PySem.W.Frag} {a : Addr} {xs : List V} {g : TG} {tb : TS} {D : Ends} {σ : St} {H : Hp} (Pv : Nat → St → Hp → Prop) (h0 : Pv 0 σ H) (hl : ∀ i σ H, i ≤ xs.length → Pv i σ H → SqL K H a xs)
    (hs : ∀ i x σ H, xs[i]? = some x → Pv i σ H → g x σ H fun σ2 H2 => tb { D with nx := Pv (i + 1), ct := Pv (i + 1), bk := D.nx } σ2 H2) (hd : ∀ σ H, Pv xs.length σ H → D.nx σ H) :
    ∃ W : Nat → Nat → St → Hp → Prop, (∃ m, W 0 m σ H) ∧ ∀ i m σ H, W i m σ H →
      ((Itl K a).stop i H ∧ D.nx σ H) ∨ ((Itl K a).go i H ∧ ∃ N : St → Hp → Prop, (∀ σ' H', N σ' H' → ∃ m', m' < m ∧ W (i + 1) m' σ' H') ∧ ∀ x H', (Itl K a).yld i H x H' → g x σ H' fun σ2 H2 => tb { D with nx := N, ct := N, bk := D.nx } σ2 H2) := by
  refine ⟨fun i m σ H => m = xs.length - i ∧ i ≤ xs.length ∧ Pv i σ H, ⟨xs.length, by simp, Nat.zero_le _, h0⟩, ?_⟩
  rintro i m σ H ⟨rfl, hi, p⟩
  have q := hl i σ H hi p
  by_cases hlt : i < xs.length
  · refine .inr ⟨⟨xs, xs[i], q, by simp [hlt]⟩, Pv (i + 1), fun σ' H' p' => ⟨xs.length - (i + 1), by omega, rfl, hlt, p'⟩, fun x H' y => ?_⟩
    obtain ⟨e, y⟩ := y
    subst e
    exact hs i x σ _ (y xs q) p
  · have e : i = xs.length := by omega
    subst e
    exact .inl ⟨⟨xs, q, Nat.le_refl _⟩, hd σ H p⟩
theorem for_tup {K : PySem.W.Frag} {a : Addr} {xs : List V} {g : TG} {tb : TS} {D : Ends} {σ : St} {H : Hp} (Pv : Nat → St → Hp → Prop) (h0 : Pv 0 σ H) (hl : ∀ i σ H, i ≤ xs.length → Pv i σ H → SqT K H a xs)
    (hs : ∀ i x σ H, xs[i]? = some x → Pv i σ H → g x σ H fun σ2 H2 => tb { D with nx := Pv (i + 1), ct := Pv (i + 1), bk := D.nx } σ2 H2) (hd : ∀ σ H, Pv xs.length σ H → D.nx σ H) :
    ∃ W : Nat → Nat → St → Hp → Prop, (∃ m, W 0 m σ H) ∧ ∀ i m σ H, W i m σ H →
      ((Itt K a).stop i H ∧ D.nx σ H) ∨ ((Itt K a).go i H ∧ ∃ N : St → Hp → Prop, (∀ σ' H', N σ' H' → ∃ m', m' < m ∧ W (i + 1) m' σ' H') ∧ ∀ x H', (Itt K a).yld i H x H' → g x σ H' fun σ2 H2 => tb { D with nx := N, ct := N, bk := D.nx } σ2 H2) := by
  refine ⟨fun i m σ H => m = xs.length - i ∧ i ≤ xs.length ∧ Pv i σ H, ⟨xs.length, by simp, Nat.zero_le _, h0⟩, ?_⟩
  rintro i m σ H ⟨rfl, hi, p⟩
  have q := hl i σ H hi p
  by_cases hlt : i < xs.length
  · refine .inr ⟨⟨xs, xs[i], q, by simp [hlt]⟩, Pv (i + 1), fun σ' H' p' => ⟨xs.length - (i + 1), by omega, rfl, hlt, p'⟩, fun x H' y => ?_⟩
    obtain ⟨e, y⟩ := y
    subst e
    exact hs i x σ _ (y xs q) p
  · have e : i = xs.length := by omega
    subst e
    exact .inl ⟨⟨xs, q, Nat.le_refl _⟩, hd σ H p⟩
end L2

namespace L2
open PySem PySem.Spec PyProof.Rows

abbrev R2 := V → V → Hp → VK → Prop
/-- a two-place operation on values: f is binaryOp op, inplaceOp op or compareOp op -/
def OpR (X : Cx) (f : Value → Value → Sem Value) (r : R2) : Prop :=
  ∀ (pins : List (Addr × Obj)) (s : Shared) (σ : St) (H : Hp) (x y : V) (v u : Value) (Q : VK), Inv X pins σ H s → RelV x v → RelV y u → r x y H Q →
    wpAny (model X.prog X.w) X.A (f v u) (EP X pins σ Q) X.xe s
/-- a call of a value that is known (a builtin, a type) with values -/
def CallR (X : Cx) (f : Value) (r : List V → Hp → VK → Prop) : Prop :=
  ∀ (pins : List (Addr × Obj)) (s : Shared) (σ : St) (H : Hp) (xs : List V) (us : List Value) (Q : VK), Inv X pins σ H s → Vals xs us → r xs H Q →
    wpAny (model X.prog X.w) X.A (call f us) (EP X pins σ Q) X.xe s
def tOp (r : R2) (ta tb : TE) : TE := fun σ H Q => ta σ H fun x H1 => tb σ H1 fun y H2 => r x y H2 Q
def rI0 (g : Int → Int → V) : R2 := fun x y H Q => ∃ i j, x = .int i ∧ y = .int j ∧ Q (g i j) H
section
variable {X : Cx} {a b c : Expr} {ta tb tc : TE} {pos : Pos}

theorem binT (ha : PE X a ta) (hb : PE X b tb) {pins : List (Addr × Obj)} {s : Shared} {σ : St} {H : Hp} {R : V → V → Hp → Prop} (I : Inv X pins σ H s)
    (h : ta σ H fun x H1 => tb σ H1 fun y H2 => R x y H2) {Q : Value → Shared → Prop} {f : Value → Value → Sem Value}
    (hf : ∀ v u s2 x y H2, Inv X pins σ H2 s2 → RelV x v → RelV y u → R x y H2 → wpAny (model X.prog X.w) X.A (f v u) Q X.xe s2) :
    wpAny (model X.prog X.w) X.A (eval a X.env) (fun v s₁ => wpAny (model X.prog X.w) X.A (eval b X.env) (fun u s₂ => wpAny (model X.prog X.w) X.A (f v u) Q X.xe s₂) X.xe s₁) X.xe s := by
  refine thn (ha pins s σ H _ I h) fun v s1 ⟨x, H1, I1, r1, q1⟩ => ?_
  refine thn (hb pins s1 σ H1 _ I1 q1) fun u s2 ⟨y, H2, I2, r2, q2⟩ => ?_
  exact hf v u s2 x y H2 I2 r1 r2 q2

theorem pe_op {op : Operator} {r : R2} (ho : OpR X (binaryOp op) r) (ha : PE X a ta) (hb : PE X b tb) : PE X (.BinOp a op b pos) (tOp r ta tb) := by
  intro pins s σ H Q I h
  exact wpAny_BinOp (binT ha hb I h fun v u s2 x y H2 I2 rx ry q => ho pins s2 σ H2 x y v u Q I2 rx ry q)
/-! ### ints -/
theorem opI0 {f : Value → Value → Sem Value} {g : Int → Int → Int}
    (rule : ∀ (i j : Int) (t u : Tok) (s : Shared) (Q : Value → Shared → Prop) (E : Value → Shared → Prop), Q (.int (g i j) s.toks) { s with toks := s.toks + 1 } → wpAny (model X.prog X.w) X.A (f (.int i t) (.int j u)) Q E s) :
    OpR X f (rI0 fun i j => .int (g i j)) := by
  intro pins s σ H x y v u Q I rx ry h
  obtain ⟨i, j, rfl, rfl, q⟩ := h
  obtain ⟨t, rfl⟩ := rx
  obtain ⟨t', rfl⟩ := ry
  exact rule i j t t' s _ _ ⟨.int (g i j), H, I.tok _, ⟨_, rfl⟩, q⟩
theorem opB0 {f : Value → Value → Sem Value} {g : Int → Int → Bool}
    (rule : ∀ (i j : Int) (t u : Tok) (s : Shared) (Q : Value → Shared → Prop) (E : Value → Shared → Prop), Q (.bool (g i j)) s → wpAny (model X.prog X.w) X.A (f (.int i t) (.int j u)) Q E s) :
    OpR X f (rI0 fun i j => .bl (g i j)) := by
  intro pins s σ H x y v u Q I rx ry h
  obtain ⟨i, j, rfl, rfl, q⟩ := h
  obtain ⟨t, rfl⟩ := rx
  obtain ⟨t', rfl⟩ := ry
  exact rule i j t t' s _ _ ⟨.bl (g i j), H, I, rfl, q⟩

theorem op_add : OpR X (binaryOp .Add) (rI0 fun i j => .int (i + j)) := opI0 fun _ _ _ _ _ _ _ q => add_int q
theorem op_and : OpR X (binaryOp .BitAnd) (rI0 fun i j => .int (Builtin.bitAnd i j)) := opI0 fun _ _ _ _ _ _ _ q => and_int q
/-! ### bools among ints: n += (a < b) -/
end

/-! ### comparisons -/
/-- the scalars that == tells apart as data does -/
def scal : V → V → Bool
  | .non, .non => true | .non, .int _ => true | .int _, .non => true | .non, .bl _ => true | .bl _, .non => true | .non, .str _ => true | .str _, .non => true
  | .int _, .int _ => true | .bl _, .bl _ => true | .str _, .str _ => true | .byt _, .byt _ => true
  | .int _, .str _ => true | .str _, .int _ => true | .bl _, .str _ => true | .str _, .bl _ => true
  | _, _ => false
def rEq : R2 := fun x y H Q => scal x y = true ∧ Q (.bl (decide (x = y))) H
def rNe : R2 := fun x y H Q => scal x y = true ∧ Q (.bl (!decide (x = y))) H

theorem dec_int {i j : Int} : decide (V.int i = V.int j) = (i == j) := by
  rw [Bool.eq_iff_iff]
  simp
theorem dec_bl {i j : Bool} : decide (V.bl i = V.bl j) = (i == j) := by
  rw [Bool.eq_iff_iff]
  simp
theorem dec_str {i j : Str} : decide (V.str i = V.str j) = (i == j) := by
  rw [Bool.eq_iff_iff]
  simp
theorem dec_byt {i j : Array UInt8} : decide (V.byt i = V.byt j) = (i.toList == j.toList) := by
  rw [Bool.eq_iff_iff]
  cases i
  cases j
  simp

section
variable {X : Cx} {a b c : Expr} {ta tb tc : TE} {pos : Pos}
theorem fin_bl {pins : List (Addr × Obj)} {σ : St} {H : Hp} {s : Shared} {Q : VK} {k k' : Bool} (I : Inv X pins σ H s) (q : Q (.bl k) H) (e : k = k') : EP X pins σ Q (.bool k') s := by
  subst e
  exact ⟨.bl k, H, I, rfl, q⟩
theorem op_eq : OpR X (compareOp .Eq) rEq := by
  intro pins s σ H x y v u Q I rx ry h
  obtain ⟨hs, q⟩ := h
  cases x with
  | non =>
    cases rx
    cases y with
    | non => cases ry; exact PySem.EqNone.eq_none_none (fin_bl I q (by simp))
    | bl j => cases ry; exact PySem.EqNone.eq_none_bool (fin_bl I q (by simp))
    | int j => obtain ⟨t', rfl⟩ := ry; exact PySem.EqNone.eq_none_int (fin_bl I q (by simp))
    | str j => obtain ⟨t', rfl⟩ := ry; exact PySem.EqNone.eq_none_str (fin_bl I q (by simp))
    | _ => exact absurd (show false = true from hs) Bool.false_ne_true
  | bl i =>
    cases rx
    cases y with
    | non => cases ry; exact PySem.EqNone.eq_bool_none (fin_bl I q (by simp))
    | bl j => cases ry; exact eq_bool (fin_bl I q dec_bl)
    | str j => obtain ⟨t', rfl⟩ := ry; exact PySem.EqMixed.eq_bool_str (fin_bl I q (by simp))
    | _ => exact absurd (show false = true from hs) Bool.false_ne_true
  | int i =>
    obtain ⟨t, rfl⟩ := rx
    cases y with
    | non => cases ry; exact PySem.EqNone.eq_int_none (fin_bl I q (by simp))
    | int j => obtain ⟨t', rfl⟩ := ry; exact eq_int (fin_bl I q dec_int)
    | str j => obtain ⟨t', rfl⟩ := ry; exact PySem.EqMixed.eq_int_str (fin_bl I q (by simp))
    | _ => exact absurd (show false = true from hs) Bool.false_ne_true
  | str i =>
    obtain ⟨t, rfl⟩ := rx
    cases y with
    | non => cases ry; exact PySem.EqNone.eq_str_none (fin_bl I q (by simp))
    | bl j => cases ry; exact PySem.EqMixed.eq_str_bool (fin_bl I q (by simp))
    | int j => obtain ⟨t', rfl⟩ := ry; exact PySem.EqMixed.eq_str_int (fin_bl I q (by simp))
    | str j => obtain ⟨t', rfl⟩ := ry; exact eq_str (fin_bl I q dec_str)
    | _ => exact absurd (show false = true from hs) Bool.false_ne_true
  | byt i =>
    obtain ⟨t, rfl⟩ := rx
    cases y with
    | byt j => obtain ⟨t', rfl⟩ := ry; exact PySem.W.eq_bytes (fin_bl I q dec_byt)
    | _ => exact absurd (show false = true from hs) Bool.false_ne_true
  | _ => cases y <;> exact absurd (show false = true from hs) Bool.false_ne_true
theorem op_ne : OpR X (compareOp .NotEq) rNe := by
  intro pins s σ H x y v u Q I rx ry h
  obtain ⟨hs, q⟩ := h
  cases x with
  | non =>
    cases rx
    cases y with
    | non => cases ry; exact PySem.EqNone.ne_none_none (fin_bl I q (by simp))
    | bl j => cases ry; exact PySem.EqNone.ne_none_bool (fin_bl I q (by simp))
    | int j => obtain ⟨t', rfl⟩ := ry; exact PySem.EqNone.ne_none_int (fin_bl I q (by simp))
    | str j => obtain ⟨t', rfl⟩ := ry; exact PySem.EqNone.ne_none_str (fin_bl I q (by simp))
    | _ => exact absurd (show false = true from hs) Bool.false_ne_true
  | bl i =>
    cases rx
    cases y with
    | non => cases ry; exact PySem.EqNone.ne_bool_none (fin_bl I q (by simp))
    | bl j => cases ry; exact ne_bool (fin_bl I q (congrArg not dec_bl))
    | str j => obtain ⟨t', rfl⟩ := ry; exact PySem.EqMixed.ne_bool_str (fin_bl I q (by simp))
    | _ => exact absurd (show false = true from hs) Bool.false_ne_true
  | int i =>
    obtain ⟨t, rfl⟩ := rx
    cases y with
    | non => cases ry; exact PySem.EqNone.ne_int_none (fin_bl I q (by simp))
    | int j => obtain ⟨t', rfl⟩ := ry; exact ne_int (fin_bl I q (congrArg not dec_int))
    | str j => obtain ⟨t', rfl⟩ := ry; exact PySem.EqMixed.ne_int_str (fin_bl I q (by simp))
    | _ => exact absurd (show false = true from hs) Bool.false_ne_true
  | str i =>
    obtain ⟨t, rfl⟩ := rx
    cases y with
    | non => cases ry; exact PySem.EqNone.ne_str_none (fin_bl I q (by simp))
    | bl j => cases ry; exact PySem.EqMixed.ne_str_bool (fin_bl I q (by simp))
    | int j => obtain ⟨t', rfl⟩ := ry; exact PySem.EqMixed.ne_str_int (fin_bl I q (by simp))
    | str j => obtain ⟨t', rfl⟩ := ry; exact ne_str (fin_bl I q (congrArg not dec_str))
    | _ => exact absurd (show false = true from hs) Bool.false_ne_true
  | byt i =>
    obtain ⟨t, rfl⟩ := rx
    cases y with
    | byt j => obtain ⟨t', rfl⟩ := ry; exact PySem.W.ne_bytes (fin_bl I q (congrArg not dec_byt))
    | _ => exact absurd (show false = true from hs) Bool.false_ne_true
  | _ => cases y <;> exact absurd (show false = true from hs) Bool.false_ne_true

theorem op_lt : OpR X (compareOp .Lt) (rI0 fun i j => .bl (decide (i < j))) := opB0 fun _ _ _ _ _ _ _ q => lt_int q
theorem op_le : OpR X (compareOp .LtE) (rI0 fun i j => .bl (decide (i ≤ j))) := opB0 fun _ _ _ _ _ _ _ q => le_int q
theorem op_gt : OpR X (compareOp .Gt) (rI0 fun i j => .bl (decide (j < i))) := opB0 fun _ _ _ _ _ _ _ q => gt_int q
theorem nomark (b : Expr) {op : CmpOp} (h : op ≠ .In := by decide) (h2 : op ≠ .NotIn := by decide) : behindInMarks op b = false := by
  have e1 : (op == CmpOp.In) = false := by cases op <;> first | rfl | exact absurd rfl h
  have e2 : (op == CmpOp.NotIn) = false := by cases op <;> first | rfl | exact absurd rfl h2
  cases b <;> simp [behindInMarks, e1, e2]
/-- a comparison as a value; hm: nomark b, or (for in, not in) by with_unfolding_all rfl -/
theorem pe_cmpR {op : CmpOp} {r : R2} (ho : OpR X (compareOp op) r) (ha : PE X a ta) (hb : PE X b tb) (hm : behindInMarks op b = false) : PE X (.Compare a [op] [b] pos) (tOp r ta tb) := by
  intro pins s σ H Q I h
  exact wpAny_Compare1 (binT ha hb I h fun v u s2 x y H2 I2 rx ry q => ho pins s2 σ H2 x y v u Q I2 rx ry q) hm
/-- a reading of a value as a test -/
def tTest (t : TE) : TT := fun σ H Q => t σ H fun x H' => ∃ k, x = .bl k ∧ Q k H'
theorem pt_cmpR {op : CmpOp} {r : R2} (ho : OpR X (compareOp op) r) (ha : PE X a ta) (hb : PE X b tb) (hm : behindInMarks op b = false) : PT X (.Compare a [op] [b] pos) (tTest (tOp r ta tb)) := by
  intro pins s σ H Q I h
  refine wpAny_isTrue_Compare1 (thn (ha pins s σ H _ I h) fun v s1 ⟨x, H1, I1, r1, q1⟩ => thn (hb pins s1 σ H1 _ I1 q1) fun u s2 ⟨y, H2, I2, r2, q2⟩ =>
    thn (ho pins s2 σ H2 x y v u _ I2 r1 r2 q2) fun c s3 ⟨z, H3, I3, r3, k, e, q3⟩ => ?_) hm
  subst e
  cases r3
  exact wpAny_truthy_bool ⟨H3, I3, q3⟩
/-- a op1 b op2 c -/
def tChain (r r' : R2) (ta tb tc : TE) : TE := fun σ H Q => ta σ H fun x H1 => tb σ H1 fun y H2 => r x y H2 fun z H3 => ∃ k, z = .bl k ∧
  (if k = true then tc σ H3 fun w' H4 => r' y w' H4 Q else Q (.bl false) H3)
theorem pe_chain {op op' : CmpOp} {r r' : R2} (ho : OpR X (compareOp op) r) (ho' : OpR X (compareOp op') r') (ha : PE X a ta) (hb : PE X b tb) (hc : PE X c tc)
    (hm : lastMarks [op, op'] [b, c] = false := by with_unfolding_all rfl) : PE X (.Compare a [op, op'] [b, c] pos) (tChain r r' ta tb tc) := by
  intro pins s σ H Q I h
  refine Compare_chain (thn (ha pins s σ H _ I h) fun v s1 ⟨x, H1, I1, r1, q1⟩ => chain_link (thn (hb pins s1 σ H1 _ I1 q1) fun u s2 ⟨y, H2, I2, r2, q2⟩ =>
    thn (ho pins s2 σ H2 x y v u _ I2 r1 r2 q2) fun d s3 ⟨z, H3, I3, r3, k, e, q3⟩ => ?_)) hm
  subst e
  cases r3
  refine wpAny_truthy_bool ?_
  cases k with
  | false => exact ite_ff ⟨.bl false, H3, I3, rfl, q3⟩
  | true => exact ite_tt (chain_last (thn (hc pins s3 σ H3 _ I3 q3) fun w' s4 ⟨z', H4, I4, r4, q4⟩ => ho' pins s4 σ H4 y z' u w' Q I4 r2 r4 q4))
/-! ### truth -/
theorem line63 : (sizeLine : Nat) < 2 ^ 63 := by rw [sizeLine_eq]; decide
/-! ### strs and bytes -/
/-! ### scalar builtins, by CallR -/
theorem vals1 {x : V} {us : List Value} (r : Vals [x] us) : ∃ u, us = [u] ∧ RelV x u := by
  cases r with
  | cons r1 r2 => cases r2; exact ⟨_, rfl, r1⟩
theorem call_ord : CallR X (.builtin "ord") (fun xs H Q => ∃ x, xs = [.str x] ∧ x.length = 1 ∧ Q (.int (x.cps.getD 0 0 : Nat)) H) := by
  intro pins s σ H xs us Q I r h
  obtain ⟨x, rfl, hz, q⟩ := h
  obtain ⟨u, rfl, t, rfl⟩ := vals1 r
  exact ord_of_one hz ⟨.int _, H, I.tok _, ⟨_, rfl⟩, q⟩
end
end L2

namespace L2
open PySem PySem.Spec PyProof.Rows

/-! ### an instance, its attributes a map -/
structure ObjM (h : Heap) (x dx C : Addr) (mA : Str → Option Value) : Prop where
  obj : h.get? x = some (PySem.W.instObj C dx)
  ns : h.Ns1 dx mA
  ne : dx ≠ x

theorem lookIn_ns {h : Heap} {dx : Addr} {mA : Str → Option Value} (n : h.Ns1 dx mA) : ∃ od, h.get? dx = some od ∧ ∀ name, PySem.W.lookIn name od = some (mA name) := by
  obtain ⟨o, es, ep, ho, hd, hk, _, hm⟩ := n
  refine ⟨o, ho, fun name => ?_⟩
  have e := hm name
  unfold nsFind findBy at e
  rw [← Array.find?_toList] at e
  unfold PySem.W.lookIn
  rw [hd]
  dsimp only
  split
  · rename_i y q
    rw [q] at e
    exact congrArg some e
  · rename_i q
    rw [q] at e
    have a : es.toList.any (·.refKey) = false := by
      rw [List.any_eq_false]
      intro y hy
      obtain ⟨z, t, hkey⟩ := hk y (Array.mem_toList_iff.mp hy)
      simp [DictEntry.refKey, hkey]
    have a' : ¬ es.toList.any (·.refKey) = true := by rw [a]; exact Bool.false_ne_true
    rw [if_neg a']
    exact congrArg some e

theorem ObjM.look {h : Heap} {x dx C : Addr} {mA : Str → Option Value} (I : ObjM h x dx C mA) : ∃ od, PySem.W.InstAt h x (PySem.W.instObj C dx) C (some od) ∧ ∀ name, PySem.W.lookIn name od = some (mA name) :=
  let ⟨od, ho, hl⟩ := lookIn_ns I.ns
  ⟨od, ⟨I.obj, rfl, rfl, ho⟩, hl⟩

section
variable {prog : Program} {w : World} {A : Around} {E : Value → Shared → Prop} {s : Shared} {K : PySem.W.Frag} {x dx C f : Addr} {mA : Str → Option Value} {name : Str} {v : Value}

theorem get_map {expr : Bool} {Q : Value → Shared → Prop} (X : K.In s.heap) (I : ObjM s.heap x dx C mA) (hg : PySem.W.plainGet K C name = true) (hh : PySem.W.hasDictIn K C = true)
    (ha : PySem.W.findIn K (.ref C) name = some none) (hv : mA name = some v) (hv' : PySem.W.handedIn v = true) (h : Q v { s with toks := s.toks + 1 }) :
    wpAny (model prog w) A (getAttr (.ref x) name expr) Q E s := by
  obtain ⟨od, J, hl⟩ := I.look
  exact PySem.W.get_value X J (PySem.W.plainGet_of hg).1 (PySem.W.findObj_own hh ha rfl (by rw [hl, hv])) hv' h

theorem set_map {ns : List Str} {Q : Unit → Shared → Prop} (X : K.In s.heap) (I : ObjM s.heap x dx C mA)
    (hs : PySem.W.findIn K (.ref C) "__setattr__" = some (some (.builtin "object.__setattr__"))) (hp : PySem.W.plainOver K C = true) (ht : PySem.W.takerIn K C name = some none) (hh : PySem.W.hasDictIn K C = true)
    (hw : PySem.Within mA ns) (hsz : ns.length ≤ sizeLine)
    (h : ∀ h', ObjM h' x dx C (fun y => if y = name then some v else mA y) → Heap.SameBut dx s.heap h' → Q () { s with heap := h', toks := s.toks + 2 }) :
    wpAny (model prog w) A (setAttr (.ref x) name v) Q E s := by
  obtain ⟨od, J, hl⟩ := I.look
  refine PySem.W.set_plain X J hs (PySem.W.osa_open (s := { s with toks := s.toks + 1 }) (r := none) X J hp ht fun b => ?_)
  obtain ⟨cd, hc, hd'⟩ := PySem.W.any_some hh
  have hx : s.heap.get? x = some ⟨.ref C, some dx, .plain, #[]⟩ := I.obj
  refine wpAny_bind (wpAny_pure (wpAny_bind (wpAny_bind (wpAny_loadPart hx (wpAny_bind (PySem.W.Looks.here (s := { s with toks := s.toks + 1 }) (PySem.W.looks_clsIn X hc) ?_))))))
  rw [hd']
  refine wpAny_pure (a := some dx) (wpAny_bind (wpAny_pure (wpAny_bind ?_)))
  refine wpAny_nsSet1 (s := { s with toks := s.toks + 1 }) I.ns fun h' hn2 hs2 => ?_
  obtain ⟨oD, esD, epD, hoD, hdD, hcD⟩ := hn2.count (PySem.Within.cons name v hw)
  refine wpAny_bind (wpAny_lookBehind hoD (by rw [hdD]; exact pastItsLine_dict (Nat.le_trans hcD (by rw [List.length_cons]; omega))) ?_)
  exact wpAny_pure (h _ ⟨(hs2.2 _ (Ne.symm I.ne)).trans I.obj, hn2, I.ne⟩ hs2)

/-- C(..): the dict at the heap's end, the instance behind it; then its __init__ -/
theorem make_map {R : Result → Shared → Prop} {vs : List Value} {kw : List (Str × Value)} (X : K.In s.heap) (hm : PySem.W.makesIn K C = true)
    (hi : PySem.W.findIn K (.ref C) "__init__" = some (some (.ref f))) (hf : PySem.W.typeIn K (.ref f) = some (.type "function"))
    (h : codeAny (model prog w) (A.under (.builtin "type.__call__" ⟨.ref C :: vs, kw⟩)) (.call (.ref f) ⟨.ref (s.heap.objs.size + 1) :: vs, kw⟩) (PySem.W.InitBack (s.heap.objs.size + 1) R)
      { s with heap := (s.heap.push PySem.W.emptyDict).push (PySem.W.instObj C s.heap.objs.size) }) :
    codeAny (model prog w) A (.call (.ref C) ⟨vs, kw⟩) R s := by
  obtain ⟨hh, g, d, t, os⟩ := s
  exact PySem.W.make_core (PySem.W.makes_of X hm) (PySem.W.looks_findIn X hi) (fun self => PySem.W.bind_fn X self hf) (.inl rfl) h
end

/-! ### the attributes as a list of pairs -/
def putF (f : Str) (v : V) : List (Str × V) → List (Str × V)
  | [] => [(f, v)]
  | (g, x) :: r => if g = f then (g, v) :: r else (g, x) :: putF f v r
theorem lookup_putF (f g : Str) (v : V) : ∀ fs : List (Str × V), (putF f v fs).lookup g = if g = f then some v else fs.lookup g
  | [] => by
    show List.lookup g [(f, v)] = _
    by_cases h : g = f
    · have hb : (g == f) = true := beq_iff_eq.mpr h
      simp only [List.lookup, hb, if_pos h]
    · have hb : (g == f) = false := beq_eq_false_iff_ne.mpr h
      simp only [List.lookup, hb, if_neg h]
  | (k, x) :: r => by
    have ih := lookup_putF f g v r
    rw [show putF f v ((k, x) :: r) = (if k = f then (k, v) :: r else (k, x) :: putF f v r) from rfl]
    by_cases hk : k = f
    · rw [if_pos hk]
      by_cases h : g = k
      · have hb : (g == k) = true := beq_iff_eq.mpr h
        simp only [List.lookup, hb, if_pos (h.trans hk)]
      · have hb : (g == k) = false := beq_eq_false_iff_ne.mpr h
        simp only [List.lookup, hb, if_neg (fun e : g = f => h (e.trans hk.symm))]
    · rw [if_neg hk]
      by_cases h : g = k
      · have hb : (g == k) = true := beq_iff_eq.mpr h
        simp only [List.lookup, hb, if_neg (fun e : g = f => hk (h.symm.trans e))]
      · have hb : (g == k) = false := beq_eq_false_iff_ne.mpr h
        simp only [List.lookup, hb]
        exact ih
theorem keys_putF (f : Str) (v : V) : ∀ fs : List (Str × V), f ∈ (putF f v fs).map (·.1) ∧ ∀ g, g ∈ fs.map (·.1) → g ∈ (putF f v fs).map (·.1)
  | [] => ⟨by simp [putF], fun g h => by simp at h⟩
  | (k, x) :: r => by
    obtain ⟨i1, i2⟩ := keys_putF f v r
    rw [show putF f v ((k, x) :: r) = (if k = f then (k, v) :: r else (k, x) :: putF f v r) from rfl]
    by_cases hk : k = f
    · rw [if_pos hk]
      subst hk
      exact ⟨by simp, fun g h => by simpa using h⟩
    · rw [if_neg hk]
      refine ⟨?_, fun g h => ?_⟩
      · rw [List.map_cons]
        exact List.mem_cons_of_mem _ i1
      · rw [List.map_cons] at h ⊢
        rcases List.mem_cons.mp h with e | e
        · exact List.mem_cons.mpr (.inl e)
        · exact List.mem_cons_of_mem _ (i2 g e)
theorem length_putF (f : Str) (v : V) : ∀ fs : List (Str × V), (putF f v fs).length ≤ fs.length + 1
  | [] => by simp [putF]
  | (k, x) :: r => by
    have ih := length_putF f v r
    rw [show putF f v ((k, x) :: r) = (if k = f then (k, v) :: r else (k, x) :: putF f v r) from rfl]
    by_cases hk : k = f
    · rw [if_pos hk, List.length_cons, List.length_cons]; omega
    · rw [if_neg hk, List.length_cons, List.length_cons]; omega

theorem RelO.some_of {v : V} {o : Option Value} (r : RelO (some v) o) : ∃ u, o = some u ∧ RelV v u := by
  cases o with
  | none => exact (show False from r).elim
  | some u => exact ⟨u, rfl, r⟩
theorem handed_of {v : V} {u : Value} (r : RelV v u) : PySem.W.handedIn u = true := by
  cases v with
  | non => cases (show u = Value.none from r); rfl
  | bl b => cases (show u = Value.bool b from r); rfl
  | int i => obtain ⟨t, e⟩ := (show ∃ t, u = Value.int i t from r); cases e; rfl
  | str x => obtain ⟨t, e⟩ := (show ∃ t, u = Value.str x t from r); cases e; rfl
  | byt b => obtain ⟨t, e⟩ := (show ∃ t, u = Value.bytes b t from r); cases e; rfl
  | flt b => obtain ⟨t, e⟩ := (show ∃ t, u = Value.float b t from r); cases e; rfl
  | ref a => cases (show u = Value.ref a from r); rfl
  | ty n => cases (show u = Value.type n from r); rfl

section
variable {P : Program} {w : World} {H H' : Hp} {h h' : Heap} {a C dx : Addr} {fs fs' : List (Str × V)}
theorem ins_get (hok : HOk P w H h) (e : H a = some (.ins C dx fs)) : ∃ mA, ObjM h a dx C mA ∧ (∀ f, RelO (fs.lookup f) (mA f)) ∧ PySem.Within mA (fs.map (·.1)) ∧ fs.length ≤ 1000 ∧ H dx = some (.own a) := by
  obtain ⟨d, z, ne, ob, mA, n, r, q⟩ := (show ObjOk P w H h a (.ins C dx fs) from hok a _ e)
  exact ⟨mA, ⟨ob, n, ne⟩, r, q, z, d⟩
end

/-! ### what of the text a class must have -/
structure Cls (K : PySem.W.Frag) (C : Addr) : Prop where
  pg : PySem.W.plainGet K C Str.empty = true
  hd : PySem.W.hasDictIn K C = true
  po : PySem.W.plainOver K C = true
  sa : PySem.W.findIn K (.ref C) "__setattr__" = some (some (.builtin "object.__setattr__"))
theorem Cls.get {K : PySem.W.Frag} {C : Addr} (c : Cls K C) (f : Str) : PySem.W.plainGet K C f = true := c.pg
/-- no class of it has the name -/
def NoAttr (K : PySem.W.Frag) (C : Addr) (f : Str) : Prop := PySem.W.findIn K (.ref C) f = some none
theorem NoAttr.taker {K : PySem.W.Frag} {C : Addr} {f : Str} (n : NoAttr K C f) : PySem.W.takerIn K C f = some none := by
  unfold PySem.W.takerIn
  rw [show PySem.W.findIn K (.ref C) f = some none from n]
  rfl
/-- a constant of the class -/
structure Con (K : PySem.W.Frag) (C : Addr) (f : Str) (v : V) (u : Value) : Prop where
  at_ : PySem.W.findIn K (.ref C) f = some (some u)
  rel : RelV v u
  get : PySem.W.specialIn K u "__get__" = some none
  cp : PySem.W.copiedNames.contains f = false
/-- a method: a plain def of the class or of one above it -/
structure Meth (K : PySem.W.Frag) (C : Addr) (m : Str) (f : Addr) : Prop where
  at_ : PySem.W.findIn K (.ref C) m = some (some (.ref f))
  fn : PySem.W.isFn K (.ref f) = true
  kp : PySem.W.keepIn K (.ref f) = true

section
variable {X : Cx} {pins : List (Addr × Obj)} {σ : St} {H : Hp} {s : Shared} {a C dx : Addr} {fs : List (Str × V)} {f : Str} {v : V} {A : Around} {E : Value → Shared → Prop}

theorem getattr_ok {b : Bool} {Q : Value → Shared → Prop} (I : Inv X pins σ H s) (e : H a = some (.ins C dx fs)) (c : Cls X.K C) (n : NoAttr X.K C f) (l : fs.lookup f = some v)
    (h : ∀ u s', Inv X pins σ H s' → RelV v u → Q u s') : wpAny (model X.prog X.w) A (getAttr (.ref a) f b) Q E s := by
  obtain ⟨mA, O, r, _, _, _⟩ := ins_get I.hok e
  obtain ⟨u, hu, ru⟩ := RelO.some_of (v := v) (o := mA f) (by rw [← l]; exact r f)
  exact get_map I.kIn O (c.get f) c.hd n hu (handed_of ru) (h u _ (I.tok _) ru)

theorem setattr_ok {y : V} {u : Value} {Q : Unit → Shared → Prop} (I : Inv X pins σ H s) (e : H a = some (.ins C dx fs)) (c : Cls X.K C) (n : NoAttr X.K C f) (hl : fs.length < 1000) (ry : RelV y u)
    (h : ∀ s', Inv X pins σ (upd H a (.ins C dx (putF f y fs))) s' → Q () s') : wpAny (model X.prog X.w) A (setAttr (.ref a) f u) Q E s := by
  obtain ⟨mA, O, r, wi, _, ho⟩ := ins_get I.hok e
  have hz : (fs.map (·.1)).length ≤ sizeLine := by rw [List.length_map, sizeLine_eq]; omega
  refine set_map I.kIn O c.sa c.po n.taker c.hd wi hz fun h' O' sb => h _ ?_
  have hd : ∃ o, h'.get? dx = some o := let ⟨o, _, _, e', _⟩ := O'.ns; ⟨o, e'⟩
  refine I.write (x := a) (e := dx) (by rw [e]; exact True.intro) (.inr ho) (fun b q hb z => (sb.2 b hb).trans z) hd ?_
  refine ⟨by rw [upd_ne O.ne]; exact ho, ?_, O.ne, O'.obj, _, O'.ns, fun g => ?_, fun g hg => ?_⟩
  · have := length_putF f y fs; omega
  · show RelO ((putF f y fs).lookup g) (if g = f then some u else mA g)
    rw [lookup_putF]
    by_cases q : g = f
    · rw [if_pos q, if_pos q]; exact ry
    · rw [if_neg q, if_neg q]; exact r g
  · by_cases q : g = f
    · rw [q]; exact (keys_putF f y fs).1
    · refine (keys_putF f y fs).2 g (wi g fun z => hg ?_)
      show (if g = f then some u else mA g) = none
      rw [if_neg q]; exact z

/-- a new instance, tracked, without attributes -/
theorem Inv.made (I : Inv X pins σ H s) : Inv X pins σ (upd (upd H s.heap.objs.size (.own (s.heap.objs.size + 1))) (s.heap.objs.size + 1) (.ins C s.heap.objs.size []))
    { s with heap := (s.heap.push PySem.W.emptyDict).push (PySem.W.instObj C s.heap.objs.size) } := by
  have e1 : (s.heap.push PySem.W.emptyDict).get? s.heap.objs.size = some PySem.W.emptyDict := Heap.get?_push_size s.heap rfl
  have e2 : ((s.heap.push PySem.W.emptyDict).push (PySem.W.instObj C s.heap.objs.size)).get? (s.heap.objs.size + 1) = some (PySem.W.instObj C s.heap.objs.size) := by
    have := Heap.get?_push_size (s.heap.push PySem.W.emptyDict) (o := PySem.W.instObj C s.heap.objs.size) rfl
    rwa [Heap.size_push] at this
  have e3 : (s.heap.push PySem.W.emptyDict).Ns s.heap.objs.size (fun _ => none) := ⟨PySem.W.emptyDict, #[], _, e1, rfl, (fun e he => absurd he (by simp)), fun _ => rfl⟩
  have I1 := I.laid (a := s.heap.objs.size) (o := .own (s.heap.objs.size + 1)) (h' := s.heap.push PySem.W.emptyDict) (t' := s.toks) (fun b u q => Heap.get?_push_of_some _ q) (Nat.le_refl _) ⟨_, e1⟩
  refine I1.laid (a := s.heap.objs.size + 1) (o := .ins C s.heap.objs.size []) (t' := s.toks) (fun b u q => Heap.get?_push_of_some _ q) (Nat.le_of_eq (Heap.size_push _ _)) ?_
  have ne : s.heap.objs.size ≠ s.heap.objs.size + 1 := Nat.ne_of_lt (Nat.lt_succ_self _)
  refine ⟨by rw [upd_ne ne, upd_same], Nat.zero_le _, ne, e2, fun _ => none, (Heap.Ns1.of_empty e3).at fun o q => Heap.get?_push_of_some _ q, fun _ => True.intro, fun y hy => absurd rfl hy⟩

/-- e.f where nothing but the object is asked: through attributeBase (super) and the last hold -/
theorem attr_of {prog : Program} {w : World} {env : Env} {e : Expr} {f : Str} {pos : Pos} {s : Shared} {Q : Value → Shared → Prop} (hb : attributeBase e f env (eval e env) = eval e env)
    (h : wpAny (model prog w) A (eval e env) (fun o s₁ => wpAny (model prog w) A (getAttr o f true) Q E s₁) E s) : wpAny (model prog w) A (eval (.Attribute e f pos) env) Q E s :=
  Attribute_any_ h (by rw [arm_eval_Attribute, hb])
end

/-! ### readings and rules -/
/-- e.f, an attribute of the instance -/
def tFld (K : PySem.W.Frag) (ta : TE) (f : Str) : TE := fun σ H Q => ta σ H fun x H1 => ∃ a C dx fs v, x = .ref a ∧ H1 a = some (.ins C dx fs) ∧ Cls K C ∧ NoAttr K C f ∧ fs.lookup f = some v ∧ Q v H1
/-- e.f = value -/
def sFld (K : PySem.W.Frag) (ta tv : TE) (f : Str) : TS := fun D σ H => tv σ H fun y H1 => ta σ H1 fun x H2 => ∃ a C dx fs, x = .ref a ∧ H2 a = some (.ins C dx fs) ∧ Cls K C ∧ NoAttr K C f ∧ fs.length < 1000 ∧
  D.nx σ (upd H2 a (.ins C dx (putF f y fs)))
section
variable {X : Cx} {o e value : Expr} {f : Str} {pos pos' tpos : Pos} {ta tv : TE}
theorem pe_fld (he : PE X e ta) (hb : attributeBase e f X.env (eval e X.env) = eval e X.env) : PE X (.Attribute e f pos) (tFld X.K ta f) := by
  intro pins s σ H Q I h
  refine attr_of hb (thn (he pins s σ H _ I h) fun u s1 ⟨x, H1, I1, rx, a, C, dx, fs, v, ex, ea, c, n, l, q⟩ => ?_)
  subst ex
  obtain rfl : u = Value.ref a := rx
  exact getattr_ok I1 ea c n l fun u' s2 I2 ru => ⟨v, H1, I2, ru, q⟩
theorem ps_fld (ha : PE X o ta) (hv : PE X value tv) (hs : swapsWith value (some (.Attribute o f pos')) pos.line X.env = pure false) : PS X (.Assign [.Attribute o f pos'] value pos) (sFld X.K ta tv f) := by
  intro pins s σ H D I h
  refine plainObj_wpAny_Assign_Attribute (thn (hv pins s σ H _ I h) fun u s1 ⟨y, H1, I1, ry, q⟩ => thn (ha pins s1 σ H1 _ I1 q) fun ov s2 ⟨x, H2, I2, rx, a, C, dx, fs, ex, ea, c, n, l, q2⟩ => ?_) hs
  subst ex
  obtain rfl : ov = Value.ref a := rx
  exact setattr_ok I2 ea c n l ry fun s3 I3 => ⟨σ, _, I3, q2⟩
end

/-! ### isinstance -/
section
variable {X : Cx} {pins : List (Addr × Obj)} {σ : St} {H : Hp} {s : Shared} {A : Around} {E : Value → Shared → Prop} {Q : Value → Shared → Prop} {c : Value} {b : Bool}
/-- the type of a value, as the fragment's deciders take it; for an instance its class -/
inductive TyOf (K : PySem.W.Frag) (H : Hp) : V → Value → Prop where
  | non : TyOf K H .non (.type "NoneType")
  | bl (x : Bool) : TyOf K H (.bl x) (.type "bool")
  | int (i : Int) : TyOf K H (.int i) (.type "int")
  | str (x : Str) : TyOf K H (.str x) (.type "str")
  | flt (x : UInt64) : TyOf K H (.flt x) (.type "float")
  | lst {a : Addr} {xs : List V} (e : H a = some (.lst xs)) : TyOf K H (.ref a) (.type "list")
  | frz {a : Addr} {o : Obj} {xs : List V} (e : H a = some (.frz o (.lst xs))) : TyOf K H (.ref a) (.type "list")
  | tup {a : Addr} {xs : List V} (e : H a = some (.tup xs)) : TyOf K H (.ref a) (.type "tuple")
  | dK {a : Addr} {kvs : List (Key × V)} (e : H a = some (.dK kvs)) : TyOf K H (.ref a) (.type "dict")
  | dT {a : Addr} {kvs : List (List Key × V)} (e : H a = some (.dT kvs)) : TyOf K H (.ref a) (.type "dict")
  | ins {a C dx : Addr} {fs : List (Str × V)} (e : H a = some (.ins C dx fs)) (cl : Cls K C) (ha : PySem.W.findIn K (.ref C) "__class__" = some (some (.builtin "object.__class__")))
      (hn : PySem.W.specialIn K (.builtin "object.__class__") "__get__" = some (some (.builtin "getset_descriptor.__get__"))) (htk : PySem.W.takesIn K (.builtin "object.__class__") = some true)
      (hm : PySem.W.mroIn K C (.type "object") = some true) : TyOf K H (.ref a) (.ref C)
end
end L2

namespace L2
open PySem PySem.Spec PyProof.Rows

/-! ### room -/
structure Room (k : Nat) (A : Around) : Prop where
  hd : A.handled = none
  dp : A.depth + 3 * k + 5 < recursionLimit
  un : A.units + 16 * k + 200 < cLine
theorem Room.mono {j k : Nat} {A : Around} (r : Room k A) (h : j ≤ k) : Room j A := ⟨r.hd, by have := r.dp; omega, by have := r.un; omega⟩
theorem Room.deeper {k : Nat} {A : Around} (r : Room (k + 1) A) (env : Env) : Room k (A.deeper env) :=
  ⟨r.hd, by have := r.dp; show A.depth + 1 + 3 * k + 5 < _; omega, by have := r.un; show A.units + 3 + 16 * k + 200 < _; omega⟩
theorem make_depth {A : Around} {C : Addr} {us : List Value} {kw : List (Str × Value)} : (A.under (.builtin "type.__call__" ⟨.ref C :: us, kw⟩)).depth = A.depth + 1 := by
  first | rfl | simp [Around.under, Code.weight, Code.isCreation, Code.isGuard, Code.isCaller, Code.frames, Code.isFrame, guardIds]
theorem make_units {A : Around} {C : Addr} {us : List Value} {kw : List (Str × Value)} : (A.under (.builtin "type.__call__" ⟨.ref C :: us, kw⟩)).units = A.units + 1 := by
  first | rfl | simp [Around.under, Code.cUnits, Code.frames, Code.isFrame]
theorem Room.make {k : Nat} {A : Around} (r : Room (k + 1) A) (C : Addr) (us : List Value) (kw : List (Str × Value)) : Room k (A.under (.builtin "type.__call__" ⟨.ref C :: us, kw⟩)) :=
  ⟨r.hd, by have := r.dp; rw [make_depth]; omega, by have := r.un; rw [make_units]; omega⟩
theorem Room.depth {k : Nat} {A : Around} (r : Room k A) : A.depth < recursionLimit := by have := r.dp; omega
theorem Room.units {k : Nat} {A : Around} (r : Room k A) : A.units + 64 < cLine := by have := r.un; omega
/-! ### argument lists and displays -/
def tNil : TA := fun _ H Q => Q [] H
def tCons (ta : TE) (tr : TA) : TA := fun σ H Q => ta σ H fun x H1 => tr σ H1 fun xs H2 => Q (x :: xs) H2
section
variable {X : Cx} {e : Expr} {es : List Expr} {te : TE} {t : TA} {pos : Pos}
theorem pa_nil : PA X [] tNil := fun _ _ _ _ H Q I h => Calls.spliced_nil ⟨[], H, I, .nil, h⟩
theorem pa_cons (ha : PE X e te) (hr : PA X es t) (hs : starEach (e :: es) X.env = (false, eval e X.env) :: starEach es X.env := by rfl) : PA X (e :: es) (tCons te t) := by
  intro pos pins s σ H Q I h
  rw [hs]
  show wpAny _ _ (spliced ((false, eval e X.env) :: backTo pos (starEach es X.env))) _ _ s
  refine Calls.spliced_cons (thn (ha pins s σ H _ I h) fun u s1 ⟨x, H1, I1, r1, q1⟩ => ?_)
  exact thn (hr pos pins s1 σ H1 _ I1 q1) fun us s2 ⟨xs, H2, I2, r2, q2⟩ => ⟨x :: xs, H2, I2, .cons r1 r2, q2⟩

/-- a tuple, a list of written items -/
def tTup (t : TA) : TE := fun σ H Q => t σ H fun xs H1 => xs.length ≤ sizeLine ∧ ∀ p, H1 p = none → Q (.ref p) (upd H1 p (.tup xs))
def tLst (t : TA) : TE := fun σ H Q => t σ H fun xs H1 => xs.length ≤ sizeLine ∧ ∀ p, H1 p = none → Q (.ref p) (upd H1 p (.lst xs))
theorem pe_tup {x1} (h : PA X es t) : PE X (.Tuple es x1 pos) (tTup t) := by
  intro pins s σ H Q I hq
  refine wpAny_Tuple_spliced (thn (h pos pins s σ H _ I hq) fun us s1 ⟨xs, H1, I1, r, z, q⟩ => ⟨by rw [← r.length]; exact z, ?_⟩)
  have hf : H1 s1.heap.objs.size = none := I1.hok.fresh (Nat.le_refl _)
  refine ⟨.ref s1.heap.objs.size, upd H1 s1.heap.objs.size (.tup xs), I1.laid (t' := s1.toks) (fun b u e => Heap.get?_push_of_some _ e) (Nat.le_refl _) ?_, rfl, q _ hf⟩
  exact ⟨z, us, r, ⟨_, Heap.get?_push_size _ rfl, rfl, _, rfl⟩⟩
theorem pe_lst (h : PA X es t) : PE X (.List es pos) (tLst t) := by
  intro pins s σ H Q I hq
  refine wpAny_List_spliced (thn (h pos pins s σ H _ I hq) fun us s1 ⟨xs, H1, I1, r, z, q⟩ => ⟨by rw [← r.length]; exact z, ?_⟩)
  have hf : H1 s1.heap.objs.size = none := I1.hok.fresh (Nat.le_refl _)
  refine ⟨.ref s1.heap.objs.size, upd H1 s1.heap.objs.size (.lst xs), I1.laid (t' := s1.toks) (fun b u e => Heap.get?_push_of_some _ e) (Nat.le_refl _) ?_, rfl, q _ hf⟩
  exact ⟨z, us, 0, r, Heap.get?_push_size _ rfl⟩
end

/-! ### what a def promises -/
/-- a def's promise: the bound arguments in the parameters' order, the heap, the wanted end, the wanted exception -/
abbrev Sp := List V → Hp → VK → XK → Prop
/-- how an exception lies behind a call (file 08 gives it): the callers' frames, abstract heap and state ahead of the call, the wish, the exception, the state -/
abbrev CXT := List Env → Hp → Shared → XK → Value → Shared → Prop

/-- the state at a call -/
structure Env0 (P : Program) (w : World) (K : PySem.W.Frag) (mg : Str → Option Value) (base : Heap) (A : Around) (outer : List Env) (s : Shared) (H : Hp) : Prop where
  frames : A.frames = some outer
  mod : Mod K mg base
  bs : ∀ b o, base.get? b = some o → s.heap.get? b = some o ∧ H b = none
  bsz : base.objs.size ≤ s.heap.objs.size
  funs : s.heap.FunFrames base outer
  frf : ∀ b ∈ frs outer, H b = none
  hok : HOk P w H s.heap
  bare : AllBare s.gens
/-- a call's end -/
def CE (outer : List Env) (P : Program) (w : World) (H : Hp) (s : Shared) (Q : VK) (u : Value) (s' : Shared) : Prop :=
  ∃ v H', s'.os = s.os ∧ AllBare s'.gens ∧ Un (frs outer) [] H H' s.heap s'.heap ∧ HOk P w H' s'.heap ∧ RelV v u ∧ Q v H'
def CR (CX : CXT) (outer : List Env) (P : Program) (w : World) (H : Hp) (s : Shared) (Q : VK) (E : XK) (r : Result) (s' : Shared) : Prop :=
  match r with
  | .ok (.ret u) => CE outer P w H s Q u s'
  | .ok _ => False
  | .error e => CX outer H s E e s'
structure FnOk (P : Program) (w : World) (K : PySem.W.Frag) (mg : Str → Option Value) (base : Heap) (CX : CXT) (k : Nat) (f : Addr) (fd : FuncData) (ps : List Str) (sp : Sp) : Prop where
  len : ∀ vs H Q E, sp vs H Q E → vs.length = ps.length
  run : ∀ (A : Around) (outer : List Env) (s : Shared) (H : Hp) (args : Args) (us : List Value) (vs : List V) (Q : VK) (E : XK), Room k A → Env0 P w K mg base A outer s H → BindsTo s fd args (ps.zip us) → Vals vs us → sp vs H Q E →
    codeAny (model P w) A (.call (.ref f) args) (CR CX outer P w H s Q E) s
/-- a weaker promise -/
theorem FnOk.imp {P : Program} {w : World} {K : PySem.W.Frag} {mg : Str → Option Value} {base : Heap} {CX : CXT} {k : Nat} {f : Addr} {fd : FuncData} {ps : List Str} {sp sp' : Sp} (F : FnOk P w K mg base CX k f fd ps sp)
    (h : ∀ vs H Q E, sp' vs H Q E → sp vs H Q E) : FnOk P w K mg base CX k f fd ps sp' :=
  ⟨fun vs H Q E q => F.len vs H Q E (h _ _ _ _ q), fun A outer s H args us vs Q E hr he hb hv hs => F.run A outer s H args us vs Q E hr he hb hv (h _ _ _ _ hs)⟩

theorem Env0.make {P : Program} {w : World} {K : PySem.W.Frag} {mg : Str → Option Value} {base : Heap} {A : Around} {outer : List Env} {s : Shared} {H : Hp} (e : Env0 P w K mg base A outer s H) (C : Addr) (us : List Value) (kw : List (Str × Value)) :
    Env0 P w K mg base (A.under (.builtin "type.__call__" ⟨.ref C :: us, kw⟩)) outer s H := ⟨by first | exact e.frames | (simpa [Around.under, Code.envs, Code.isFrame, pushEnvs] using e.frames), e.mod, e.bs, e.bsz, e.funs, e.frf, e.hok, e.bare⟩
section
variable {X : Cx} {pins : List (Addr × Obj)} {σ : St} {H : Hp} {s s' : Shared}
/-- from a body: what a callee wants -/
theorem Inv.env0 (I : Inv X pins σ H s) : Env0 X.prog X.w X.K X.mg X.base X.A X.stack s H :=
  ⟨I.ok.frames, I.ok.mod, I.bs, Nat.le_trans I.ok.bsz I.sz, I.stack, I.stkFree, I.hok, I.bare⟩
/-- behind a call -/
theorem Inv.after {Q : VK} {u : Value} (I : Inv X pins σ H s) (h : CE X.stack X.prog X.w H s Q u s') : EP X pins σ Q u s' := by
  obtain ⟨v, H', os, bare, un, hok, r, q⟩ := h
  obtain ⟨hh, g, d, t, os'⟩ := s'
  obtain rfl : os' = s.os := os
  exact ⟨v, H', I.call (h' := hh) (g' := g) (d' := d) (t' := t) (ch := []) un hok bare (fun b z => absurd z (by simp)), r, q⟩
end

/-! ### calls -/
/-- f(..): the written arguments, then the defaults dvs; E: what is wanted of an exception -/
def tCall (sp : Sp) (dvs : List V) (E : XK) (t : TA) : TE := fun σ H Q => t σ H fun vs H1 => sp (vs ++ dvs) H1 Q E
/-- C(..): a new instance and its dict, then __init__ -/
def tMake (C : Addr) (sp : Sp) (dvs : List V) (E : XK) (t : TA) : TE := fun σ H Q => t σ H fun vs H1 => ∀ x dx, H1 x = none → H1 dx = none → dx ≠ x →
  sp (.ref x :: (vs ++ dvs)) (upd (upd H1 dx (.own x)) x (.ins C dx [])) (fun v H2 => v = .non ∧ Q (.ref x) H2) E

/-- how the parameters are bound: us the positional arguments, kw the keywords' values by name, ds the defaults that fill up -/
def Binds (K : PySem.W.Frag) (fd : FuncData) (ps : List Str) (ds : List Value) : Prop :=
  ∀ (s : Shared) (us : List Value), K.In s.heap → (us ++ ds).length = ps.length → BindsTo s fd ⟨us, []⟩ (ps.zip (us ++ ds))
/-- every parameter is given -/
theorem Binds.all {K : PySem.W.Frag} {fd : FuncData} {ps : List Str} (h : ∀ us : List Value, us.length = ps.length → bindArgs fd ⟨us, []⟩ = pure (ps.zip us)) : Binds K fd ps [] := fun s us _ hl => by
  rw [List.append_nil] at hl ⊢
  exact .of_eq (h us hl)

/-- an exception of a callee reaches what this body wants of exceptions -/
def Passes (CX : CXT) (X : Cx) (E : XK) : Prop := ∀ (pins : List (Addr × Obj)) (σ : St) (H : Hp) (s : Shared) (e : Value) (s' : Shared), Inv X pins σ H s → CX X.stack H s E e s' → X.xe e s'

section
variable {X : Cx} {CX : CXT} {k : Nat} {f C : Addr} {fd : FuncData} {ps : List Str} {sp : Sp} {dvs : List V} {ds : List Value} {E : XK} {x m : Str} {p pos apos : Pos} {e o : Expr} {es : List Expr} {ta : TE} {t : TA}

/-- the callee runs -/
theorem run_fn {pins : List (Addr × Obj)} {σ : St} {H : Hp} {s : Shared} {Q : VK} {us : List Value} {vs : List V} (F : FnOk X.prog X.w X.K X.mg X.base CX k f fd ps sp) (hr : Room k X.A) (hb : Binds X.K fd ps ds) (hd : Vals dvs ds) (hx : Passes CX X E)
    (I : Inv X pins σ H s) (r : Vals vs us) (h : sp (vs ++ dvs) H Q E) : wpAny (model X.prog X.w) X.A (call (.ref f) us) (EP X pins σ Q) X.xe s := by
  have r2 : Vals (vs ++ dvs) (us ++ ds) := r.append hd
  have hl : (us ++ ds).length = ps.length := by rw [← r2.length]; exact F.len _ _ _ _ h
  refine wpAny_call (codeAny_mono (F.run X.A X.stack s H ⟨us, []⟩ (us ++ ds) (vs ++ dvs) Q E hr I.env0 (hb s us I.kIn hl) r2 h) fun r s' hq => ?_)
  cases r with
  | error e => exact hx pins σ H s e s' I hq
  | ok fl =>
    cases fl with
    | ret u => exact I.after hq
    | next => exact False.elim hq
    | brk => exact False.elim hq
    | cont => exact False.elim hq

theorem pe_call (F : FnOk X.prog X.w X.K X.mg X.base CX k f fd ps sp) (hr : Room k X.A) (hg : Gl X x) (hm : X.mg x = some (.ref f)) (hk : PySem.W.keepIn X.K (.ref f) = true) (hb : Binds X.K fd ps ds) (hd : Vals dvs ds) (hx : Passes CX X E)
    (ha : PA X (e :: es) t) (hdb : (x == ("__debug__" : Str)) = false := by decide) (he : starEach (e :: es) X.env = (false, eval e X.env) :: starEach es X.env := by rfl) (hpl : (backTo pos (starEach es X.env)).any (·.1) = false := by rfl) :
    PE X (.Call (.Name x p) (e :: es) [] pos) (tCall sp dvs E t) := by
  intro pins s σ H Q I h
  refine wpAny_Call_Name_kw (ld_glob I hg hm ?_ hdb)
  refine PySem.W.callWith_K (h₀ := X.base) I.ok.mod.kin hk (thn (ha pos pins s σ H _ I h) fun us s1 ⟨vs, H1, I1, r, q⟩ => ⟨I1.kIn, ?_⟩) he hpl
  exact run_fn F hr hb hd hx I1 r q
/-- what a class must have to be made -/
structure Mk (K : PySem.W.Frag) (C f : Addr) : Prop where
  makes : PySem.W.makesIn K C = true
  init : PySem.W.findIn K (.ref C) "__init__" = some (some (.ref f))
  fn : PySem.W.isFn K (.ref f) = true
  kp : PySem.W.keepIn K (.ref C) = true

theorem run_make {pins : List (Addr × Obj)} {σ : St} {H : Hp} {s : Shared} {Q : VK} {us : List Value} {vs : List V} (M : Mk X.K C f) (F : FnOk X.prog X.w X.K X.mg X.base CX k f fd ps sp) (hr : Room (k + 1) X.A) (hb : Binds X.K fd ps ds) (hd : Vals dvs ds)
    (hx : Passes CX X E) (I : Inv X pins σ H s) (r : Vals vs us)
    (h : ∀ x dx, H x = none → H dx = none → dx ≠ x → sp (.ref x :: (vs ++ dvs)) (upd (upd H dx (.own x)) x (.ins C dx [])) (fun v H2 => v = .non ∧ Q (.ref x) H2) E) :
    wpAny (model X.prog X.w) X.A (call (.ref C) us) (EP X pins σ Q) X.xe s := by
  have hq := h (s.heap.objs.size + 1) s.heap.objs.size (I.hok.fresh (Nat.le_succ _)) (I.hok.fresh (Nat.le_refl _)) (Nat.ne_of_lt (Nat.lt_succ_self _))
  have I2 := Inv.made (C := C) I
  have r2 : Vals (V.ref (s.heap.objs.size + 1) :: (vs ++ dvs)) (Value.ref (s.heap.objs.size + 1) :: (us ++ ds)) := .cons rfl (r.append hd)
  have hl : (Value.ref (s.heap.objs.size + 1) :: us ++ ds).length = ps.length := by
    have e := r2.length
    rw [F.len _ _ _ _ hq] at e
    exact e.symm
  refine wpAny_call (make_map (f := f) I.kIn M.makes M.init (beq_iff_eq.mp M.fn) (codeAny_mono (F.run _ X.stack _ _ ⟨Value.ref (s.heap.objs.size + 1) :: us, []⟩ (Value.ref (s.heap.objs.size + 1) :: (us ++ ds)) _ _ E (hr.make C us [])
    (I2.env0.make C us []) (hb _ (Value.ref (s.heap.objs.size + 1) :: us) I2.kIn hl) r2 hq) fun r s' hq' => ?_))
  cases r with
  | error e => exact hx pins σ _ _ e s' I2 hq'
  | ok fl =>
    cases fl with
    | ret u =>
      obtain ⟨v, H', I3, rv, ev, q3⟩ := I2.after hq'
      subst ev
      exact ⟨rv, ⟨V.ref (s.heap.objs.size + 1), H', I3, rfl, q3⟩⟩
    | next => exact False.elim hq'
    | brk => exact False.elim hq'
    | cont => exact False.elim hq'
theorem pe_make (M : Mk X.K C f) (F : FnOk X.prog X.w X.K X.mg X.base CX k f fd ps sp) (hr : Room (k + 1) X.A) (hg : Gl X x) (hm : X.mg x = some (.ref C)) (hb : Binds X.K fd ps ds) (hd : Vals dvs ds) (hx : Passes CX X E)
    (ha : PA X (e :: es) t) (hdb : (x == ("__debug__" : Str)) = false := by decide) (he : starEach (e :: es) X.env = (false, eval e X.env) :: starEach es X.env := by rfl) (hpl : (backTo pos (starEach es X.env)).any (·.1) = false := by rfl) :
    PE X (.Call (.Name x p) (e :: es) [] pos) (tMake C sp dvs E t) := by
  intro pins s σ H Q I h
  refine wpAny_Call_Name_kw (ld_glob I hg hm ?_ hdb)
  refine PySem.W.callWith_K (h₀ := X.base) I.ok.mod.kin M.kp (thn (ha pos pins s σ H _ I h) fun us s1 ⟨vs, H1, I1, r, q⟩ => ⟨I1.kIn, ?_⟩) he hpl
  exact run_make M F hr hb hd hx I1 r q
end

/-! ### keywords -/
section
variable {X : Cx} {CX : CXT} {k : Nat} {f C : Addr} {fd : FuncData} {ps ks : List Str} {sp : Sp} {E : XK} {x m : Str} {p pos apos kpos : Pos} {e o : Expr} {es : List Expr} {kws : List Keyword} {te ta : TE} {t tk : TA} {nm : Option Str}
/-- how a call with keywords binds: g puts the positional values us and the keywords' values ws (names ks) in the parameters' order, defaults among them -/
structure KBinds (K : PySem.W.Frag) (fd : FuncData) (ps ks : List Str) (g : List Value → List Value → List Value) (gV : List V → List V → List V) : Prop where
  to : ∀ (s : Shared) (us ws : List Value), K.In s.heap → (g us ws).length = ps.length → BindsTo s fd ⟨us, ks.zip ws⟩ (ps.zip (g us ws))
  rel : ∀ {vs : List V} {us : List Value} {zs : List V} {ws : List Value}, Vals vs us → Vals zs ws → Vals (gV vs zs) (g us ws)
variable {g : List Value → List Value → List Value} {gV : List V → List V → List V}
end

/-! ### a def's body keeps its promise -/
/-- names: the parameters first -/
structure FnScope (N P : List Str) (sc : Scope) : Prop where
  kind : sc.kind = .function
  co : sc.isCoroutine = false
  gen : sc.isGenerator = false
  nd : N.Nodup
  pre : N.take P.length = P
  par : ∀ x ∈ P, sc.names.lookup x = some .local ∨ sc.names.lookup x = some .cell
  nofree : ∀ y ∈ sc.names, y.2 ≠ .free

theorem bindL_out {kindOf : Str → Option NameKind} {x : Str} : ∀ {binds : List (Str × Value)} {m : Str → Option Value}, (∀ v, (x, v) ∉ binds) → bindL kindOf binds m x = m x
  | [], _, _ => rfl
  | (n, v) :: r, m, h => by
    unfold bindL
    rw [bindL_out fun w hw => h w (List.mem_cons_of_mem _ hw)]
    split
    · have : x ≠ n := by rintro rfl; exact h v List.mem_cons_self
      simp [this]
    · rfl
theorem bindC_out {kindOf : Str → Option NameKind} {x : Str} : ∀ {binds : List (Str × Value)} {m : Str → Option Value}, (∀ v, (x, v) ∉ binds) → bindC kindOf binds m x = m x
  | [], _, _ => rfl
  | (n, v) :: r, m, h => by
    unfold bindC
    rw [bindC_out fun w hw => h w (List.mem_cons_of_mem _ hw)]
    split
    · rfl
    · have : x ≠ n := by rintro rfl; exact h v List.mem_cons_self
      simp [this]
theorem bindL_get {kindOf : Str → Option NameKind} {x : Str} {v : Value} : ∀ {P : List Str} {vs : List Value} {i : Nat} {m : Str → Option Value}, P.Nodup → P[i]? = some x → vs[i]? = some v → kindOf x = some .local →
    bindL kindOf (P.zip vs) m x = some v
  | [], _, _, _, _, h, _, _ => by simp at h
  | _ :: _, [], _, _, _, _, h, _ => by simp at h
  | p :: P, w :: vs, 0, m, nd, h1, h2, hk => by
    simp at h1 h2; subst h1; subst h2
    show bindL kindOf ((p, w) :: P.zip vs) m p = _
    unfold bindL
    rw [bindL_out fun v hv => (List.nodup_cons.mp nd).1 (List.of_mem_zip hv).1, if_pos hk]
    simp
  | p :: P, w :: vs, i + 1, m, nd, h1, h2, hk => by
    show bindL kindOf ((p, w) :: P.zip vs) m x = _
    unfold bindL
    exact bindL_get (i := i) (List.nodup_cons.mp nd).2 (by simpa using h1) (by simpa using h2) hk
theorem bindC_get {kindOf : Str → Option NameKind} {x : Str} {v : Value} : ∀ {P : List Str} {vs : List Value} {i : Nat} {m : Str → Option Value}, P.Nodup → P[i]? = some x → vs[i]? = some v → kindOf x ≠ some .local →
    bindC kindOf (P.zip vs) m x = some v
  | [], _, _, _, _, h, _, _ => by simp at h
  | _ :: _, [], _, _, _, _, h, _ => by simp at h
  | p :: P, w :: vs, 0, m, nd, h1, h2, hk => by
    simp at h1 h2; subst h1; subst h2
    show bindC kindOf ((p, w) :: P.zip vs) m p = _
    unfold bindC
    rw [bindC_out fun v hv => (List.nodup_cons.mp nd).1 (List.of_mem_zip hv).1, if_neg hk]
    simp
  | p :: P, w :: vs, i + 1, m, nd, h1, h2, hk => by
    show bindC kindOf ((p, w) :: P.zip vs) m x = _
    unfold bindC
    exact bindC_get (i := i) (List.nodup_cons.mp nd).2 (by simpa using h1) (by simpa using h2) hk

/-- the names' values at the entry -/
def start (N : List Str) (vs : List V) : St := vs.map some ++ List.replicate (N.length - vs.length) none

/-- the context of a def's body, at its entry; an exception leaves the frame, then lies as CX says -/
def cxOf (CX : CXT) (P : Program) (w : World) (K : PySem.W.Frag) (mg : Str → Option Value) (base : Heap) (N : List Str) (qual : Str) (scope : Scope) (f : Addr) (cd : Value) (A : Around) (outer : List Env) (s : Shared) (H : Hp) (E : XK) : Cx where
  prog := P
  w := w
  K := K
  mg := mg
  base := base
  A := A.deeper (envOfC qual scope s.heap.objs.size f cd)
  N := N
  s_0 := s
  H_0 := H
  env := envOfC qual scope s.heap.objs.size f cd
  outer := outer
  stack := envOfC qual scope s.heap.objs.size f cd :: outer
  ex := []
  calm := true
  fn := fun _ => true
  pn := []
  xe := fun e s' => wpAny (model P w) (A.deeper (envOfC qual scope s.heap.objs.size f cd)) (leaving (envOfC qual scope s.heap.objs.size f cd) e) (fun _ s'' => CX outer H s E e s'') (fun e' s'' => CX outer H s E e' s'') s'

theorem cell_has {sc : Scope} {n : Nat} {x : Str} (h : sc.names.lookup x = some .cell) : ∃ c, (cellsFrom n sc.names []).lookup x = some c := by
  have q := PySem.W.cellsFrom_some sc.names n [] (.inl h)
  exact Option.isSome_iff_exists.mp q

theorem inv_start {CX : CXT} {P : Program} {w : World} {K : PySem.W.Frag} {mg : Str → Option Value} {base : Heap} {N ps : List Str} {qual : Str} {scope : Scope} {f : Addr} {cd : Value} {A : Around} {outer : List Env} {s s1 : Shared} {H : Hp} {E : XK} {us : List Value} {vs : List V}
    (S : FnScope N ps scope) (hd : A.handled = none) (e0 : Env0 P w K mg base A outer s H) (hl : vs.length = ps.length) (r : Vals vs us)
    (x : InCallC s s.heap.objs.size (bindL (envOfC qual scope s.heap.objs.size f cd).kindOf (ps.zip us) fun _ => none) (cellsFrom (s.heap.objs.size + 1) scope.names []) (bindC (envOfC qual scope s.heap.objs.size f cd).kindOf (ps.zip us) fun _ => none) s1) :
    Inv (cxOf CX P w K mg base N qual scope f cd A outer s H E) [] (start N vs) H s1 := by
  have hpl : ps.length ≤ N.length := by have := congrArg List.length S.pre; rw [List.length_take] at this; omega
  obtain ⟨h1, tk, rfl, hk⟩ := x.done
  have noA : ∀ b : Addr, b ∉ (cxOf CX P w K mg base N qual scope f cd A outer s H E).ex := fun b z => absurd (show b ∈ ([] : List Addr) from z) (by simp)
  refine ⟨⟨e0.mod, S.kind, rfl, rfl, Nat.le_refl _, fun y z c h1 h2 => ?_, fun y hy => ?_, fun y c _ h => ?_, fun _ => hd, Around.frames_deeper e0.frames, .inr ⟨rfl, rfl⟩, fun b z => absurd z (noA b), e0.bs, e0.bsz, fun b _ _ => noA b, fun b z => absurd z (noA b), e0.funs, e0.frf⟩,
    rfl, e0.bare, Un.kept hk, ⟨_, x.toInCall.ns, fun i y v h1 h2 h3 => ?_⟩, fun y c h => ⟨_, x.cell y c h⟩, e0.hok.fresh (Nat.le_refl _), fun y c h => ?_, fun p hp => absurd (show p ∈ ([] : List (Addr × Obj)) from hp) (by simp), e0.hok.kept hk, ?_⟩
  · exact name_of_addr x.apart (PySem.mem_of_lookup h1) (PySem.mem_of_lookup h2)
  · have hy : scope.names.lookup y = some .cell ∨ scope.names.lookup y = some .free := hy
    rcases hy with hy | hy
    · exact cell_has hy
    · exact absurd rfl (S.nofree _ (PySem.mem_of_lookup hy))
  · exact Nat.le_of_lt (x.above y c (PySem.mem_of_lookup h))
  · have hi : i < vs.length := by
      unfold start at h2
      by_cases hi : i < vs.length
      · exact hi
      · rw [List.getElem?_append_right (by simpa using hi)] at h2
        rw [List.getElem?_replicate] at h2
        split at h2 <;> cases h2
    have ha : vs[i]? = some v := by
      unfold start at h2
      rw [List.getElem?_append_left (by simpa using hi), List.getElem?_map] at h2
      cases e : vs[i]? with
      | none => rw [e] at h2; cases h2
      | some a => rw [e] at h2; cases h2; rfl
    obtain ⟨u, hu, rv⟩ := r.get ha
    have hp : ps[i]? = some y := by
      rw [← S.pre, List.getElem?_take_of_lt (by omega)]; exact h1
    have ndP : ps.Nodup := by rw [← S.pre]; exact S.nd.sublist (List.take_sublist _ _)
    refine ⟨u, rv, ?_⟩
    rcases S.par y (List.mem_of_getElem? hp) with k | k
    · exact .inl ⟨k, bindL_get ndP hp hu k⟩
    · obtain ⟨c, e⟩ := cell_has (n := s.heap.objs.size + 1) k
      refine .inr ⟨.inl k, c, e, ?_⟩
      have q := x.cell y c e
      rw [bindC_get ndP hp hu (by show scope.names.lookup y ≠ _; rw [k]; decide)] at q
      exact q
  · exact e0.hok.fresh (Nat.le_of_lt (x.above y c (PySem.mem_of_lookup h)))
  · unfold start
    show _ = N.length
    rw [List.length_append, List.length_map, List.length_replicate]
    omega

/-- THE RULE: a def (or a method) of the text, by its body. The body's reading t is chosen for each entry; it is run at the parameters' values -/
theorem fn_of {CX : CXT} {P : Program} {w : World} {K : PySem.W.Frag} {mg : Str → Option Value} {base : Heap} {k : Nat} {f : Addr} {name qual : Str} {params : Arguments} {body : List Stmt} {scope : Scope} {dV kV doc pm cdv ct oc : Value} {an od : Option Addr}
    {osl : Array (Option Value)} {N ps : List Str} {sp : Sp} (lk : K.lookup f = some ⟨oc, od, .func (PySem.W.fnOf name qual params body scope dV kV doc pm an cdv ct), osl⟩) (hcd : PySem.W.codeIn K cdv qual = true) (S : FnScope N ps scope)
    (len : ∀ vs H Q E, sp vs H Q E → vs.length = ps.length)
    (hbody : ∀ (A : Around) (outer : List Env) (s : Shared) (H : Hp) (vs : List V) (Q : VK) (E : XK), Room k (A.deeper (envOfC qual scope s.heap.objs.size f cdv)) → sp vs H Q E →
      ∃ t, PSs (cxOf CX P w K mg base N qual scope f cdv A outer s H E) body t ∧ t { nx := fun _ H' => Q .non H', rt := Q } (start N vs) H) :
    FnOk P w K mg base CX (k + 1) f (PySem.W.fnOf name qual params body scope dV kV doc pm an cdv ct) ps sp := by
  refine ⟨len, fun A outer s H args us vs Q E hr e0 hb r hsp => ?_⟩
  have hl := len _ _ _ _ hsp
  have KX : K.In s.heap := e0.mod.kin.keeps fun b o e => (e0.bs b o e).1
  have lim : s.heap.NoLimit := e0.mod.nolimit.keeps fun b o e => (e0.bs b o e).1
  have hkind : ∀ y ∈ ps.zip us, scope.names.lookup y.1 = some .local ∨ (scope.names.lookup y.1 = some .cell ∧ ((cellsFrom (s.heap.objs.size + 1) scope.names []).lookup y.1).isSome = true) := fun ⟨n, v⟩ hy => by
    rcases S.par n (List.of_mem_zip hy).1 with q | q
    · exact .inl q
    · exact .inr ⟨q, PySem.W.cellsFrom_some _ _ _ (.inl q)⟩
  refine codeAny_call_function hr.depth (KX _ _ lk) rfl S.co S.gen rfl (PySem.W.codeRec_of KX hcd) (hb _ _ _ _ ?_)
  refine wpAny_newFunctionEnv_cells S.kind hkind fun env he s1 x => ?_
  subst he
  refine ⟨lim.keeps x.toInCall.keep, codeAny_func ?_⟩
  obtain ⟨t, ht, hq⟩ := hbody A outer s H vs Q E (hr.deeper _) hsp
  have I : Inv (cxOf CX P w K mg base N qual scope f cdv A outer s H E) [] (start N vs) H s1 := inv_start S hr.hd e0 hl r x
  refine wpAny_mono (ht [] s1 (start N vs) H _ I hq) (fun fl s' hs => ?_) fun e s' hs => hs
  have fin : ∀ {σ' : St} {H' : Hp} {v : V} {u : Value}, Inv (cxOf CX P w K mg base N qual scope f cdv A outer s H E) [] σ' H' s' → RelV v u → Q v H' → CE outer P w H s Q u s' :=
    fun {σ' H' v u} J rv q => ⟨v, H', J.os, J.bare, J.base, J.hok, rv, q⟩
  cases fl with
  | ret u =>
    obtain ⟨v, σ', H', J, rv, q⟩ := hs
    exact fin J rv q
  | next =>
    obtain ⟨σ', H', J, q⟩ := hs
    exact fin (v := V.non) (u := Value.none) J rfl q
  | brk =>
    obtain ⟨_, _, _, q⟩ := hs
    exact False.elim q
  | cont =>
    obtain ⟨_, _, _, q⟩ := hs
    exact False.elim q
end L2

namespace L2
open PySem PySem.Spec PyProof.Rows
section
variable {X : Cx} {x : Str} {p pos : Pos} {e : Expr} {es : List Expr} {t : TA} {id T : String} {r : List V → Hp → VK → Prop}

def tCB (r : List V → Hp → VK → Prop) (t : TA) : TE := fun σ H Q => t σ H fun vs H1 => r vs H1 Q
/-- f(e, ..), f a built-in function -/
theorem pe_callB (hc : CallR X (.builtin id) r) (hg : Gl X x) (hm : X.mg x = none) (hv : bootBuiltins x = some (.builtin id)) (ha : PA X (e :: es) t) (hn : x ≠ "__name__" := by decide) (hdb : (x == ("__debug__" : Str)) = false := by decide)
    (he : starEach (e :: es) X.env = (false, eval e X.env) :: starEach es X.env := by rfl) (hpl : (backTo pos (starEach es X.env)).any (·.1) = false := by rfl) : PE X (.Call (.Name x p) (e :: es) [] pos) (tCB r t) := by
  intro pins s σ H Q I h
  refine wpAny_Call_Name_kw (ld_blt I hg hm hv ?_ hn hdb)
  exact PyProof.Rows.callWith_builtin1 (thn (ha pos pins s σ H _ I h) fun us s1 ⟨vs, H1, I1, r1, q1⟩ => hc pins s1 σ H1 vs us Q I1 r1 q1) he hpl
/-- T(e, ..), T a built-in type -/
theorem pe_callTy (hc : CallR X (.type T) r) (hg : Gl X x) (hm : X.mg x = none) (hv : bootBuiltins x = some (.type T)) (ha : PA X (e :: es) t) (hn : x ≠ "__name__" := by decide) (hdb : (x == ("__debug__" : Str)) = false := by decide)
    (he : starEach (e :: es) X.env = (false, eval e X.env) :: starEach es X.env := by rfl) (hpl : (backTo pos (starEach es X.env)).any (·.1) = false := by rfl) : PE X (.Call (.Name x p) (e :: es) [] pos) (tCB r t) := by
  intro pins s σ H Q I h
  refine wpAny_Call_Name_kw (ld_blt I hg hm hv ?_ hn hdb)
  exact PyProof.Rows.callWith_type1 (thn (ha pos pins s σ H _ I h) fun us s1 ⟨vs, H1, I1, r1, q1⟩ => hc pins s1 σ H1 vs us Q I1 r1 q1) he hpl
end
end L2

namespace HT
open PySem PyProof.Rows

section
open PySem.SeqAt
open PySem.AutoSeq1 (wpAny_loadPart')
open PySem.MeetsSeq PySem.MeetsSeq2 PySem.MeetsSeq3

end

section
variable {prog : Program} {w : World} {A : Around} {E : Value → Shared → Prop} {s : Shared}

/-- t + u, t not empty -/
theorem cat_tup {t b : Addr} {vs ws : List Value} {Q : Value → Shared → Prop} (ht : IsTup s.heap t vs.toArray) (hb : IsTup s.heap b ws.toArray) (hv : vs ≠ [])
    (h1 : ws = [] → Q (.ref t) s) (h2 : ws ≠ [] → Q (.ref s.heap.objs.size) { s with heap := s.heap.push { cls := .type "tuple", data := .seq (vs ++ ws).toArray } })
    (hsz : vs.length + ws.length ≤ sizeLine) : wpAny (model prog w) A (binaryOp .Add (.ref t) (.ref b)) Q E s := by
  obtain ⟨⟨cls, dd, data, sl⟩, ho, hc, n, hd⟩ := id ht
  obtain ⟨⟨cls2, dd2, data2, sl2⟩, ho2, hc2, n2, hd2⟩ := id hb
  simp only at hc hd hc2 hd2
  subst hc hd hc2 hd2
  have e : vs.toArray ++ ws.toArray = (vs ++ ws).toArray := by simp
  by_cases hw : ws = []
  · exact concat_meets ⟨_, ho, rfl⟩ ⟨_, ho2, rfl⟩ noFill_tuple_add seq_tuple_add PySem.F.slot_tuple_add PySem.F.entry_tuple_add (PySem.F.args_tuple_add_2 _ _)
      (tuple_addW1 t b vs.toArray ws.toArray n n2 dd dd2 sl sl2 (by simpa using hv) (by simp [hw])) ⟨ho, ho2, h1 hw⟩
  · refine concat_meets ⟨_, ho, rfl⟩ ⟨_, ho2, rfl⟩ noFill_tuple_add seq_tuple_add PySem.F.slot_tuple_add PySem.F.entry_tuple_add (PySem.F.args_tuple_add_2 _ _)
      (tuple_addW2 t b vs.toArray ws.toArray n n2 dd dd2 sl sl2 (by simpa using hv) (by simpa using hw) (by rw [List.size_toArray, List.size_toArray]; exact hsz)) ⟨ho, ho2, ?_⟩
    rw [e]
    exact h2 hw

/-! ### t[a:b], not the whole -/
/-- a slice's bound as a place among n (d where it is left out) -/
def sIx (n d : Nat) : Option Int → Nat
  | none => d
  | some v => if v < 0 then (v + (n : Int)).toNat else min v.toNat n
theorem sIx_nat (n d k : Nat) : sIx n d (some (k : Int)) = min k n := by
  show (if (k : Int) < 0 then ((k : Int) + (n : Int)).toNat else min (k : Int).toNat n) = min k n
  rw [if_neg (by omega), Int.toNat_natCast]
end
end HT

namespace L2
open PySem PySem.Spec PyProof.Rows

/-! ### the parts of a slice -/
abbrev TO := St → Hp → (Option Int → Hp → Prop) → Prop
/-- a slice's part (left out, or an int) -/
def PO (X : Cx) (e : Option Expr) (t : TO) : Prop :=
  ∀ (pins : List (Addr × Obj)) (s : Shared) (σ : St) (H : Hp) (Q : Option Int → Hp → Prop), Inv X pins σ H s → t σ H Q →
    wpAny (model X.prog X.w) X.A (evalPart e X.env) (fun u s' => ∃ o H', Inv X pins σ H' s' ∧ IsPart u o ∧ Q o H') X.xe s
def tPart (t : TE) : TO := fun σ H Q => t σ H fun x H1 => ∃ i, x = .int i ∧ Q (some i) H1

section
variable {X : Cx} {e : Expr} {te : TE} {lo hi : Option Expr} {tl th : TO} {pos p2 : Pos}

theorem po_some (h : PE X e te) : PO X (some e) (tPart te) := by
  intro pins s σ H Q I hw
  rw [evalPart_some]
  refine thn (h pins s σ H _ I hw) fun u s1 ⟨x, H1, I1, r1, q1⟩ => ?_
  obtain ⟨i, rfl, q⟩ := q1
  obtain ⟨t, rfl⟩ := r1
  exact ⟨some i, H1, I1, .int i t, q⟩

/-- what a slice of a value is, by values: the slice object stands at sl -/
def SlR (X : Cx) (r : V → Option Int → Option Int → Hp → VK → Prop) : Prop :=
  ∀ (pins : List (Addr × Obj)) (s : Shared) (σ : St) (H : Hp) (x : V) (v vl vu : Value) (lo hi : Option Int) (sl : Addr) (Q : VK), Inv X pins σ H s → RelV x v → s.heap.IsSliceOf sl vl vu .none → IsPart vl lo → IsPart vu hi → r x lo hi H Q →
    ∃ T id, typeLookup (.type T) "__getitem__" = pure (some (.builtin id)) ∧ s.TypeIs v T ∧ wpAny (model X.prog X.w) X.A (getItem v (.ref sl)) (EP X pins σ Q) X.xe s
def tSl (r : V → Option Int → Option Int → Hp → VK → Prop) (te : TE) (tl th : TO) : TE := fun σ H Q => te σ H fun x H1 => tl σ H1 fun l H2 => th σ H2 fun u H3 => r x l u H3 Q
/-- a[lo:hi], any a -/
theorem pe_slice {r : V → Option Int → Option Int → Hp → VK → Prop} (hr : SlR X r) (he : PE X e te) (hl : PO X lo tl) (hu : PO X hi th) : PE X (.Subscript e (.Slice lo hi none p2) pos) (tSl r te tl th) := by
  intro pins s σ H Q I h
  refine Subscript_ (thn (he pins s σ H _ I h) fun v s1 ⟨x, H1, I1, r1, q1⟩ => ?_)
  refine wpAny_Slice (thn (hl pins s1 σ H1 _ I1 q1) fun vl s2 ⟨l, H2, I2, pl, q2⟩ => thn (hu pins s2 σ H2 _ I2 q2) fun vu s3 ⟨u, H3, I3, pu, q3⟩ => ?_)
  rw [evalPart_none]
  refine wpAny_pure ?_
  have I4 : Inv X pins σ H3 { s3 with heap := s3.heap.push { cls := .type "slice", data := .fields #[vl, vu, .none] } } := I3.kept (t' := s3.toks) fun b ob q => Heap.get?_push_of_some _ q
  obtain ⟨T, id, hT, ht, hg⟩ := hr pins { s3 with heap := s3.heap.push { cls := .type "slice", data := .fields #[vl, vu, .none] } } σ H3 x v vl vu l u s3.heap.objs.size Q I4 r1 (Heap.IsSliceOf.new ..) pl pu q3
  show wpAny (model X.prog X.w) X.A (subscriptTail e (.Slice lo hi none p2) v (.ref s3.heap.objs.size)) (EP X pins σ Q) X.xe { s3 with heap := s3.heap.push { cls := .type "slice", data := .fields #[vl, vu, .none] } }
  exact tail_any (ops := [.ref s3.heap.objs.size, v]) ht hT hg (by with_unfolding_all rfl)

/-- the items of xs[lo:hi] -/
def cutV (xs : List V) (lo hi : Option Int) : List V := (xs.drop (HT.sIx xs.length 0 lo)).take (HT.sIx xs.length xs.length hi - HT.sIx xs.length 0 lo)
theorem cutV_length (xs : List V) (lo hi : Option Int) : (cutV xs lo hi).length ≤ xs.length := by
  unfold cutV
  rw [List.length_take, List.length_drop]
  omega
/-! ### t < u, t + u -/
/-- t + u, t not empty: u empty gives t itself -/
def rCatT (K : PySem.W.Frag) : R2 := fun x y H Q => ∃ a b xs ys, x = .ref a ∧ y = .ref b ∧ SqT K H a xs ∧ SqT K H b ys ∧ xs ≠ [] ∧ xs.length + ys.length ≤ sizeLine ∧
  (ys = [] → Q (.ref a) H) ∧ (ys ≠ [] → ∀ p, H p = none → Q (.ref p) (upd H p (.tup (xs ++ ys))))
theorem Vals.nil_iff {xs : List V} {us : List Value} (r : Vals xs us) : us = [] ↔ xs = [] := by
  cases r with
  | nil => simp
  | cons _ _ => simp
theorem op_catT : OpR X (binaryOp .Add) (rCatT X.K) := by
  intro pins s σ H x y v u Q I rx ry h
  obtain ⟨a, b, xs, ys, rfl, rfl, ha, hb, hx, hz, q1, q2⟩ := h
  cases rx
  cases ry
  obtain ⟨its, r1, p1, _⟩ := I.tuple ha
  obtain ⟨its2, r2, p2, _⟩ := I.tuple hb
  refine HT.cat_tup p1 p2 (fun z => hx (r1.nil_iff.mp z)) (fun z => ⟨.ref a, H, I, rfl, q1 (r2.nil_iff.mp z)⟩) (fun z => ?_) (by rw [← r1.length, ← r2.length]; exact hz)
  refine ⟨.ref s.heap.objs.size, _, I.laid (t' := s.toks) (o := .tup (xs ++ ys)) (fun b ob q => Heap.get?_push_of_some _ q) (Nat.le_refl _) ?_, rfl, q2 (fun w => z (r2.nil_iff.mpr w)) _ (I.hok.fresh (Nat.le_refl _))⟩
  exact ⟨by rw [List.length_append]; exact hz, _, r1.append r2, IsTup.new _ _⟩
end
end L2

namespace L2
open PySem PySem.Spec PyProof.Rows

/-! ### places -/
/-- the place that an index of any sign means -/
def ixN (n : Nat) (i : Int) : Option Nat := if 0 ≤ i then (if i < n then some i.toNat else none) else if -(n : Int) ≤ i then some (i + n).toNat else none
def atI {α : Type} (xs : List α) (i : Int) : Option α := (ixN xs.length i).bind fun j => xs[j]?
theorem ixN_seq {n : Nat} {i : Int} {j : Nat} (h : ixN n i = some j) : seqIndex? i n = some j ∧ j < n ∧ -(n : Int) ≤ i ∧ i < n := by
  unfold ixN at h
  by_cases h0 : 0 ≤ i
  · rw [if_pos h0] at h
    by_cases h1 : i < n
    · rw [if_pos h1] at h
      have e : i.toNat = j := Option.some.inj h
      exact ⟨by rw [seqIndex_of h0 h1, e], by omega, by omega, h1⟩
    · rw [if_neg h1] at h; cases h
  · rw [if_neg h0] at h
    by_cases h1 : -(n : Int) ≤ i
    · rw [if_pos h1] at h
      have e : (i + n).toNat = j := Option.some.inj h
      exact ⟨by rw [seqIndex_neg (by omega) h1, e], by omega, h1, by omega⟩
    · rw [if_neg h1] at h; cases h
theorem atI_get {α : Type} {xs : List α} {i : Int} {v : α} (h : atI xs i = some v) : ∃ j, seqIndex? i xs.length = some j ∧ xs[j]? = some v ∧ j < xs.length ∧ -(xs.length : Int) ≤ i ∧ i < xs.length := by
  unfold atI at h
  cases e : ixN xs.length i with
  | none => rw [e] at h; cases h
  | some j =>
    rw [e] at h
    obtain ⟨h1, h2, h3, h4⟩ := ixN_seq e
    exact ⟨j, h1, h, h2, h3, h4⟩
theorem atI_nat {α : Type} {xs : List α} {j : Nat} {v : α} (h : xs[j]? = some v) : atI xs (j : Int) = some v := by
  have hj : j < xs.length := (List.getElem?_eq_some_iff.mp h).1
  have e : ixN xs.length (j : Int) = some j := by
    unfold ixN
    rw [if_pos (by omega), if_pos (by omega)]; simp
  unfold atI; rw [e]; exact h
/-! ### what may be subscripted -/
/-- what stands as an index of a plain subscript -/
def PlainIx (b : Expr) : Prop := ∀ o i, subscripted b false o i = operate [o, i] (getItem o i)
/-- a subscript by values -/
def IxR (X : Cx) (r : R2) : Prop :=
  ∀ (value slice : Expr) (pins : List (Addr × Obj)) (s : Shared) (σ : St) (H : Hp) (x y : V) (v u : Value) (Q : VK), Inv X pins σ H s → RelV x v → RelV y u → r x y H Q →
    subscripted slice false v u = operate [v, u] (getItem v u) → wpAny (model X.prog X.w) X.A (subscriptTail value slice v u) (EP X pins σ Q) X.xe s
/-- a call of a builtin's method by values: the receiver, the arguments -/
def MtR (X : Cx) (id : String) (r : V → List V → Hp → VK → Prop) : Prop :=
  ∀ (pins : List (Addr × Obj)) (s : Shared) (σ : St) (H : Hp) (x : V) (xs : List V) (v : Value) (us : List Value) (Q : VK), Inv X pins σ H s → RelV x v → Vals xs us → r x xs H Q →
    wpAny (model X.prog X.w) X.A (call (.builtin id) (v :: us)) (EP X pins σ Q) X.xe s
section
variable {X : Cx} {a b : Expr} {ta tb : TE} {pos : Pos}
/-- a[b] -/
theorem pe_ix {r : R2} (hr : IxR X r) (ha : PE X a ta) (hb : PE X b tb) (hs : PlainIx b) : PE X (.Subscript a b pos) (tOp r ta tb) := by
  intro pins s σ H Q I h
  exact Subscript_ (binT ha hb I h fun v u s2 x y H2 I2 rx ry q => hr a b pins s2 σ H2 x y v u Q I2 rx ry q (hs _ _))

def rIxL (K : PySem.W.Frag) : R2 := fun x y H Q => ∃ p xs i v, x = .ref p ∧ y = .int i ∧ SqL K H p xs ∧ atI xs i = some v ∧ Q v H
def rIxT (K : PySem.W.Frag) : R2 := fun x y H Q => ∃ p xs i v, x = .ref p ∧ y = .int i ∧ SqT K H p xs ∧ atI xs i = some v ∧ Q v H
theorem ix_list : IxR X (rIxL X.K) := by
  intro value slice pins s σ H x y v u Q I rx ry h hs
  obtain ⟨p, xs, i, z, rfl, rfl, hq, he, q⟩ := h
  cases rx
  obtain ⟨t, rfl⟩ := ry
  obtain ⟨its, r, pl, hz⟩ := I.list hq
  obtain ⟨j, h1, h2, h3, h4, h5⟩ := atI_get he
  obtain ⟨w, ew, rw'⟩ := r.get h2
  have hl := r.length
  have hn := line63
  have fin : EP X pins σ Q w s := ⟨z, H, I, rw', q⟩
  by_cases h0 : 0 ≤ i
  · have hj : i.toNat = j := by
      rw [seqIndex_of h0 h5] at h1
      exact Option.some.inj h1
    exact item_listR pl.isList h0 (by omega) (by rw [hj]; simpa using ew) fin hs
  · have hj : (i + (its.toArray.size : Int)).toNat = j := by
      rw [seqIndex_neg (by omega) h4] at h1
      rw [List.size_toArray, ← hl]
      exact Option.some.inj h1
    exact subscriptTail_builtinR (x := w) pl.isList.typeIs slot_list_getitem.lookup
      (wpAny_getItem_list_neg (Q := fun r s' => r = w ∧ EP X pins σ Q r s') pl.isList (by omega) (by rw [List.size_toArray] <;> omega) (by omega) (by rw [hj]; simpa using ew) ⟨rfl, fin⟩) hs
theorem ix_tup : IxR X (rIxT X.K) := by
  intro value slice pins s σ H x y v u Q I rx ry h hs
  obtain ⟨p, xs, i, z, rfl, rfl, hq, he, q⟩ := h
  cases rx
  obtain ⟨t, rfl⟩ := ry
  obtain ⟨its, r, pl, hz⟩ := I.tuple hq
  obtain ⟨j, h1, h2, h3, h4, h5⟩ := atI_get he
  obtain ⟨w, ew, rw'⟩ := r.get h2
  have hl := r.length
  have hn := line63
  have fin : EP X pins σ Q w s := ⟨z, H, I, rw', q⟩
  exact subscriptTail_builtinR (x := w) pl.typeIs slot_tuple_getitem.lookup
    (getItem_tuple (j := j) (Q := fun r s' => r = w ∧ EP X pins σ Q r s') pl (by omega) (by omega) (by rw [List.size_toArray, ← hl]; exact h1) (by simpa using ew) ⟨rfl, fin⟩) hs
/-! ### xs[i] = v, any sign -/
/-! ### slices -/
theorem slice_bounds (lo hi : Option Int) (n : Nat) : (sliceBounds lo hi none n).1 = ((HT.sIx n 0 lo : Nat) : Int) ∧ (sliceBounds lo hi none n).2.1 = ((HT.sIx n n hi : Nat) : Int) ∧ (sliceBounds lo hi none n).2.2 = 1 := by
  refine ⟨?_, ?_, rfl⟩
  · cases lo with
    | none => simp [sliceBounds, HT.sIx]
    | some i =>
      simp only [sliceBounds, HT.sIx, Option.getD_none, show (1 : Int) > 0 by decide, if_true]
      by_cases h : i < 0
      · simp only [h, if_true] <;> omega
      · simp only [h, if_false] <;> omega
  · cases hi with
    | none => simp [sliceBounds, HT.sIx]
    | some i =>
      simp only [sliceBounds, HT.sIx, Option.getD_none, show (1 : Int) > 0 by decide, if_true]
      by_cases h : i < 0
      · simp only [h, if_true] <;> omega
      · simp only [h, if_false] <;> omega
theorem slicePick_cut (its : List Value) (lo hi : Option Int) : slicePick its.toArray lo hi none = ((its.drop (HT.sIx its.length 0 lo)).take (HT.sIx its.length its.length hi - HT.sIx its.length 0 lo)).toArray := by
  obtain ⟨h1, h2, h3⟩ := slice_bounds lo hi its.toArray.size
  unfold slicePick
  rw [h1, h2, h3]
  simp only [sliceRange_one, pick_run, List.size_toArray] <;> rfl
/-- xs[lo:hi] of a list: a new list -/
def rSlL (K : PySem.W.Frag) : V → Option Int → Option Int → Hp → VK → Prop := fun x lo hi H Q => ∃ a xs, x = .ref a ∧ SqL K H a xs ∧ ∀ p, H p = none → Q (.ref p) (upd H p (.lst (cutV xs lo hi)))
theorem sl_list : SlR X (rSlL X.K) := by
  intro pins s σ H x v vl vu lo hi sl Q I rx hs pl pu h
  obtain ⟨a, xs, rfl, hx, q⟩ := h
  cases rx
  obtain ⟨its, r, ht, hz⟩ := I.list hx
  have hlen := r.length
  refine ⟨"list", _, slot_list_getitem.lookup, ht.isList.typeIs, ?_⟩
  refine wpAny_getItem_list_slice ht.isList hs pl pu .none (by simp) ?_ (by rw [List.size_toArray] <;> omega)
  rw [slicePick_cut, ← hlen]
  refine ⟨.ref s.heap.objs.size, _, I.laid (t' := s.toks) (o := .lst (cutV xs lo hi)) (fun b ob q => Heap.get?_push_of_some _ q) (Nat.le_refl _) ?_, rfl, q _ (I.hok.fresh (Nat.le_refl _))⟩
  exact ⟨Nat.le_trans (cutV_length xs lo hi) hz, _, 0, (r.drop (HT.sIx xs.length 0 lo)).take (HT.sIx xs.length xs.length hi - HT.sIx xs.length 0 lo), Heap.get?_push_size _ rfl⟩

/-! ### in, not in: flat items -/
def flatV : V → Bool
  | .non => true
  | .bl _ => true
  | .int _ => true
  | .str _ => true
  | _ => false
/-- == of flat values -/
def eqV : V → V → Bool
  | .non, .non => true
  | .bl a, .bl b => a == b
  | .bl a, .int b => (if a then 1 else 0) == b
  | .int a, .bl b => a == (if b then 1 else 0)
  | .int a, .int b => a == b
  | .str a, .str b => a == b
  | _, _ => false
theorem eqAt_V {A : Around} {s : Shared} {y x : V} {u v : Value} (ry : RelV y u) (rx : RelV x v) (fy : flatV y = true) (fx : flatV x = true) : SeqAt.EqAt A s u v (eqV y x) := by
  cases y with
  | non =>
    cases ry
    cases x with
    | non => cases rx; exact SeqAt.EqAt.same _
    | bl b => cases rx; exact SeqAt.EqAt.none_bool b
    | int b => obtain ⟨t, rfl⟩ := rx; exact SeqAt.EqAt.none_int b t
    | str b => obtain ⟨t, rfl⟩ := rx; exact SeqAt.EqAt.none_str b t
    | _ => exact absurd (show false = true from fx) Bool.false_ne_true
  | bl a =>
    cases ry
    cases x with
    | non => cases rx; exact SeqAt.EqAt.bool_none a
    | bl b => cases rx; exact SeqAt.EqAt.bool_bool a b
    | int b => obtain ⟨t, rfl⟩ := rx; exact SeqAt.EqAt.bool_int a b t
    | str b => obtain ⟨t, rfl⟩ := rx; exact SeqAt.EqAt.bool_str a b t
    | _ => exact absurd (show false = true from fx) Bool.false_ne_true
  | int a =>
    obtain ⟨t', rfl⟩ := ry
    cases x with
    | non => cases rx; exact SeqAt.EqAt.int_none a t'
    | bl b => cases rx; exact SeqAt.EqAt.int_bool a t' b
    | int b => obtain ⟨t, rfl⟩ := rx; exact SeqAt.EqAt.int_int a t' b t
    | str b => obtain ⟨t, rfl⟩ := rx; exact SeqAt.EqAt.int_str a t' b t
    | _ => exact absurd (show false = true from fx) Bool.false_ne_true
  | str a =>
    obtain ⟨t', rfl⟩ := ry
    cases x with
    | non => cases rx; exact SeqAt.EqAt.str_none a t'
    | bl b => cases rx; exact SeqAt.EqAt.str_bool a t' b
    | int b => obtain ⟨t, rfl⟩ := rx; exact SeqAt.EqAt.str_int a t' b t
    | str b => obtain ⟨t, rfl⟩ := rx; exact SeqAt.EqAt.str_str a t' b t
    | _ => exact absurd (show false = true from fx) Bool.false_ne_true
  | _ => exact absurd (show false = true from fy) Bool.false_ne_true
/-- the items' answers, read off the values (a value's own answer does not lean on its token) -/
def eqU (x : V) (u : Value) : Bool := match u with
  | .none => eqV .non x
  | .bool b => eqV (.bl b) x
  | .int i _ => eqV (.int i) x
  | .str z _ => eqV (.str z) x
  | _ => false
theorem eqU_of {x y : V} {u : Value} (r : RelV y u) (f : flatV y = true) : eqU x u = eqV y x := by
  cases y with
  | non => cases r; rfl
  | bl b => cases r; rfl
  | int i => obtain ⟨t, rfl⟩ := r; rfl
  | str z => obtain ⟨t, rfl⟩ := r; rfl
  | _ => exact absurd (show false = true from f) Bool.false_ne_true
theorem any_eqU {x : V} : ∀ {xs : List V} {us : List Value}, Vals xs us → xs.all flatV = true → us.any (eqU x) = xs.any fun y => eqV y x
  | _, _, .nil, _ => rfl
  | y :: xs, u :: us, .cons r t, f => by
    rw [List.all_cons, Bool.and_eq_true] at f
    rw [List.any_cons, List.any_cons, eqU_of r f.1, any_eqU t f.2]
theorem mem_eqAt {A : Around} {s : Shared} {x : V} {v : Value} (rx : RelV x v) (fx : flatV x = true) : ∀ {xs : List V} {us : List Value}, Vals xs us → xs.all flatV = true → ∀ u ∈ us, SeqAt.EqAt A s u v (eqU x u)
  | _, _, .nil, _ => fun u hu => by cases hu
  | y :: xs, u :: us, .cons r t, f => fun u' hu => by
    rw [List.all_cons, Bool.and_eq_true] at f
    rcases List.mem_cons.mp hu with rfl | hu
    · rw [eqU_of r f.1]; exact eqAt_V r rx f.1 fx
    · exact mem_eqAt rx fx t f.2 u' hu
def inV (x : V) (xs : List V) : Bool := xs.any fun y => eqV y x
/-- x in a list or tuple of flat items -/
def rIn (K : PySem.W.Frag) (neg : Bool) : R2 := fun x y H Q => ∃ p xs, y = .ref p ∧ (SqL K H p xs ∨ SqT K H p xs) ∧ flatV x = true ∧ xs.all flatV = true ∧ Q (.bl (if neg then !inV x xs else inV x xs)) H
theorem op_in_seq : OpR X (compareOp .In) (rIn X.K false) := by
  intro pins s σ H x y v u Q I rx ry h
  obtain ⟨p, xs, rfl, hq, fx, fs, q⟩ := h
  cases ry
  rcases hq with hq | hq
  · obtain ⟨its, r, pl, hz⟩ := I.list hq
    refine SeqAt.in_listAt (eqU x) pl.isList (fun w hw => mem_eqAt rx fx r fs w (by simpa using hw)) ⟨.bl _, H, I, rfl, ?_⟩
    rw [show its.toArray.any (eqU x) = its.any (eqU x) by simp, any_eqU r fs]
    exact q
  · obtain ⟨its, r, pl, hz⟩ := I.tuple hq
    refine SeqAt.in_tupleAt (eqU x) pl (fun w hw => mem_eqAt rx fx r fs w (by simpa using hw)) ⟨.bl _, H, I, rfl, ?_⟩
    rw [show its.toArray.any (eqU x) = its.any (eqU x) by simp, any_eqU r fs]
    exact q
/-! ### len, list(x), tuple(x) of any list or tuple that is read -/
theorem call_len_seq : CallR X (.builtin "len") (fun xs H Q => ∃ p ys, xs = [.ref p] ∧ (SqL X.K H p ys ∨ SqT X.K H p ys) ∧ Q (.int ys.length) H) := by
  intro pins s σ H xs us Q I r h
  obtain ⟨p, ys, rfl, hq, q⟩ := h
  obtain ⟨u, rfl, rx⟩ := vals1 r
  cases rx
  have hn := line63
  rcases hq with hq | hq
  · obtain ⟨its, r', pl, hz⟩ := I.list hq
    have hlen := r'.length
    exact Calls.call_len_list pl.isList (by simp only [List.size_toArray] <;> omega) ⟨.int ys.length, H, I.tok _, ⟨s.toks + 1, by rw [List.size_toArray, hlen]⟩, q⟩
  · obtain ⟨its, r', pl, hz⟩ := I.tuple hq
    have hlen := r'.length
    exact len_tuple pl (by simp only [List.size_toArray] <;> omega) ⟨.int ys.length, H, I.tok _, ⟨s.toks + 1, by rw [List.size_toArray, hlen]⟩, q⟩
theorem call_len_str : CallR X (.builtin "len") (fun xs H Q => ∃ z, xs = [.str z] ∧ z.length ≤ sizeLine ∧ Q (.int z.length) H) := by
  intro pins s σ H xs us Q I r h
  obtain ⟨z, rfl, hz, q⟩ := h
  obtain ⟨u, rfl, t, rfl⟩ := vals1 r
  have hn := line63
  exact len_str (by omega) ⟨.int z.length, H, I.tok _, ⟨_, rfl⟩, q⟩
/-! ### the call of a builtin's method: o.m(..) -/
/-- the value is of that builtin type -/
def tyV (K : PySem.W.Frag) (T : String) (x : V) (H : Hp) : Prop := match x with
  | .str _ => T = "str"
  | .int _ => T = "int"
  | .ref p => (T = "list" ∧ ∃ xs, SqL K H p xs) ∨ (T = "tuple" ∧ ∃ o, K.lookup p = some o ∧ o.cls = .type "tuple" ∧ o.dict = none) ∨
      (T = "dict" ∧ ((∃ kvs, H p = some (.dK kvs)) ∨ ∃ kvs, H p = some (.dT kvs))) ∨ (T = "set" ∧ ∃ S n, H p = some (.set S n))
  | _ => False
theorem tyV_is {pins : List (Addr × Obj)} {σ : St} {H : Hp} {s : Shared} {T : String} {x : V} {v : Value} (I : Inv X pins σ H s) (r : RelV x v) (ty : tyV X.K T x H) :
    s.TypeIs v T ∧ ∀ a, v = .ref a → ∃ ob, s.heap.get? a = some ob ∧ ob.dict = none := by
  cases x with
  | str z =>
    obtain ⟨t, rfl⟩ := r
    cases (show T = "str" from ty)
    exact ⟨typeIs_str s z t, fun _ e => nomatch e⟩
  | int i =>
    obtain ⟨t, rfl⟩ := r
    cases (show T = "int" from ty)
    exact ⟨typeIs_int s i t, fun _ e => nomatch e⟩
  | ref p =>
    cases r
    rcases ty with ⟨rfl, xs, hq⟩ | ⟨rfl, o, hk, hc, hd⟩ | ⟨rfl, hk⟩ | ⟨rfl, S, n, hk⟩
    · obtain ⟨its, _, pl, _⟩ := I.list hq
      refine ⟨pl.isList.typeIs, fun a e => ?_⟩
      cases e
      obtain ⟨o, n, e, c, hd, _⟩ := pl
      exact ⟨o, e, hd⟩
    · refine ⟨⟨o, I.kIn p o hk, hc⟩, fun a e => ?_⟩
      cases e
      exact ⟨o, I.kIn _ o hk, hd⟩
    · have z : ∃ o, s.heap.get? p = some o ∧ o.ExactDict := by
        rcases hk with ⟨kvs, hk⟩ | ⟨kvs, hk⟩
        · obtain ⟨_, _, _, _, o, _, _, e, ex, _⟩ := I.hok p _ hk
          exact ⟨o, e, ex⟩
        · obtain ⟨_, _, _, _, o, _, _, e, ex, _⟩ := I.hok p _ hk
          exact ⟨o, e, ex⟩
      obtain ⟨o, e, ex⟩ := z
      refine ⟨⟨o, e, ex.1⟩, fun a e2 => ?_⟩
      cases e2
      exact ⟨o, e, ex.2.1⟩
    · obtain ⟨o, _, _, _, e, ex, _⟩ := I.hok p _ hk
      refine ⟨⟨o, e, ex.1⟩, fun a e2 => ?_⟩
      cases e2
      exact ⟨o, e, ex.2.1⟩
  | _ => exact False.elim ty
def tBM (K : PySem.W.Frag) (T : String) (r : V → List V → Hp → VK → Prop) (to : TE) (t : TA) : TE := fun σ H Q => to σ H fun x H1 => tyV K T x H1 ∧ t σ H1 fun xs H2 => r x xs H2 Q
variable {o e : Expr} {es : List Expr} {to : TE} {t : TA} {name : Str} {apos cpos : Pos} {T id : String} {r : V → List V → Hp → VK → Prop}
theorem pe_bm (pa : PlainAttrs T) (slot : Slot T name id) (hty : typeOf (.builtin id) = pure (.type "method_descriptor")) (hm : MtR X id r) (ho : PE X o to) (ha : PA X (e :: es) t)
    (hbase : attributeBase o name X.env (eval o X.env) = eval o X.env := by rfl)
    (hfew : ((backTo cpos (starEach (e :: es) X.env)).all (fun x => !x.1) && (backToKw cpos (keywordEach [] X.env)).all (fun x => x.1.isSome)
      && decide ((e :: es).length + ([] : List Keyword).length + (if ([] : List Keyword).isEmpty then 0 else 1) < 30)) = true := by rfl)
    (hline : (apos.endLine == cpos.line) = true := by rfl) (hs : starEach (e :: es) X.env = (false, eval e X.env) :: starEach es X.env := by rfl) (hplain : (backTo cpos (starEach es X.env)).any (·.1) = false := by rfl) :
    PE X (.Call (.Attribute o name apos) (e :: es) [] cpos) (tBM X.K T r to t) := by
  intro pins s σ H Q I h
  refine wpAny_Call_method_late hbase hfew hline rfl (thn (ho pins s σ H _ I h) fun v s1 ⟨x, H1, I1, r1, ty, q1⟩ => ?_)
  obtain ⟨h1, h2⟩ := tyV_is I1 r1 ty
  refine ⟨T, id, pa, slot, hty, h1, h2, ?_⟩
  have hA := ha cpos pins s1 σ H1 _ I1 q1
  rw [hs] at hA ⊢
  refine Calls.callWith_builtin (by show (false || (backTo cpos (starEach es X.env)).any (·.1)) = false; rw [hplain] <;> rfl) (Calls.evalArgs_plain ?_)
  exact thn hA fun us s2 ⟨vs, H2, I2, r2, q2⟩ => hm pins s2 σ H2 x vs v us Q I2 r1 r2 q2
/- xs.append(e), list.index on a module's tuple .. are MtR facts of 06m -/
end
end L2

namespace L2
open PySem PySem.Spec PyProof.Rows

def MtM (X : Cx) (id : String) (r : V → List V → Hp → VK → Prop) : Prop :=
  ∀ (pins : List (Addr × Obj)) (s : Shared) (σ : St) (H : Hp) (x : V) (xs : List V) (v : Value) (us : List Value) (Q : VK), Inv X pins σ H s → RelV x v → Vals xs us → r x xs H Q →
    wpAny (model X.prog X.w) X.A (call (.builtin id) (v :: us)) (EP X pins σ Q) X.xe s

/-! ### lists of values -/
theorem Vals.one : ∀ {x : V} {us : List Value}, Vals [x] us → ∃ u, us = [u] ∧ RelV x u
  | _, _, .cons r .nil => ⟨_, rfl, r⟩
section
variable {X : Cx} {pins : List (Addr × Obj)} {σ : St} {H : Hp} {s : Shared} {l b : Addr} {xs ys zs : List V}

/-! ### the two steps: a tracked list is rewritten, a new list is laid -/
theorem Inv.lset {its its' : List Value} {n : Nat} {f : Array Value → Array Value} {t' : Nat} (I : Inv X pins σ H s) (hH : H l = some (.lst xs))
    (e : s.heap.get? l = some { cls := .type "list", data := .seq its.toArray n }) (hf : f its.toArray = its'.toArray) (hv : Vals ys its') (hz : ys.length ≤ sizeLine) :
    Inv X pins σ (upd H l (.lst ys)) { s with heap := s.heap.update l (Obj.mapSeq f), toks := t' } := by
  have q := PySem.IsL.update e f
  rw [hf] at q
  refine I.write (x := l) (e := l) (by rw [hH]; exact trivial) (.inl rfl) (fun b' u hb hu => (Heap.get?_update_other s.heap (Obj.mapSeq f) (Ne.symm hb)).trans hu) ⟨_, q⟩ ?_
  exact ⟨hz, its', _, hv, q⟩
theorem Inv.lstM (I : Inv X pins σ H s) (hH : H l = some (.lst xs)) : xs.length ≤ sizeLine ∧ ∃ (its : List Value) (n : Nat), Vals xs its ∧ xs.length = its.length ∧ s.heap.get? l = some { cls := .type "list", data := .seq its.toArray n } := by
  obtain ⟨z, its, n, r, e⟩ := I.hok l _ hH
  exact ⟨z, its, n, r, r.length, e⟩

end

section
variable {X : Cx}

/-! ### methods -/
def rAppend : V → List V → Hp → VK → Prop := fun x vs H Q => ∃ l xs y, x = .ref l ∧ vs = [y] ∧ H l = some (.lst xs) ∧ xs.length < sizeLine ∧ Q .non (upd H l (.lst (xs ++ [y])))
theorem mt_append : MtM X "list.append" rAppend := by
  intro pins s σ H x vs v us Q I rx rv h
  obtain ⟨l, xs, y, rfl, rfl, hH, hz, q⟩ := h
  cases rx
  obtain ⟨u, rfl, ru⟩ := rv.one
  obtain ⟨z, its, n, r, hl, e⟩ := I.lstM hH
  refine call_meets F.slot_list_append ⟨_, e, rfl⟩ F.entry_list_append (F.args_list_append_2 _ _) (PySem.list_append l its.toArray n u (by rw [List.size_toArray]; omega)) ⟨e, ?_⟩
  refine ⟨.non, _, I.lset (its' := its ++ [u]) hH e (by simp) (r.append (.cons ru .nil)) ?_, rfl, q⟩
  rw [List.length_append, List.length_singleton]
  omega

/-! ### list + list, list += list, list * int -/
/-! ### del xs[i] -/
end

/-! ### xs[a:b] = ys -/
section
variable {prog : Program} {w : World} {A : Around} {E : Value → Shared → Prop} {s : Shared}
end

section
variable {X : Cx}
end
end L2

namespace L2
open PySem PySem.Spec PyProof.Rows

/-! ### the library's walks over a list of ints, kept objects alone -/
section
variable {prog : Program} {w : World} {A : Around} {E : Value → Shared → Prop} {s : Shared} {l : Addr} {its : List Value} {ns : List Int} {Q : Value → Shared → Prop}
end

/-! ### the calls, by values (CallR of 03t; MtR of 06l) -/
section
variable {X : Cx}
/-! sorted, sort (fewer than 64 items: the library's own bound) -/
end

/-! ### list.index, flat items -/
section
variable {X : Cx}
end

/-! ### type(x) of an own instance; is, is not of a module's class -/
section
variable {X : Cx}
end

/-! ### any(xs), all(xs) of a list of bools -/
section
variable {X : Cx}
end

/-! ### == and != of data at any depth: none, bools, ints, texts, lists, tuples -/
mutual
inductive Dp (K : PySem.W.Frag) (H : Hp) : V → PyData → Prop
  | non : Dp K H .non .none
  | bl (b : Bool) : Dp K H (.bl b) (.bool b)
  | int (i : Int) : Dp K H (.int i) (.int i)
  | str (x : Str) : Dp K H (.str x) (.str x)
  | lst {a : Addr} {xs : List V} {ds : List PyData} : SqL K H a xs → DpAll K H xs ds → Dp K H (.ref a) (.list ds)
  | tup {a : Addr} {xs : List V} {ds : List PyData} : SqT K H a xs → DpAll K H xs ds → Dp K H (.ref a) (.tuple ds)
inductive DpAll (K : PySem.W.Frag) (H : Hp) : List V → List PyData → Prop
  | nil : DpAll K H [] []
  | cons {v : V} {vs : List V} {d : PyData} {ds : List PyData} : Dp K H v d → DpAll K H vs ds → DpAll K H (v :: vs) (d :: ds)
end
section
variable {X : Cx} {pins : List (Addr × Obj)} {σ : St} {H : Hp} {s : Shared}
mutual
theorem Dp.reads (I : Inv X pins σ H s) : ∀ (d : PyData) (v : V) (u : Value), Dp X.K H v d → RelV v u → ∃ as, Reads s.heap u d as
  | .none, _, _, h, r => by
    cases h
    cases r
    exact ⟨_, Reads.none⟩
  | .bool b, _, _, h, r => by
    cases h
    cases r
    exact ⟨_, Reads.bool b⟩
  | .int i, _, _, h, r => by
    cases h
    obtain ⟨t, rfl⟩ := r
    exact ⟨_, Reads.int i t⟩
  | .str x, _, _, h, r => by
    cases h
    obtain ⟨t, rfl⟩ := r
    exact ⟨_, Reads.str x t⟩
  | .list ds, _, _, h, r => by
    cases h with
    | lst hs ha =>
      cases r
      obtain ⟨its, rv, ⟨o, n, ho, hc, _, hd⟩, _⟩ := I.list hs
      obtain ⟨as, hr⟩ := Dp.readsAll I ds _ its ha rv
      exact ⟨_, Reads.list ho hc hd hr⟩
  | .tuple ds, _, _, h, r => by
    cases h with
    | tup hs ha =>
      cases r
      obtain ⟨its, rv, ⟨o, ho, hc, n, hd⟩, _⟩ := I.tuple hs
      obtain ⟨as, hr⟩ := Dp.readsAll I ds _ its ha rv
      exact ⟨_, Reads.tuple ho hc hd hr⟩
  | .dict _, _, _, h, _ => by cases h
theorem Dp.readsAll (I : Inv X pins σ H s) : ∀ (ds : List PyData) (vs : List V) (us : List Value), DpAll X.K H vs ds → Vals vs us → ∃ as, ReadsAll s.heap us ds as
  | [], _, _, h, r => by
    cases h
    cases r
    exact ⟨_, ReadsAll.nil⟩
  | d :: ds, _, _, h, r => by
    cases h with
    | cons h1 h2 =>
      cases r with
      | cons r1 r2 =>
        obtain ⟨as, q1⟩ := Dp.reads I d _ _ h1 r1
        obtain ⟨bs, q2⟩ := Dp.readsAll I ds _ _ h2 r2
        exact ⟨_, ReadsAll.cons q1 q2⟩
end
end
section
variable {X : Cx}
def rEqD (K : PySem.W.Frag) : R2 := fun x y H Q => ∃ d e, Dp K H x d ∧ Dp K H y e ∧ SeqAt.shaped d = true ∧ SeqAt.shaped e = true ∧ Q (.bl (PyData.eqv d e)) H
theorem op_eqD (hu : X.A.units + 64 < cLine) : OpR X (compareOp .Eq) (rEqD X.K) := by
  intro pins s σ H x y v u Q I rx ry h
  obtain ⟨d, e, hd, he, sd, se, q⟩ := h
  obtain ⟨as, r1⟩ := Dp.reads I d x v hd rx
  obtain ⟨bs, r2⟩ := Dp.reads I e y u he ry
  exact SeqAt.compareEq_shaped r1 r2 sd se hu ⟨.bl _, H, I, rfl, q⟩
end
end L2

namespace L2
open PySem PySem.Spec PyProof.Rows
abbrev CellAt (h : Heap) (c : Addr) (v : Option Value) : Prop := h.IsCell c v
def relS (scope sc : Scope) : Scope :=
  { scope with names := scope.names.map fun (n, k) => if (k == .free && sc.kind == .function && sc.names.lookup n == some .cell) then (n, .cell) else (n, k) }

def cloFrom (cells : List (Str × Addr)) : List (Str × NameKind) → List (Str × Addr) → List (Str × Addr)
  | [], acc => acc
  | (n, k) :: r, acc => if k == .free then cloFrom cells r ((n, (cells.lookup n).getD 0) :: acc) else cloFrom cells r acc

theorem closure_loop (env : Env) (f : Str × NameKind → List (Str × Addr) → Sem (ForInStep (List (Str × Addr))))
    (hf : ∀ n k c, f (n, k) c = if k == .free then (do let a ← cellOf env n; pure (.yield ((n, a) :: c))) else pure (.yield c)) :
    ∀ (names : List (Str × NameKind)) (acc : List (Str × Addr)), (∀ y ∈ names, y.2 = .free → ∃ c, env.cells.lookup y.1 = some c) → forIn names acc f = pure (cloFrom env.cells names acc)
  | [], acc, _ => by rw [List.forIn_nil]; rfl
  | (n, k) :: r, acc, h => by
    rw [List.forIn_cons, hf]
    have ih := fun acc => closure_loop env f hf r acc fun y hy => h y (List.mem_cons_of_mem _ hy)
    unfold cloFrom
    by_cases hk : (k == NameKind.free) = true
    · rw [if_pos hk, if_pos hk]
      obtain ⟨c, hc⟩ := h (n, k) List.mem_cons_self (by simpa using hk)
      have e : cellOf env n = pure c := by unfold cellOf; rw [hc]
      rw [e]
      have e2 : (env.cells.lookup n).getD 0 = c := by rw [hc]; rfl
      rw [e2]
      exact ih _
    · rw [if_neg hk, if_neg hk]
      exact ih _
theorem closure_ok {scope : Scope} {env : Env} (h : ∀ y ∈ scope.names, y.2 = .free → ∃ c, env.cells.lookup y.1 = some c) : closureFor scope env = pure (cloFrom env.cells scope.names []) := by
  simp only [closureFor]
  rw [closure_loop env _ (fun n k c => rfl) scope.names [] h]
  rfl

theorem mem_lookup {α : Type} : ∀ {l : List (Str × α)} {n : Str} {c : α}, (n, c) ∈ l → ∃ c', l.lookup n = some c'
  | (k, v) :: r, n, c, h => by
    rw [List.lookup_cons]
    cases hb : n == k with
    | true => exact ⟨_, rfl⟩
    | false =>
      rcases List.mem_cons.mp h with e | h
      · cases e; simp at hb
      · exact mem_lookup h

theorem cloFrom_mem {cells : List (Str × Addr)} : ∀ {names : List (Str × NameKind)} {acc : List (Str × Addr)} {n : Str} {c : Addr}, (n, c) ∈ cloFrom cells names acc → (n, c) ∈ acc ∨ ((n, .free) ∈ names ∧ c = (cells.lookup n).getD 0)
  | [], _, _, _, h => .inl h
  | (m, k) :: r, acc, n, c, h => by
    unfold cloFrom at h
    split at h
    · rename_i hk
      have hk : k = .free := by simpa using hk
      rcases cloFrom_mem h with h | ⟨h1, h2⟩
      · rcases List.mem_cons.mp h with e | h
        · cases e; exact .inr ⟨hk ▸ List.mem_cons_self, rfl⟩
        · exact .inl h
      · exact .inr ⟨List.mem_cons_of_mem _ h1, h2⟩
    · rcases cloFrom_mem h with h | ⟨h1, h2⟩
      · exact .inl h
      · exact .inr ⟨List.mem_cons_of_mem _ h1, h2⟩
theorem cloFrom_acc {cells : List (Str × Addr)} : ∀ {names : List (Str × NameKind)} {acc : List (Str × Addr)} {p : Str × Addr}, p ∈ acc → p ∈ cloFrom cells names acc
  | [], _, _, h => h
  | (m, k) :: r, acc, p, h => by
    unfold cloFrom
    split
    · exact cloFrom_acc (List.mem_cons_of_mem _ h)
    · exact cloFrom_acc h
theorem cloFrom_has {cells : List (Str × Addr)} : ∀ {names : List (Str × NameKind)} {acc : List (Str × Addr)} {n : Str}, (n, .free) ∈ names → (n, (cells.lookup n).getD 0) ∈ cloFrom cells names acc
  | (m, k) :: r, acc, n, h => by
    unfold cloFrom
    rcases List.mem_cons.mp h with e | h
    · cases e
      exact cloFrom_acc List.mem_cons_self
    · split
      · exact cloFrom_has h
      · exact cloFrom_has h

theorem cells_mem : ∀ {names : List (Str × NameKind)} {h : Heap} {acc : List (Str × Addr)} {x : Str} {c : Addr}, (x, c) ∈ cellsFrom h.objs.size names acc →
    (x, c) ∈ acc ∨ ((x, .cell) ∈ names ∧ h.objs.size ≤ c ∧ CellAt (pushCells h names) c none)
  | [], _, _, _, _, h => .inl h
  | (n, k) :: r, h, acc, x, c, hm => by
    unfold cellsFrom at hm
    unfold pushCells
    split at hm
    · rename_i hk
      rw [if_pos hk]
      have hk : k = .cell := by simpa using hk
      rw [← Heap.size_push h { cls := .type "cell", data := .cell none }] at hm
      rcases cells_mem hm with hm | ⟨h1, h2, h3⟩
      · rcases List.mem_cons.mp hm with e | hm
        · cases e
          exact .inr ⟨hk ▸ List.mem_cons_self, Nat.le_refl _, _, pushCells_keeps r _ _ _ (Heap.get?_push_size _ rfl), rfl⟩
        · exact .inl hm
      · rw [Heap.size_push] at h2
        exact .inr ⟨List.mem_cons_of_mem _ h1, Nat.le_of_succ_le h2, h3⟩
    · rename_i hk
      rw [if_neg hk]
      rcases cells_mem hm with hm | ⟨h1, h2, h3⟩
      · exact .inl hm
      · exact .inr ⟨List.mem_cons_of_mem _ h1, h2, h3⟩
theorem cells_acc : ∀ {names : List (Str × NameKind)} {n : Nat} {acc : List (Str × Addr)} {p : Str × Addr}, p ∈ acc → p ∈ cellsFrom n names acc
  | [], _, _, _, h => h
  | (m, k) :: r, n, acc, p, h => by
    unfold cellsFrom
    split
    · exact cells_acc (List.mem_cons_of_mem _ h)
    · exact cells_acc h
theorem cells_has : ∀ {names : List (Str × NameKind)} {n : Nat} {acc : List (Str × Addr)} {x : Str}, (x, .cell) ∈ names → ∃ c, (x, c) ∈ cellsFrom n names acc
  | (m, k) :: r, n, acc, x, h => by
    unfold cellsFrom
    rcases List.mem_cons.mp h with e | h
    · cases e
      exact ⟨n, cells_acc List.mem_cons_self⟩
    · split
      · exact cells_has h
      · exact cells_has h
theorem cells_inj : ∀ {names : List (Str × NameKind)} {h : Heap} {acc : List (Str × Addr)} {x y : Str} {c : Addr}, (∀ p ∈ acc, p.2 < h.objs.size) → (∀ x y c, (x, c) ∈ acc → (y, c) ∈ acc → x = y) →
    (x, c) ∈ cellsFrom h.objs.size names acc → (y, c) ∈ cellsFrom h.objs.size names acc → x = y
  | [], _, _, _, _, _, _, hi, h1, h2 => hi _ _ _ h1 h2
  | (n, k) :: r, h, acc, x, y, c, hl, hi, h1, h2 => by
    unfold cellsFrom at h1 h2
    split at h1
    · rename_i hk
      rw [if_pos hk] at h2
      rw [← Heap.size_push h { cls := .type "cell", data := .cell none }] at h1 h2
      refine cells_inj (h := h.push _) (fun p hp => ?_) (fun x y c a b => ?_) h1 h2
      · rw [Heap.size_push]
        rcases List.mem_cons.mp hp with rfl | hp
        · exact Nat.lt_succ_self _
        · exact Nat.lt_succ_of_lt (hl p hp)
      · rcases List.mem_cons.mp a with e | a <;> rcases List.mem_cons.mp b with e' | b
        · cases e; cases e'; rfl
        · cases e; exact absurd (hl _ b) (Nat.lt_irrefl _)
        · cases e'; exact absurd (hl _ a) (Nat.lt_irrefl _)
        · exact hi _ _ _ a b
    · rename_i hk
      rw [if_neg hk] at h2
      exact cells_inj hl hi h1 h2

theorem newEnv_comp {M : Model} {A : Around} {E : Value → Shared → Prop} {s : Shared} {scope : Scope} {globals : Addr} {closure : List (Str × Addr)} {qual : Str} {func : Option Addr} {code : Value} {around : Env} {builtins : Addr} {Q : Env → Shared → Prop}
    (h : Q (newEnv scope s.heap.objs.size globals (cellsFrom (s.heap.objs.size + 1) scope.names closure) qual func code (some around) builtins)
      { s with heap := pushCells (s.heap.push { cls := .type "dict", data := .dict #[] }) scope.names }) :
    wpAny M A (newFunctionEnv scope globals closure [] qual func code (some around) builtins) Q E s := by
  simp only [newFunctionEnv, Option.isSome_some, if_true]
  refine wpAny_bind (wpAny_alloc ?_)
  refine wpAny_bind (wpAny_layCells _ (fun n k c => rfl) scope.names closure _ _ ?_)
  rw [show ({ s with heap := s.heap.push { cls := .type "dict", data := .dict #[] } } : Shared).heap.objs.size = s.heap.objs.size + 1 from Heap.size_push ..]
  rw [List.forIn_nil]
  exact wpAny_bind (wpAny_pure (wpAny_pure h))

/-- every name of the written scope, in the scope that runs -/
theorem lookup_relS {sc : Scope} : ∀ {names : List (Str × NameKind)} {x : Str} {k : NameKind},
    (names.map fun (n, k) => if (k == NameKind.free && sc.kind == .function && sc.names.lookup n == some .cell) then (n, NameKind.cell) else (n, k)).lookup x = some k →
    ∃ k', names.lookup x = some k' ∧ (k = k' ∨ (k' = .free ∧ k = .cell))
  | [], _, _, h => by simp at h
  | (n, k₀) :: r, x, k, h => by
    have ih := @lookup_relS sc r x k
    have h' : List.lookup x ((if (k₀ == NameKind.free && sc.kind == .function && sc.names.lookup n == some .cell) = true then (n, NameKind.cell) else (n, k₀)) :: (r.map _)) = some k := h
    cases hx : x == n with
    | true =>
      simp only [List.lookup_cons, hx]
      by_cases hc : (k₀ == NameKind.free && sc.kind == .function && sc.names.lookup n == some .cell) = true
      · rw [if_pos hc] at h'
        simp only [List.lookup_cons, hx] at h'
        cases h'
        simp only [Bool.and_eq_true, beq_iff_eq] at hc
        exact ⟨k₀, rfl, .inr ⟨hc.1.1, rfl⟩⟩
      · rw [if_neg hc] at h'
        simp only [List.lookup_cons, hx] at h'
        cases h'
        exact ⟨_, rfl, .inl rfl⟩
    | false =>
      simp only [List.lookup_cons, hx]
      by_cases hc : (k₀ == NameKind.free && sc.kind == .function && sc.names.lookup n == some .cell) = true
      · rw [if_pos hc] at h'
        simp only [List.lookup_cons, hx] at h'
        exact ih h'
      · rw [if_neg hc] at h'
        simp only [List.lookup_cons, hx] at h'
        exact ih h'
/-- the names of a comprehension's block: its own (with their places in N), or captured -/
structure BlkOk (N : List Str) (sc scope : Scope) (own : List (Str × Nat)) : Prop where
  kind : scope.kind = .function
  uniq : ∀ y ∈ scope.names, scope.names.lookup y.1 = some y.2
  ix : ∀ p ∈ own, N[p.2]? = some p.1
  free : ∀ y ∈ scope.names, y.2 = .free → sc.names.lookup y.1 = some .cell ∨ sc.names.lookup y.1 = some .free
  own : ∀ y ∈ scope.names, y.2 = .local ∨ y.2 = .cell → y.1 ∈ own.map (·.1) ∨ y.1 ∉ N
/-- the slots of the block's own names forgotten -/
def wipe (σ : St) : List Nat → St
  | [] => σ
  | v :: vs => (wipe σ vs).set v none
theorem wipe_length (σ : St) : ∀ vs : List Nat, (wipe σ vs).length = σ.length
  | [] => rfl
  | v :: vs => by unfold wipe; rw [List.length_set, wipe_length σ vs]
theorem wipe_some {σ : St} {i : Nat} {x : V} : ∀ {vs : List Nat}, (wipe σ vs)[i]? = some (some x) → σ[i]? = some (some x) ∧ i ∉ vs
  | [], h => ⟨h, by simp⟩
  | v :: vs, h => by
    unfold wipe at h
    by_cases hi : v = i
    · subst hi
      by_cases hv : v < (wipe σ vs).length
      · rw [List.getElem?_set_self hv] at h; cases h
      · rw [List.getElem?_eq_none (by simpa using hv)] at h; cases h
    · rw [List.getElem?_set_ne hi] at h
      obtain ⟨h1, h2⟩ := wipe_some h
      exact ⟨h1, by simp only [List.mem_cons, not_or]; exact ⟨fun e => hi e.symm, h2⟩⟩

/-- the context of a block that starts at s, its iterator's objects at fp -/
abbrev Cx.blk (X : Cx) (s : Shared) (H : Hp) (scope : Scope) (cenv : Env) (fp : List Addr) : Cx := { X with s_0 := s, H_0 := H, env := cenv, outer := X.stack, ex := fp, fn := fun x => scope.names.lookup x == some .cell, pn := [], xe := fun _ _ => False }
section
variable {X : Cx} {pins : List (Addr × Obj)} {σ : St} {H : Hp} {s : Shared}
theorem block_start {scope : Scope} {own : List (Str × Nat)} {fp : List Addr} (I : Inv X pins σ H s) (ok : BlkOk X.N X.env.scope scope own) (hN : X.N.Nodup) (hfp : ∀ b ∈ fp, FpOk X pins H b ∧ b < s.heap.objs.size) :
    Inv (X.blk s H scope (compEnvC scope (cellsFrom (s.heap.objs.size + 1) scope.names (cloFrom X.env.cells scope.names [])) s.heap.objs.size X.env) fp) [] (wipe σ (own.map (·.2))) H { s with heap := pushCells (s.heap.push { cls := .type "dict", data := .dict #[] }) scope.names } := by
  have hfree : ∀ y ∈ scope.names, y.2 = .free → ∃ c, X.env.cells.lookup y.1 = some c := fun y hy e => by
    rcases ok.free y hy e with k | k
    · exact I.ok.has _ (.inl k)
    · exact I.ok.has _ (.inr k)
  generalize hcenv : compEnvC scope (cellsFrom (s.heap.objs.size + 1) scope.names (cloFrom X.env.cells scope.names [])) s.heap.objs.size X.env = cenv
  have kp : ∀ b o, s.heap.get? b = some o → (pushCells (s.heap.push { cls := .type "dict", data := .dict #[] }) scope.names).get? b = some o := fun b o e => pushCells_keeps _ _ _ _ (Heap.get?_push_of_some _ e)
  have hL : cenv.locals = s.heap.objs.size := by rw [← hcenv]; rfl
  have hcl : cenv.cells = cellsFrom (s.heap.objs.size + 1) scope.names (cloFrom X.env.cells scope.names []) := by rw [← hcenv]; rfl
  have hsc : cenv.scope = relS scope X.env.scope := by rw [← hcenv]; rfl
  rw [← Heap.size_push s.heap { cls := .type "dict", data := .dict #[] }] at hcl
  have cm : ∀ {y c}, (y, c) ∈ cloFrom X.env.cells scope.names [] → X.env.cells.lookup y = some c ∧ c < s.heap.objs.size := fun {y c} hm => by
    rcases cloFrom_mem hm with hm | ⟨h1, rfl⟩
    · cases hm
    · obtain ⟨c, hc⟩ := hfree _ h1 rfl
      rw [hc]
      obtain ⟨w, z⟩ := I.cell _ _ hc
      exact ⟨rfl, z.lt⟩
  have mem : ∀ {y c}, cenv.cells.lookup y = some c → (X.env.cells.lookup y = some c ∧ c < s.heap.objs.size) ∨ (s.heap.objs.size + 1 ≤ c ∧ CellAt (pushCells (s.heap.push { cls := .type "dict", data := .dict #[] }) scope.names) c none) := fun {y c} e => by
    rw [hcl] at e
    rcases cells_mem (PySem.mem_of_lookup e) with hm | ⟨_, h2, h3⟩
    · exact .inl (cm hm)
    · rw [Heap.size_push] at h2; exact .inr ⟨h2, h3⟩
  have look : ∀ {y}, scope.names.lookup y = some .free → ∃ c, cenv.cells.lookup y = some c ∧ X.env.cells.lookup y = some c := fun {y} hl => by
    have hy : (y, NameKind.free) ∈ scope.names := PySem.mem_of_lookup hl
    obtain ⟨c', e'⟩ := mem_lookup (cells_acc (names := scope.names) (n := (s.heap.push { cls := .type "dict", data := .dict #[] }).objs.size) (cloFrom_has (cells := X.env.cells) (acc := []) hy))
    rw [← hcl] at e'
    refine ⟨c', e', ?_⟩
    rw [hcl] at e'
    rcases cells_mem (PySem.mem_of_lookup e') with hm | ⟨h1, _, _⟩
    · exact (cm hm).1
    · have := ok.uniq _ h1
      rw [hl] at this; cases this
  have okB : (X.blk s H scope cenv fp).Ok := by
    refine ⟨I.ok.mod, by show cenv.scope.kind = _; rw [hsc]; exact ok.kind, by show cenv.globals = _; rw [← hcenv]; exact I.ok.glob, by show cenv.builtins = _; rw [← hcenv]; exact I.ok.blt, by show s.heap.objs.size ≤ cenv.locals; rw [hL]; exact Nat.le_refl _,
      fun y z c e1 e2 => ?_, fun y hy => ?_, fun y c z e => ?_, I.ok.hd, I.ok.frames, .inl rfl, fun b hb => ⟨?_, fun y c e z => ?_⟩, I.bs, Nat.le_trans I.ok.bsz I.sz, fun b o e hb => ?_, fun b hb z => ?_, I.stack, I.stkFree⟩
    · have e1 : cenv.cells.lookup y = some c := e1
      have e2 : cenv.cells.lookup z = some c := e2
      rw [hcl] at e1 e2
      refine cells_inj (fun p hp => ?_) (fun y z c a b => I.ok.inj y z c (cm a).1 (cm b).1) (PySem.mem_of_lookup e1) (PySem.mem_of_lookup e2)
      rw [Heap.size_push]
      exact Nat.lt_succ_of_lt (cm (y := p.1) (c := p.2) hp).2
    · show ∃ c, cenv.cells.lookup y = some c
      have key : ∀ k, cenv.kindOf y = some k → (k = .cell ∨ k = .free) → ∃ c, cenv.cells.lookup y = some c := fun k hk hk' => by
        unfold Env.kindOf at hk
        rw [hsc] at hk
        obtain ⟨k', e, r⟩ := lookup_relS hk
        have : k' = .cell ∨ k' = .free := by
          rcases r with rfl | ⟨rfl, _⟩
          · exact hk'
          · exact .inr rfl
        rcases this with rfl | rfl
        · obtain ⟨c, hm⟩ := cells_has (n := (s.heap.push { cls := .type "dict", data := .dict #[] }).objs.size) (acc := cloFrom X.env.cells scope.names []) (PySem.mem_of_lookup e)
          obtain ⟨c', e'⟩ := mem_lookup hm
          exact ⟨c', by rw [hcl]; exact e'⟩
        · obtain ⟨c, h1, _⟩ := look e
          exact ⟨c, h1⟩
      rcases hy with hy | hy
      · exact key _ hy (.inl rfl)
      · exact key _ hy (.inr rfl)
    · have z : (scope.names.lookup y == some NameKind.cell) = true := z
      have z : scope.names.lookup y = some .cell := by simpa using z
      have e : cenv.cells.lookup y = some c := e
      rw [hcl] at e
      rcases cells_mem (PySem.mem_of_lookup e) with hm | ⟨_, h2, _⟩
      · rcases cloFrom_mem hm with hm | ⟨h1, _⟩
        · cases hm
        · have q := ok.uniq _ h1
          rw [z] at q; cases q
      · rw [Heap.size_push] at h2
        exact Nat.le_of_succ_le h2
    · show b ≠ cenv.locals
      rw [hL]; exact Nat.ne_of_lt (hfp b hb).2
    · have e : cenv.cells.lookup y = some c := e
      rcases mem e with ⟨h1, _⟩ | ⟨h1, _⟩
      · exact (hfp b hb).1.2.2.2.2.1 y c h1 z
      · have h2 : s.heap.objs.size + 1 ≤ b := by rw [← z]; exact h1
        exact absurd (Nat.lt_of_lt_of_le (hfp b hb).2 (Nat.le_of_succ_le h2)) (Nat.lt_irrefl _)
    · rcases (hfp b hb).1.2.2.2.1 with z | z
      · exact I.ok.noex b o e z
      · exact absurd (Nat.lt_of_lt_of_le (Heap.lt_size e) (Nat.le_trans I.ok.bsz z)) (Nat.lt_irrefl _)
    · rcases List.mem_cons.mp (I.stkSub b z) with z | z
      · exact (hfp b hb).1.2.1 z
      · exact (hfp b hb).1.2.2.1 z
  refine ⟨okB, rfl, I.bare, Un.kept kp, ⟨fun _ => none, ?_, fun i y av e1 e2 e3 => ?_⟩, fun y c e => ?_, ?_, fun y c e => ?_, fun p hp => ?_, I.hok.kept kp, by rw [wipe_length]; exact I.len⟩
  · show Heap.Ns _ cenv.locals _
    rw [hL]
    exact Heap.Ns.keeps (Heap.Ns.new ..) fun b o e => pushCells_keeps _ _ _ _ e
  · obtain ⟨e2, hne⟩ := wipe_some e2
    have hfr : scope.names.lookup y = some .free ∧ (cenv.kindOf y = some .cell ∨ cenv.kindOf y = some .free) := by
      have key : ∀ k, cenv.scope.names.lookup y = some k → k = .local ∨ k = .cell ∨ k = .free → scope.names.lookup y = some .free ∧ (cenv.kindOf y = some .cell ∨ cenv.kindOf y = some .free) := fun k hk hk' => by
        have hk0 := hk
        rw [hsc] at hk
        obtain ⟨k', e, r⟩ := lookup_relS hk
        have no : ¬ (k' = .local ∨ k' = .cell) := fun hh => by
          rcases ok.own _ (PySem.mem_of_lookup e) hh with e' | e'
          · obtain ⟨p, hp, hpy⟩ := List.mem_map.mp e'
            have e3 := ok.ix p hp
            have : p.1 = y := hpy
            rw [this] at e3
            exact hne (List.mem_map.mpr ⟨p, hp, nodup_ix hN e3 e1⟩)
          · exact e' (List.mem_of_getElem? e1)
        rcases r with rfl | ⟨rfl, rfl⟩
        · rcases hk' with rfl | rfl | rfl
          · exact absurd (.inl rfl) no
          · exact absurd (.inr rfl) no
          · exact ⟨e, .inr hk0⟩
        · exact ⟨e, .inl hk0⟩
      have e3 : Vis cenv.scope y := e3
      rcases e3 with e3 | e3 | e3
      · exact key _ e3 (.inl rfl)
      · exact key _ e3 (.inr (.inl rfl))
      · exact key _ e3 (.inr (.inr rfl))
    obtain ⟨m, hn, hl⟩ := I.loc
    have hvis : Vis X.env.scope y := (ok.free _ (PySem.mem_of_lookup hfr.1) rfl).elim (fun k => .inr (.inl k)) (fun k => .inr (.inr k))
    obtain ⟨w, r, q⟩ := hl i y av e1 e2 hvis
    refine ⟨w, r, .inr ⟨hfr.2, ?_⟩⟩
    obtain ⟨c, h1, h2⟩ := look hfr.1
    rcases q with ⟨k, _⟩ | ⟨_, c', e', z⟩
    · have k : X.env.scope.names.lookup y = some .local := k
      rcases ok.free _ (PySem.mem_of_lookup hfr.1) rfl with k' | k' <;> rw [show X.env.scope.names.lookup y = _ from k'] at k <;> cases k
    · rw [h2] at e'; cases e'
      exact ⟨c, h1, z.keeps kp⟩
  · have e : cenv.cells.lookup y = some c := e
    rcases mem e with ⟨h1, _⟩ | ⟨_, z⟩
    · obtain ⟨w, z⟩ := I.cell y c h1
      exact ⟨w, z.keeps kp⟩
    · exact ⟨_, z⟩
  · show H cenv.locals = none
    rw [hL]; exact I.hok.fresh (Nat.le_refl _)
  · have e : cenv.cells.lookup y = some c := e
    rcases mem e with ⟨h1, _⟩ | ⟨h1, _⟩
    · exact I.freeC y c h1
    · exact I.hok.fresh (Nat.le_of_succ_le h1)
  · exact absurd (show p ∈ ([] : List (Addr × Obj)) ++ [] from hp) (by simp)

/-- an item appended to a tracked list -/
theorem app_ok {E : Value → Shared → Prop} {D : Addr} {xs : List V} {y : V} {v : Value} {Q : Value → Shared → Prop} (I : Inv X pins σ H s) (hD : H D = some (.lst xs)) (hz : xs.length < sizeLine) (r : RelV y v)
    (h : ∀ s', Inv X pins σ (upd H D (.lst (xs ++ [y]))) s' → Q .none s') : wpAny (model X.prog X.w) X.A (call (.builtin "list.append") [.ref D, v]) Q E s := by
  obtain ⟨hz', its, n, ri, e⟩ := I.hok D _ hD
  have hl := ri.length
  refine append_at (hsz := by rw [List.size_toArray]; omega) e fun h' sb ho' => ?_
  refine h { s with heap := h' } (I.write (t' := s.toks) (by rw [hD]; trivial) (.inl rfl) (fun b u hb q => (sb.2 b hb).trans q) ⟨_, ho'⟩ ⟨by rw [List.length_append]; exact hz, its ++ [v], n + 1, ri.append (.cons r .nil), ?_⟩)
  rw [ho']
  simp

/-- a clause's tests -/
def PTs (X : Cx) (ifs : List Expr) (t : TT) : Prop :=
  ∀ (pins : List (Addr × Obj)) (s : Shared) (σ : St) (H : Hp) (Q : Bool → Hp → Prop), Inv X pins σ H s → t σ H Q →
    wpAny (model X.prog X.w) X.A (forIn ifs true fun c r => if r = true then do let ok ← isTrue c X.env (eval c X.env); pure (ForInStep.yield ok) else pure (ForInStep.yield r)) (TP X pins σ Q) X.xe s
def tYes : TT := fun _ H Q => Q true H
theorem pts_nil : PTs X [] tYes := fun _ _ _ H _ I h => wpAny_tests_nil ⟨H, I, h⟩
end

theorem thnF {α : Type} {t : Sem α} {Q Q' : α → Shared → Prop} {M : Model} {A : Around} {E : Value → Shared → Prop} {s : Shared} (h : wpAny M A t Q (fun _ _ => False) s) (hQ : ∀ a s, Q a s → Q' a s) : wpAny M A t Q' E s := wpAny_mono h hQ fun _ _ z => False.elim z

/-- the loop of a list comprehension's block, the target of any form (codeAny_compLoop_tests asks a target that no tuple goes to; statement and proof follow it, PyProof/CompMap.lean:41-61, with the step letOwnedTupleGo kept) -/
theorem compLoop_any {prog : Program} {w : World} {A : Around} {R : Result → Shared → Prop} {s : Shared} {elt target iter : Expr} {ifs : List Expr} {scope : Scope} {pos : Pos} {it acc : Value} {env : Env} (I : Nat → Shared → Prop)
    (turn : ∀ n s, I n s → wpAny (model prog w) A (pyNext it) (fun r s₁ => match r with
      | none => R (.ok .next) s₁
      | some v => wpAny (model prog w) A (letOwnedTupleGo target it v) (fun _ s₁' => wpAny (model prog w) A (assign target env v) (fun _ s₂ =>
          wpAny (model prog w) A (forIn ifs true fun c r => if r = true then do let ok ← isTrue c env (eval c env); pure (ForInStep.yield ok) else pure (ForInStep.yield r)) (fun ok s₃ =>
            if ok = true then wpAny (model prog w) A (eval elt env) (fun x s₄ =>
              wpAny (model prog w) A (call (.builtin "list.append") [acc, x]) (fun _ s₅ => ∃ m, m < n ∧ I m s₅) (notedBy (model prog w) A env fun e s' => R (.error e) s') s₄) (notedBy (model prog w) A env fun e s' => R (.error e) s') s₃
            else ∃ m, m < n ∧ I m s₃) (notedBy (model prog w) A env fun e s' => R (.error e) s') s₂) (notedBy (model prog w) A env fun e s' => R (.error e) s') s₁') (notedBy (model prog w) A env fun e s' => R (.error e) s') s₁) (notedBy (model prog w) A env fun e s' => R (.error e) s') s)
    (n : Nat) (h : I n s) :
    codeAny (model prog w) A (.compLoop (.ListComp elt [⟨target, iter, ifs, 0⟩] scope pos) 0 it acc env) R s := by
  refine codeAny_loop rfl I (fun n s hI => ?_) n h
  show wpAny _ A ((compTurn (.ListComp elt [⟨target, iter, ifs, 0⟩] scope pos) 0 it acc env).onRaise (fun x => do noteFrame x env; theTreesLotGoes x)) _ _ s
  refine wpAny_noted ?_
  rw [compTurn_list]
  refine wpAny_bind (wpAny_standAt (wpAny_bind (wpAny_mono (turn n s hI) (fun r s₁ h₁ => ?_) fun _ _ h' => h')))
  cases r with
  | none => exact wpAny_pure h₁
  | some v =>
    refine wpAny_bind (wpAny_mono h₁ (fun _ s₁' h₁' => ?_) fun _ _ h' => h')
    refine wpAny_bind (wpAny_mono h₁' (fun _ s₂ h₂ => wpAny_bind (wpAny_mono h₂ (fun ok s₃ h₃ => ?_) fun _ _ h' => h')) fun _ _ h' => h')
    cases ok with
    | false => exact wpAny_pure ⟨rfl, h₃⟩
    | true =>
      exact wpAny_bind (wpAny_bind (wpAny_mono h₃ (fun x s₄ h₄ => wpAny_bind (wpAny_mono h₄ (fun _ s₅ h₅ => wpAny_pure (wpAny_pure ⟨rfl, h₅⟩)) fun _ _ h' => h')) fun _ _ h' => h'))

section
variable {X : Cx}
/-- [elt for target in iter if ..]: D the new list; W by the turn and a measure, Nx what a turn is to reach -/
def tLc (wi : TI) (g : TG) (tt : TT) (te : TE) (vs : List Nat) : TE := fun σ H Q => wi σ H fun J H1 => ∀ D, H1 D = none → ∃ W : Nat → Nat → Hp → Prop, (∃ m, W 0 m (upd H1 D (.lst []))) ∧ ∀ i m H, W i m H →
  (J.stop i H ∧ Q (.ref D) H) ∨ (J.go i H ∧ ∃ Nx : Hp → Prop, (∀ H', Nx H' → ∃ m', m' < m ∧ W (i + 1) m' H') ∧ ∀ x H', J.yld i H x H' → g x (wipe σ vs) H' fun σ2 H2 => wipe σ2 vs = wipe σ vs ∧ tt σ2 H2 fun b H3 =>
    if b = true then te σ2 H3 fun y H4 => ∃ acc, H4 D = some (.lst acc) ∧ acc.length < sizeLine ∧ Nx (upd H4 D (.lst (acc ++ [y]))) else Nx H3)
theorem lc_core {pins : List (Addr × Obj)} {s : Shared} {σ : St} {H : Hp} {Q : VK} {elt tg iter : Expr} {ifs : List Expr} {scope : Scope} {own : List (Str × Nat)} {pos pos' : Pos} {wi : TI} {g : TG} {tt : TT} {te : TE} {use : Option (Value → Sem Unit)} {Qf : Value → Shared → Prop}
    (hc : X.calm = true) (hN : X.N.Nodup) (I : Inv X pins σ H s) (hi : PI X tg iter wi) (ok : BlkOk X.N X.env.scope scope own)
    (hg : ∀ (s : Shared) (H : Hp) (C : Addr) (cl : List (Str × Addr)) (fp : List Addr), PG (X.blk s H scope (compEnvC scope cl C X.env) fp) tg g) (ht : ∀ (s : Shared) (H : Hp) (C : Addr) (cl : List (Str × Addr)) (fp : List Addr), PTs (X.blk s H scope (compEnvC scope cl C X.env) fp) ifs tt)
    (he : ∀ (s : Shared) (H : Hp) (C : Addr) (cl : List (Str × Addr)) (fp : List Addr), PE (X.blk s H scope (compEnvC scope cl C X.env) fp) elt te) (hs : ∀ x, foldedSetIterable iter X.env x = pure x)
    (h : tLc wi g tt te (own.map (·.2)) σ H Q)
    (hRR : ∀ D C s' m H', Inv X pins σ H' s' → Q (.ref D) H' → s'.heap.Ns C m → FpOk X pins H' C → compPost (model X.prog X.w) X.A X.xe use Qf (.ref D) C (.ok .next) s') :
    wpAny (model X.prog X.w) X.A (comprehension (.ListComp elt [⟨tg, iter, ifs, 0⟩] scope pos) scope X.env pos' (newList []) false (eval iter X.env) use) Qf X.xe s := by
  have hfree : ∀ y ∈ scope.names, y.2 = .free → ∃ c, X.env.cells.lookup y.1 = some c := fun y hy e => by
    rcases ok.free y hy e with k | k
    · exact I.ok.has _ (.inl k)
    · exact I.ok.has _ (.inr k)
  refine wpAny_comprehension_free (use := use) rfl hs (closure_ok hfree) ok.kind (fun y hy e => by rw [ok.uniq y hy, e])
    (thn (hi pins s σ H _ I h) fun xv s1 hx => thn hx fun itv s2 h2 => ?_)
  obtain ⟨it, fp, tn, J, H2, e, I2, T, st2, f2, q⟩ := h2
  subst e
  refine wpAny_newObj_type (newEnv_comp ?_) (by show 0 ≤ sizeLine; decide)
  generalize hD : s2.heap.objs.size = D
  have hDn : H2 D = none := I2.hok.fresh (Nat.le_of_eq hD)
  obtain ⟨W, ⟨m0, w0⟩, turn⟩ := q D hDn
  -- the new list
  generalize hs3 : ({ s2 with heap := s2.heap.push { cls := .type "list", data := .seq ([] : List Value).toArray } } : Shared) = s3
  have I3 : Inv X pins σ (upd H2 D (.lst [])) s3 := by
    rw [← hs3]
    refine I2.laid (t' := s2.toks) (fun b o e => Heap.get?_push_of_some _ e) (Nat.le_of_eq hD) ⟨Nat.zero_le _, [], 0, .nil, ?_⟩
    rw [← hD]
    exact Heap.get?_push_size _ rfl
  have h3 : s3.heap = s2.heap.push { cls := .type "list", data := .seq ([] : List Value).toArray } := by rw [← hs3]
  have sz : ∀ b ∈ fp, b < s2.heap.objs.size := fun b hb => by
    obtain ⟨o, e, _⟩ := T.obj _ _ st2 b hb
    exact Heap.lt_size e
  have f3 : ∀ b ∈ fp, FpOk X pins (upd H2 D (.lst [])) b ∧ b < s3.heap.objs.size := fun b hb => by
    have hlt := sz b hb
    refine ⟨⟨?_, (f2 b hb).2⟩, by rw [h3, Heap.size_push]; exact Nat.lt_succ_of_lt hlt⟩
    rw [upd_ne (by rw [← hD]; exact Nat.ne_of_lt hlt)]
    exact (f2 b hb).1
  have st3 : tn 0 s3.heap := T.keep _ _ _ st2 fun b _ o e => by rw [h3]; exact Heap.get?_push_of_some _ e
  have I4 := block_start I3 ok hN f3
  have pg := hg s3 (upd H2 D (.lst [])) s3.heap.objs.size (cellsFrom (s3.heap.objs.size + 1) scope.names (cloFrom X.env.cells scope.names [])) fp
  have pt := ht s3 (upd H2 D (.lst [])) s3.heap.objs.size (cellsFrom (s3.heap.objs.size + 1) scope.names (cloFrom X.env.cells scope.names [])) fp
  have pe := he s3 (upd H2 D (.lst [])) s3.heap.objs.size (cellsFrom (s3.heap.objs.size + 1) scope.names (cloFrom X.env.cells scope.names [])) fp
  show codeAny _ _ (.compStart (.ListComp elt [⟨tg, iter, ifs, 0⟩] scope pos) 0 (.ref it) (.ref D) (compEnvC scope (cellsFrom (s3.heap.objs.size + 1) scope.names (cloFrom X.env.cells scope.names [])) s3.heap.objs.size X.env)) (compPost (model X.prog X.w) X.A X.xe use Qf (.ref D) s3.heap.objs.size) { s3 with heap := pushCells (s3.heap.push { cls := .type "dict", data := .dict #[] }) scope.names }
  have nfp : ∀ b ∈ fp, (upd H2 D (.lst [])) b = none := fun b hb => (f3 b hb).1.1
  generalize hce : compEnvC scope (cellsFrom (s3.heap.objs.size + 1) scope.names (cloFrom X.env.cells scope.names [])) s3.heap.objs.size X.env = ce at I4 pg pt pe ⊢
  have cL : ce.locals = s3.heap.objs.size := by subst hce; rfl
  generalize hH3 : upd H2 D (.lst []) = H3 at I3 I4 pg pt pe w0 nfp f3
  generalize hs4 : ({ s3 with heap := pushCells (s3.heap.push { cls := .type "dict", data := .dict #[] }) scope.names } : Shared) = s4 at I4 ⊢
  have st4 : tn 0 s4.heap := T.keep _ _ _ st3 fun b _ o e => by rw [← hs4]; exact pushCells_keeps _ _ _ _ (Heap.get?_push_of_some _ e)
  have stat : ∀ {σ' : St} {H' : Hp} {s' : Shared}, Inv (X.blk s3 H3 scope ce fp) [] σ' H' s' → (∀ b ∈ fp, H' b = none) → ∀ b ∈ fp, FpOk (X.blk s3 H3 scope ce fp) [] H' b := fun {σ' H' s'} I' hn b hb =>
    ⟨hn b hb, (I'.ok.exf b hb).1, I'.ok.exfs b hb, .inl hb, fun x c e => (I'.ok.exf b hb).2 x c e, fun p hp => absurd (show p ∈ ([] : List (Addr × Obj)) ++ [] from hp) (by simp)⟩
  have loop : codeAny (model X.prog X.w) X.A (.compLoop (.ListComp elt [⟨tg, iter, ifs, 0⟩] scope pos) 0 (.ref it) (.ref D) ce) (compPost (model X.prog X.w) X.A X.xe use Qf (.ref D) s3.heap.objs.size) s4 := by
    refine compLoop_any (fun n s' => ∃ i H', Inv (X.blk s3 H3 scope ce fp) [] (wipe σ (own.map (·.2))) H' s' ∧ tn i s'.heap ∧ (∀ b ∈ fp, H' b = none) ∧ W i n H') ?_ m0 ⟨0, H3, I4, st4, nfp, w0⟩
    rintro n s5 ⟨i, H5, I5, st5, n5, w5⟩
    rcases turn i n H5 w5 with ⟨stop, qq⟩ | ⟨go, Nx, hNx, step⟩
    · have td := T.done (X.blk s3 H3 scope ce fp) rfl rfl rfl hc i [] s5 _ H5 (fun _ _ => False) I5 (stat I5 n5) st5 stop
      refine thnF td fun r s6 ⟨hr, I6⟩ => ?_
      subst hr
      -- back in the def's context
      have I7 : Inv X pins σ H5 s6 := I3.call' (ch := fp) I6.os I6.base I6.hok I6.bare fun b hb => ⟨(f3 b hb).1.2.2.2.1, (f3 b hb).1.2.1, (f3 b hb).1.2.2.2.2.1, (f3 b hb).1.2.2.2.2.2⟩
      have nC : H5 s3.heap.objs.size = none := by
        have z : H5 ce.locals = none := I6.free
        rw [cL] at z
        exact z
      obtain ⟨m, hn, _⟩ := I6.loc
      have hn : s6.heap.Ns ce.locals m := hn
      rw [cL] at hn
      exact hRR D s3.heap.objs.size s6 m H5 I7 qq hn (I3.fpOk (Nat.le_refl _) nC)
    · have ti := T.item (X.blk s3 H3 scope ce fp) rfl rfl rfl hc i [] s5 _ H5 (fun _ _ => False) I5 (stat I5 n5) st5 go
      refine thnF ti fun r s6 ⟨u, hr, h6⟩ => ?_
      subst hr
      refine thnF h6 fun _ s7 ⟨x, H7, I7, r7, y7, st7, n7⟩ => ?_
      have I7' := I7.pinned (stat I7 n7) (T.obj _ _ st7)
      refine thnF (pg _ s7 _ H7 x u _ I7' r7 (step x H7 y7)) fun _ s8 ⟨σ8, H8, I8, hw8, q8⟩ => ?_
      refine thnF (pt _ s8 σ8 H8 _ I8 q8) fun b s9 ⟨H9, I9, q9⟩ => ?_
      -- the turn's end
      have fin : ∀ {s' : Shared} {H' : Hp}, Inv (X.blk s3 H3 scope ce fp) ([] ++ pinsAt fp s7.heap) σ8 H' s' → Nx H' → ∃ m, m < n ∧ ∃ i H', Inv (X.blk s3 H3 scope ce fp) [] (wipe σ (own.map (·.2))) H' s' ∧ tn i s'.heap ∧ (∀ b ∈ fp, H' b = none) ∧ W i m H' := fun {s' H'} I' nx => by
        obtain ⟨m', hm, w'⟩ := hNx H' nx
        have pin' : ∀ b ∈ fp, ∀ o, s7.heap.get? b = some o → s'.heap.get? b = some o ∧ H' b = none := fun b hb o e =>
          let z := I'.pin (b, o) (List.mem_append_right _ (List.mem_append_right _ (mem_pinsAt hb e)))
          ⟨z.1, z.2.1⟩
        have hl : (wipe σ (own.map (·.2))).length = σ8.length := by rw [← hw8, wipe_length]
        refine ⟨m', hm, i + 1, H', (I'.unpinned (pins := [])).weak hl (fun j v e => ?_), T.keep _ _ _ st7 fun b hb o e => (pin' b hb o e).1, fun b hb => ?_, w'⟩
        · rw [← hw8] at e
          exact (wipe_some e).1
        · obtain ⟨o, e, _⟩ := T.obj _ _ st7 b hb
          exact (pin' b hb o e).2
      cases b with
      | false =>
        simp only [Bool.false_eq_true, if_false] at q9 ⊢
        exact fin I9 q9
      | true =>
        simp only [if_true] at q9 ⊢
        refine thnF (pe _ s9 σ8 H9 _ I9 q9) fun z s10 ⟨yv, H10, I10, r10, acc, hD10, hz10, nx⟩ => ?_
        exact app_ok (X := X.blk s3 H3 scope ce fp) I10 hD10 hz10 r10 fun s11 I11 => fin I11 nx
  exact codeAny_compStart_list loop (T.self X.A 0 _ _ _ st4 loop)
/-- as a value -/
theorem pe_lc {elt tg iter : Expr} {ifs : List Expr} {scope : Scope} {own : List (Str × Nat)} {pos : Pos} {wi : TI} {g : TG} {tt : TT} {te : TE} (hc : X.calm = true) (hN : X.N.Nodup) (hi : PI X tg iter wi) (ok : BlkOk X.N X.env.scope scope own)
    (hg : ∀ (s : Shared) (H : Hp) (C : Addr) (cl : List (Str × Addr)) (fp : List Addr), PG (X.blk s H scope (compEnvC scope cl C X.env) fp) tg g) (ht : ∀ (s : Shared) (H : Hp) (C : Addr) (cl : List (Str × Addr)) (fp : List Addr), PTs (X.blk s H scope (compEnvC scope cl C X.env) fp) ifs tt)
    (he : ∀ (s : Shared) (H : Hp) (C : Addr) (cl : List (Str × Addr)) (fp : List Addr), PE (X.blk s H scope (compEnvC scope cl C X.env) fp) elt te) (hs : ∀ x, foldedSetIterable iter X.env x = pure x := by intro _; rfl) :
    PE X (.ListComp elt [⟨tg, iter, ifs, 0⟩] scope pos) (tLc wi g tt te (own.map (·.2))) := by
  intro pins s σ H Q I h
  rw [eval_ListComp]
  refine lc_core hc hN I hi ok hg ht he hs h fun D C s' m H' I' q hn f => ⟨m, hn, fun h'' sb => ?_⟩
  obtain ⟨f0, f1, f2, f3, f4, f5⟩ := f
  exact ⟨.ref D, H', I'.turned (t' := s'.toks) (fun b o hb e => (sb.2 b hb).trans e) f0 f1 f3 f4 f5, rfl, q⟩
end

/-! ### the forms one uses -/
def blkC (N : List Str) (sc scope : Scope) (own : List (Str × Nat)) : Bool :=
  (match scope.kind with | .function => true | _ => false) && (scope.names.all fun y => decide (scope.names.lookup y.1 = some y.2)) && (own.all fun p => decide (N[p.2]? = some p.1)) &&
    (scope.names.all fun y => match y.2 with
      | .free => (match sc.names.lookup y.1 with | some .cell => true | some .free => true | _ => false)
      | .local => decide (y.1 ∈ own.map (·.1)) || decide (y.1 ∉ N)
      | .cell => decide (y.1 ∈ own.map (·.1)) || decide (y.1 ∉ N)
      | _ => true)
theorem blkOk_by {N : List Str} {sc scope : Scope} {own : List (Str × Nat)} (h : blkC N sc scope own = true) : BlkOk N sc scope own := by
  unfold blkC at h
  simp only [Bool.and_eq_true, List.all_eq_true, decide_eq_true_eq] at h
  obtain ⟨⟨⟨h1, h2⟩, h3⟩, h4⟩ := h
  refine ⟨?_, h2, h3, fun y hy e => ?_, fun y hy e => ?_⟩
  · split at h1
    · assumption
    · cases h1
  · have q := h4 y hy
    simp only [e] at q
    split at q <;> first | exact .inl (by assumption) | exact .inr (by assumption) | cases q
  · have q := h4 y hy
    rcases e with e | e <;> (simp only [e, Bool.or_eq_true, decide_eq_true_eq] at q; exact q)
end L2

namespace L2
open PySem PySem.Spec PyProof.Rows

section
variable {prog : Program} {w : World} {A : Around} {R : Result → Shared → Prop} {s : Shared} {elt t0 i0 t1 i1 : Expr} {ifs0 ifs1 : List Expr} {scope : Scope} {pos : Pos} {it acc : Value} {env : Env}
end

section
variable {X : Cx}
end
end L2

namespace L2
open PySem PySem.Spec PyProof.Rows

/-! ### lists of pairs as tables -/
section
variable {κ : Type} [DecidableEq κ]
end


/-! ### a tracked dict, its keys ints and texts or tuples of these -/
section
variable {P : Program} {w : World} {H : Hp} {h : Heap} {a : Addr}
end

section
variable {X : Cx} {pins : List (Addr × Obj)} {σ : St} {H : Hp} {s : Shared} {a : Addr} {y v : V} {u r : Value} {o : Option V} {A : Around} {E : Value → Shared → Prop}

end

section
variable {X : Cx} {pins : List (Addr × Obj)} {σ : St} {H : Hp} {s : Shared} {a : Addr} {kvs : List (Key × V)} {k : Key} {u : Value} {A : Around} {E : Value → Shared → Prop}
end


/-! ### readings and rules -/
section
variable {X : Cx} {o i e value : Expr} {pos pos' tpos : Pos} {td ty tv : TE}
end


/-! ### displays -/
section
variable {X : Cx} {pos : Pos}
end

/-! ### methods -/
/-- a method call o.m(e) of a built-in, with one argument: what must be seen of the text -/
structure M1 (X : Cx) (o : Expr) (m : Str) (apos : Pos) (e : Expr) (cpos : Pos) : Prop where
  base : attributeBase o m X.env (eval o X.env) = eval o X.env
  few : ((backTo cpos (starEach [e] X.env)).all (fun x => !x.1) && (backToKw cpos (keywordEach [] X.env)).all (fun x => x.1.isSome)
    && decide (([e] : List Expr).length + ([] : List Keyword).length + (if ([] : List Keyword).isEmpty then 0 else 1) < 30)) = true
  line : (apos.endLine == cpos.line) = true
  trees : backTo cpos (starEach [e] X.env) = [(false, eval e X.env)]
structure M2 (X : Cx) (o : Expr) (m : Str) (apos : Pos) (e f : Expr) (cpos : Pos) : Prop where
  base : attributeBase o m X.env (eval o X.env) = eval o X.env
  few : ((backTo cpos (starEach [e, f] X.env)).all (fun x => !x.1) && (backToKw cpos (keywordEach [] X.env)).all (fun x => x.1.isSome)
    && decide (([e, f] : List Expr).length + ([] : List Keyword).length + (if ([] : List Keyword).isEmpty then 0 else 1) < 30)) = true
  line : (apos.endLine == cpos.line) = true
  trees : backTo cpos (starEach [e, f] X.env) = [(false, eval e X.env), (false, eval f X.env)]

section
variable {X : Cx} {pins : List (Addr × Obj)} {σ : St} {H : Hp} {s : Shared} {a : Addr} {y d : V} {u r : Value} {o : Option V} {A : Around} {E : Value → Shared → Prop}
end

section
variable {X : Cx} {o e f : Expr} {apos cpos : Pos} {td ty tx : TE}
end

/-! ### dict(d): a copy -/
section
variable {X : Cx} {pins : List (Addr × Obj)} {σ : St} {H : Hp} {s : Shared} {a : Addr} {kvs : List (Key × V)} {A : Around} {E : Value → Shared → Prop}
end


section
variable {X : Cx} {pins : List (Addr × Obj)} {σ : St} {H : Hp} {s : Shared} {a : Addr} {y : V} {u : Value} {A : Around} {E : Value → Shared → Prop}
end
end L2

namespace L2
open PySem PySem.Spec PyProof.Rows

section
variable {prog : Program} {w : World} {A : Around} {E : Value → Shared → Prop}
end

section
variable {X : Cx}
end
end L2

namespace L2
open PySem PySem.Spec PyProof.Rows

section
variable {X : Cx} {pins : List (Addr × Obj)} {σ : St} {H : Hp} {s : Shared} {h' : Heap}
/-! ### locking a thing while a statement runs -/
end
section
variable {X : Cx}
/-! ### one iterator just laid -/
theorem pi_one {tg : Expr} {pins : List (Addr × Obj)} {σ : St} {H : Hp} {s : Shared} {R : It → Hp → Prop} {J : It} {tn : Nat → Heap → Prop} {tk : Nat} (I : Inv X pins σ H s) (o : Obj)
    (T : Turn X.prog X.w X.K tg J [s.heap.objs.size] s.heap.objs.size tn) (st : tn 0 (s.heap.push o)) (q : R J H) : PIE X pins σ tg R (.ref s.heap.objs.size) { s with heap := s.heap.push o, toks := tk } := by
  refine ⟨s.heap.objs.size, [s.heap.objs.size], tn, J, H, rfl, I.kept fun b ob e => Heap.get?_push_of_some _ e, T, st, fun b hb => ?_, q⟩
  have e : b = s.heap.objs.size := by simpa using hb
  subst e
  exact I.fpOk (Nat.le_refl _) (I.hok.fresh (Nat.le_refl _))
end

/-! ### range with a step -/
section
variable {X : Cx} {tg : Expr}
end
/-! ### reversed(list) -/
section
variable {X : Cx} {tg : Expr}
end

/-! ### a str -/
def Its (x : Str) : It := ⟨fun i _ => i < x.cps.size, fun i H v H' => H' = H ∧ ∃ c, x.cps[i]? = some c ∧ v = .str ⟨#[c]⟩, fun i _ => x.cps.size ≤ i⟩
theorem turn_str {P : Program} {w : World} {K : PySem.W.Frag} {tg : Expr} (it : Addr) (x : Str) (t : Tok) (ty : String) (hty : ty = "str_ascii_iterator" ∨ ty = "str_iterator") :
    Turn P w K tg (Its x) [it] it (fun i h => h.IsStrIter it ty x t i) where
  mem := by simp
  obj := fun i h st b hb => by
    have e : b = it := by simpa using hb
    subst e
    obtain ⟨o, e, c, d⟩ := st
    exact ⟨o, e, fun v z => by rw [d] at z; cases z⟩
  keep := fun i h h' st k => let ⟨o, ho, r⟩ := st; ⟨o, k it (by simp) o ho, r⟩
  item := by
    intro X hP hw hK hc i pins s σ H E I hf st hg
    subst hP hw hK
    obtain ⟨f0, f1, f2, f3, f4, f5⟩ := hf it (by simp)
    have W : Walks X.prog X.w X.A it [it] [it] x.cps.size (SignAt x) (fun i h => h.IsStrIter it ty x t i) := by
      rcases hty with e | e
      · rw [e]; exact Walks.strAscii (I.ok.hd hc) it x t
      · rw [e]; exact Walks.strWide (I.ok.hd hc) it x t
    have hno : ["enumerate", "zip", "dict_itemiterator", "dict_reverseitemiterator", "odict_iterator", "itertools.zip_longest", "itertools.pairwise"].contains ty = false := by
      rcases hty with e | e
      · rw [e]; decide
      · rw [e]; decide
    refine W.item i s _ _ hg st fun v h' tk hv st' kk => ?_
    obtain ⟨c, u, hcx, rfl⟩ := hv
    have I1 : Inv X pins σ H { s with heap := h', toks := tk } := I.turned (fun b o hb e => kk b o (by simpa using hb) e) f0 f1 f3 f4 f5
    obtain ⟨oi, e, cc, dd⟩ := id st'
    exact ⟨_, rfl, go_of (s := { s with heap := h', toks := tk }) e cc dd hno ⟨.str ⟨#[c]⟩, H, I1, ⟨u, rfl⟩, ⟨rfl, c, hcx, rfl⟩, st', fun b hb => (hf b hb).1⟩⟩
  done := by
    intro X hP hw hK hc i pins s σ H E I hf st hg
    subst hP hw hK
    obtain ⟨f0, f1, f2, f3, f4, f5⟩ := hf it (by simp)
    have hx : x.cps[i]? = none := Array.getElem?_eq_none hg
    rcases hty with e | e
    · rw [e] at st
      exact wpAny_pyNext_ascii_end (I.ok.hd hc) st hx fun h' eb => ⟨rfl, I.turned (t' := s.toks) (fun b o hb e => eb b o hb e) f0 f1 f3 f4 f5⟩
    · rw [e] at st
      exact wpAny_pyNext_wide_end (I.ok.hd hc) st hx fun h' eb => ⟨rfl, I.turned (t' := s.toks) (fun b o hb e => eb b o hb e) f0 f1 f3 f4 f5⟩
  self := fun A i s Q E st h => by
    rcases hty with e | e
    · rw [e] at st; exact wpAny_pyIter_striter_ascii st h
    · rw [e] at st; exact wpAny_pyIter_striter_wide st h
def iStr (te : TE) : TI := fun σ H R => te σ H fun v H1 => ∃ x, v = .str x ∧ R (Its x) H1
theorem pi_str {X : Cx} {tg e : Expr} {te : TE} (he : PE X e te) : PI X tg e (iStr te) := by
  intro pins s σ H R I h
  refine thn (he pins s σ H _ I h) fun v s1 ⟨y, H1, I1, r1, x, ex, q⟩ => ?_
  subst ex
  obtain ⟨t, rfl⟩ := r1
  cases ha : x.cps.all (· < 128)
  · exact wpAny_pyIter_wide ha (pi_one (tk := s1.toks) I1 _ (turn_str _ x t "str_iterator" (.inr rfl)) ⟨_, Heap.get?_push_size _ rfl, rfl, rfl⟩ q)
  · exact wpAny_pyIter_ascii ha (pi_one (tk := s1.toks) I1 _ (turn_str _ x t "str_ascii_iterator" (.inl rfl)) ⟨_, Heap.get?_push_size _ rfl, rfl, rfl⟩ q)

/-! ### a dict's keys: any dict's entries -/
section
variable {prog : Program} {w : World} {A : Around} {E : Value → Shared → Prop} {s : Shared}
end

/-! ### a locked dict -/
section
variable {X : Cx} {pins : List (Addr × Obj)} {σ : St} {H : Hp} {s : Shared} {d : Addr} {o : Obj}
end

section
variable {P : Program} {w : World} {K : PySem.W.Frag} {tg : Expr} {d : Addr} {o : Obj} {es : Array DictEntry} {ep : Nat}
end

/-! ### for k in d, d.keys(), d.values(), d.items() -/
section
variable {X : Cx} {tg e : Expr} {td : TE} {apos cpos : Pos}
end

/-! ### enumerate(list) -/
/-! ### zip(list, list) -/
end L2

section 
namespace Bits
open PySem PyProof.Rows

end Bits
end 

section 
namespace TL
open PySem PySem.Builtin PySem.Builtin.Str PySem.StrLaws

/-! ### the list functions -/
/-! ### the model's split and partition are these -/
/-! ### computing spl and par -/
/-! ### digits -/
/-! ### words: x.split() -/
end TL
end 

namespace L2
open PySem PySem.Spec PyProof.Rows

section
variable {X : Cx} {pins : List (Addr × Obj)} {σ : St} {H : Hp} {s : Shared} {Q : VK}
end

section
variable {X : Cx}

/-! ### of a text alone -/
/-! ### of a text and a text -/
/-- int(text) -/
theorem call_int_str : CallR X (.type "int") (fun xs H Q => ∃ a n, xs = [.str a] ∧ PySem.intText? a = some n ∧ a.length ≤ 640 ∧ Q (.int n) H) := by
  intro pins s σ H xs us Q I rs h
  obtain ⟨a, n, rfl, hn, hl, h⟩ := h
  cases rs with
  | cons r1 rs =>
    cases rs
    obtain ⟨t, rfl⟩ := r1
    exact PySem.W.KIN.call_text hn hl ⟨.int n, H, I.tok _, ⟨_, rfl⟩, h⟩
end

section
variable {X : Cx} {o e : Expr} {to te : TE}
end
end L2

namespace L2
open PySem PySem.Spec PyProof.Rows

section
variable {X : Cx}
end

/-! ### slices of a text -/
end L2

namespace Att
open PySem PySem.W PySem.Calls PyProof.Rows

/-! ### the script -/
/-! ### the attachment: holds_open's last premise (the goal 'hc' behind k_head) from a wpAny of the law's body -/
/-! ### rules over ANY heap (no ledger) from facts about the written part K: the library's own take a ledger (News) for what they write -/
section
variable {prog : Program} {w : World} {A : Around} {E : Value → Shared → Prop} {s : Shared} {K : Frag}

/-! the whole heap as the ledger: makes every rule that writes through a ledger a rule over any heap -/
end
end Att

namespace L2
open PySem PySem.Spec PyProof.Rows

end L2

namespace L2
open PySem PySem.Spec PyProof.Rows

abbrev KOf {K : PySem.W.Frag} {h : Heap} (_ : K.In h) : PySem.W.Frag := K

end L2


/-! SHORT WORDS over the layer: a def of the text, its body, what a loop and a test want. -/
namespace L2
open PySem PySem.Spec PyProof.Rows

/-! ### the text by places -/
/-- the j-th statement of a class's body -/
def inClass (s : Stmt) (j : Nat) : Stmt := match s with
  | .ClassDef _ _ _ body _ _ _ _ _ _ _ => body.getD j (.Pass ⟨0, 0, 0, 0⟩)
  | _ => .Pass ⟨0, 0, 0, 0⟩
def defArgs (s : Stmt) : Arguments := match s with
  | .FunctionDef _ a _ _ _ _ _ _ _ _ => a
  | _ => { posonlyargs := [], args := [], vararg := none, kwonlyargs := [], kw_defaults := [], kwarg := none, defaults := [] }
def defBody (s : Stmt) : List Stmt := match s with
  | .FunctionDef _ _ b _ _ _ _ _ _ _ => b
  | _ => []
def defScope (s : Stmt) : Scope := match s with
  | .FunctionDef _ _ _ _ _ _ sc _ _ _ => sc
  | _ => { kind := .function, names := [], isGenerator := false, isCoroutine := false }

/-! ### no exception leaves a def -/
abbrev E0 : XK := fun _ _ _ => False
/-! ### a def (or method) of the text as it stands behind the top -/
structure Fun (K : PySem.W.Frag) (x qual : Str) (st : Stmt) (f : Addr) (fd : FuncData) : Prop where
  ex : ∃ (oc : Value) (od : Option Addr) (kV doc pm : Value) (an : Option Addr) (cdv ct : Value) (osl : Array (Option Value)),
    fd = PySem.W.fnOf x qual (defArgs st) (defBody st) (defScope st) .none kV doc pm an cdv ct ∧ K.lookup f = some ⟨oc, od, .func fd, osl⟩ ∧ PySem.W.codeIn K cdv qual = true
  kp : PySem.W.keepIn K (.ref f) = true
section
variable {P : Program} {w : World} {K : PySem.W.Frag} {mg : Str → Option Value} {base : Heap}
/-- how its arguments bind (no defaults): h is «fun _ _ _ _ _ _ us hl => match us, hl with | [_, _], _ => rfl», one _ a parameter -/
theorem Fun.binds {x qual : Str} {st : Stmt} {f : Addr} {fd : FuncData} {ps : List Str} (F : Fun K x qual st f fd)
    (h : ∀ (kV doc pm : Value) (an : Option Addr) (cdv ct : Value) (us : List Value), us.length = ps.length → bindArgs (PySem.W.fnOf x qual (defArgs st) (defBody st) (defScope st) .none kV doc pm an cdv ct) ⟨us, []⟩ = pure (ps.zip us)) : Binds K fd ps [] := by
  obtain ⟨oc, od, kV, doc, pm, an, cdv, ct, osl, rfl, lk, hcd⟩ := F.ex
  exact .all (h kV doc pm an cdv ct)
theorem fun_mk {x qual : Str} {st : Stmt} {f : Addr} {oc : Value} {od an : Option Addr} {osl : Array (Option Value)} {kV doc pm cdv ct : Value} (l : K.lookup f = some ⟨oc, od, .func (PySem.W.fnOf x qual (defArgs st) (defBody st) (defScope st) .none kV doc pm an cdv ct), osl⟩)
    (c : PySem.W.codeIn K cdv qual = true) (k : PySem.W.keepIn K (.ref f) = true) : Fun K x qual st f (PySem.W.fnOf x qual (defArgs st) (defBody st) (defScope st) .none kV doc pm an cdv ct) := ⟨⟨oc, od, kV, doc, pm, an, cdv, ct, osl, rfl, l, c⟩, k⟩
end
theorem small1000 {n : Nat} (h : n ≤ 1000) : n < sizeLine := Nat.lt_of_le_of_lt h (by decide)

/-! ### expressions in short: the name that stands in the i-th slot -/
section
variable {X : Cx}
theorem pv (i : Nat) {x : Str} {pos : Pos} (hN : X.N[i]? = some x := by rfl) (hv : Vis X.env.scope x := by first | exact Or.inl rfl | exact Or.inr (Or.inl rfl) | exact Or.inr (Or.inr rfl)) (hd : (x == ("__debug__" : Str)) = false := by decide)
    (hcd : (x == ("__classdict__" : Str)) = false := by decide) : PE X (.Name x pos) (tVar i) := pe_var hN hv hd hcd
end

/-! ### tests -/
theorem ite2 {c A B : Prop} [Decidable c] (h1 : c → A) (h2 : ¬ c → B) : if c then A else B := by
  by_cases h : c
  · rw [if_pos h]
    exact h1 h
  · rw [if_neg h]
    exact h2 h
/-! ### heaps -/
/-- all that was tracked is as it was -/
def Same (H H' : Hp) : Prop := ∀ b o, H b = some o → H' b = some o
theorem Same.refl (H : Hp) : Same H H := fun _ _ h => h
theorem Same.trans {H H1 H2 : Hp} (a : Same H H1) (b : Same H1 H2) : Same H H2 := fun c o h => b c o (a c o h)
theorem Same.free {H H' : Hp} (e : Same H H') {l : Addr} (h : H' l = Option.none) : H l = Option.none := by
  cases q : H l with
  | none => rfl
  | some o =>
    rw [e l o q] at h
    cases h
theorem Same.seq {K : PySem.W.Frag} {H H' : Hp} {a : Addr} {xs : List V} (e : Same H H') (h : SqL K H a xs) : SqL K H' a xs := by
  rcases h with (h | ⟨o, h⟩) | h
  · exact .inl (.inl (e _ _ h))
  · exact .inl (.inr ⟨o, e _ _ h⟩)
  · exact .inr h

/-! ### a dict's pairs: keys that differ -/
section
variable {κ : Type} [DecidableEq κ]
end
/-! ### lists -/
/-- a new instance and its __init__ leave all that was tracked as it was -/
theorem Same.made {H H1 : Hp} {x dx C : Addr} (nx : H x = Option.none) (nd : H dx = Option.none) (k : ∀ b o, (upd (upd H dx (.own x)) x (.ins C dx [])) b = some o → b ≠ x → H1 b = some o) : Same H H1 := fun b o e =>
  k b o (by rw [upd_ne (ne_of_none e nx), upd_ne (ne_of_none e nd)]; exact e) (ne_of_none e nx)
end L2

section
set_option Elab.async false
set_option linter.all false
set_option maxRecDepth 100000
set_option maxHeartbeats 2000000
namespace L2
open PySem PySem.Spec PyProof.Rows
open PySem.W (WData Codec OpenSpec Well WellAll ReadsW ReadsAllW)
/-! ### an answer as data -/
mutual
/-- x stands for the datum d, lists and tuples all the way -/
inductive Dw (K : PySem.W.Frag) (H : Hp) : V → WData → Prop
  | non : Dw K H .non .none
  | bl (b : Bool) : Dw K H (.bl b) (.bool b)
  | int (i : Int) : Dw K H (.int i) (.int i)
  | str (x : Str) : Dw K H (.str x) (.str x)
  | byt (b : Array UInt8) : Dw K H (.byt b) (.bytes b.toList)
  | lst {a : Addr} {xs : List V} {ds : List WData} : SqL K H a xs → DwAll K H xs ds → Dw K H (.ref a) (.list ds)
  | tup {a : Addr} {xs : List V} {ds : List WData} : SqT K H a xs → DwAll K H xs ds → Dw K H (.ref a) (.tuple ds)
inductive DwAll (K : PySem.W.Frag) (H : Hp) : List V → List WData → Prop
  | nil : DwAll K H [] []
  | cons {v : V} {vs : List V} {d : WData} {ds : List WData} : Dw K H v d → DwAll K H vs ds → DwAll K H (v :: vs) (d :: ds)
end
theorem dw_ints {K : PySem.W.Frag} {H : Hp} : ∀ ns : List Int, DwAll K H (ns.map V.int) (ns.map WData.int)
  | [] => .nil
  | n :: r => .cons (.int n) (dw_ints r)
theorem ints_dw {K : PySem.W.Frag} {H : Hp} : ∀ (ns : List Int) (xs : List V), DwAll K H xs (ns.map WData.int) → xs = ns.map V.int
  | [], xs, h => by
    cases h
    rfl
  | n :: r, xs, h => by
    cases h with
    | cons h1 h2 =>
      cases h1
      rw [ints_dw r _ h2] <;> rfl
section
variable {P : Program} {w : World} {K : PySem.W.Frag} {H : Hp} {h : Heap} {R : PySem.W.WRecords} {cl : Str → Option Addr}
theorem sqL_at {a : Addr} {xs : List V} (hok : HOk P w H h) (KX : K.In h) (q : SqL K H a xs) : ∃ (its : List Value) (o : Obj) (n : Nat), Vals xs its ∧ h.get? a = some o ∧ o.cls = .type "list" ∧ o.data = .seq its.toArray n := by
  rcases q with q | ⟨o, its, n, e, hc, _, hd, _, hv⟩
  · obtain ⟨_, its, n, hv, e⟩ := (show ObjOk P w H h a (.lst xs) from q.ok hok)
    exact ⟨its, _, n, hv, e, rfl, rfl⟩
  · exact ⟨its.toList, o, n, hv, KX _ _ e, hc, by simp [hd]⟩
theorem sqT_at {a : Addr} {xs : List V} (hok : HOk P w H h) (KX : K.In h) (q : SqT K H a xs) : ∃ (its : List Value) (o : Obj) (n : Nat), Vals xs its ∧ h.get? a = some o ∧ o.cls = .type "tuple" ∧ o.data = .seq its.toArray n := by
  rcases q with q | ⟨o, its, n, e, hc, hd, _, hv⟩
  · obtain ⟨_, its, hv, o, e, hc, n, hd⟩ := (show ObjOk P w H h a (.tup xs) from q.ok hok)
    exact ⟨its, o, n, hv, e, hc, hd⟩
  · exact ⟨its.toList, o, n, hv, KX _ _ e, hc, by simp [hd]⟩
mutual
theorem Dw.reads (hok : HOk P w H h) (KX : K.In h) : ∀ (d : WData) (v : V) (u : Value), Dw K H v d → RelV v u → ∃ as, ReadsW R cl h u d as
  | .none, _, _, x, r => by
    cases x
    cases r
    exact ⟨_, ReadsW.none⟩
  | .bool b, _, _, x, r => by
    cases x
    cases r
    exact ⟨_, ReadsW.bool b⟩
  | .int i, _, _, x, r => by
    cases x
    obtain ⟨t, rfl⟩ := r
    exact ⟨_, ReadsW.int i t⟩
  | .str s, _, _, x, r => by
    cases x
    obtain ⟨t, rfl⟩ := r
    exact ⟨_, ReadsW.str s t⟩
  | .bytes b, _, _, x, r => by
    cases x
    obtain ⟨t, rfl⟩ := r
    exact ⟨_, ReadsW.bytes _ t⟩
  | .list ds, _, _, x, r => by
    cases x with
    | lst hs ha =>
      cases r
      obtain ⟨its, o, n, rv, ho, hc, hd⟩ := sqL_at hok KX hs
      obtain ⟨as, hr⟩ := Dw.readsAll hok KX ds _ its ha rv
      exact ⟨_, ReadsW.list ho hc hd hr⟩
  | .tuple ds, _, _, x, r => by
    cases x with
    | tup hs ha =>
      cases r
      obtain ⟨its, o, n, rv, ho, hc, hd⟩ := sqT_at hok KX hs
      obtain ⟨as, hr⟩ := Dw.readsAll hok KX ds _ its ha rv
      exact ⟨_, ReadsW.tuple ho hc hd hr⟩
  | .float _, _, _, x, _ => by cases x
  | .dict _, _, _, x, _ => by cases x
  | .bytearray _, _, _, x, _ => by cases x
  | .set _, _, _, x, _ => by cases x
  | .frozenset _, _, _, x, _ => by cases x
  | .obj _ _, _, _, x, _ => by cases x
theorem Dw.readsAll (hok : HOk P w H h) (KX : K.In h) : ∀ (ds : List WData) (vs : List V) (us : List Value), DwAll K H vs ds → Vals vs us → ∃ as, ReadsAllW R cl h us ds as
  | [], _, _, x, r => by
    cases x
    cases r
    exact ⟨_, ReadsAllW.nil⟩
  | d :: ds, _, _, x, r => by
    cases x with
    | cons h1 h2 =>
      cases r with
      | cons r1 r2 =>
        obtain ⟨as, q1⟩ := Dw.reads hok KX d _ _ h1 r1
        obtain ⟨bs, q2⟩ := Dw.readsAll hok KX ds _ _ h2 r2
        exact ⟨_, ReadsAllW.cons q1 q2⟩
end
end
/-! ### the arguments -/
mutual
/-- data that a codec tells -/
def plW : WData → Bool
  | .none => true
  | .bool _ => true
  | .int _ => true
  | .str _ => true
  | .bytes _ => true
  | .list xs => plWs xs
  | .tuple xs => plWs xs
  | _ => false
def plWs : List WData → Bool
  | [] => true
  | x :: r => plW x && plWs r
end
theorem plWs_map {α : Type} {f : α → WData} (h : ∀ a, plW (f a) = true) : ∀ l : List α, plWs (l.map f) = true
  | [] => rfl
  | x :: r => by
    show (plW (f x) && plWs (r.map f)) = true
    rw [h x, plWs_map h r] <;> rfl
theorem pl_enc : ∀ (c : Codec) (a : c.denote), plW (c.enc a) = true
  | .unit, _ => rfl
  | .bool, _ => rfl
  | .int _ _, _ => rfl
  | .nat _ _, _ => rfl
  | .u8, _ => rfl
  | .bytes _ _, _ => rfl
  | .text _ _ _ _, _ => rfl
  | .list _ _ c, a => plWs_map (fun x => pl_enc c x) a
  | .pair c d, a => by
    show (plW (c.enc a.1) && (plW (d.enc a.2) && true)) = true
    rw [pl_enc c a.1, pl_enc d a.2] <;> rfl
  | .triple c d e, a => by
    show (plW (c.enc a.1) && (plW (d.enc a.2.1) && (plW (e.enc a.2.2) && true))) = true
    rw [pl_enc c a.1, pl_enc d a.2.1, pl_enc e a.2.2] <;> rfl
  | .option c, none => rfl
  | .option c, some x => pl_enc c x
theorem pl_encAll : ∀ (cs : List Codec) (a : Codec.denoteAll cs), plWs (Codec.encAll cs a) = true
  | [], _ => rfl
  | c :: cs, a => by
    show (plW (c.enc a.1) && plWs (Codec.encAll cs a.2)) = true
    rw [pl_enc c a.1, pl_encAll cs a.2] <;> rfl
theorem weight_mem : ∀ {xs : List WData} {d : WData}, d ∈ xs → d.weight ≤ WData.weightAll xs
  | [], d, h => absurd h (by simp)
  | x :: r, d, h => by
    show d.weight ≤ x.weight + 1 + WData.weightAll r
    rcases List.mem_cons.mp h with e | m
    · rw [e]
      omega
    · have z := weight_mem m
      omega
def toV : Value → V
  | .none => .non
  | .bool b => .bl b
  | .int i _ => .int i
  | .str x _ => .str x
  | .bytes b _ => .byt b
  | .ref a => .ref a
  | _ => .non
/-- a value of the arguments, its objects among A -/
def OkU (A : List Addr) : Value → Prop
  | .none => True
  | .bool _ => True
  | .int _ _ => True
  | .str _ _ => True
  | .bytes _ _ => True
  | .ref a => a ∈ A
  | _ => False
theorem OkU.mono {A B : List Addr} (h : ∀ a ∈ A, a ∈ B) : ∀ {u : Value}, OkU A u → OkU B u := fun {u} x => by
  cases u with
  | ref a => exact h a x
  | none => trivial
  | bool b => trivial
  | int i t => trivial
  | str s t => trivial
  | bytes b t => trivial
  | _ => exact False.elim x
theorem relV_toV {A : List Addr} {u : Value} (x : OkU A u) : RelV (toV u) u := by
  cases u with
  | ref a => rfl
  | none => rfl
  | bool b => rfl
  | int i t => exact ⟨t, rfl⟩
  | str s t => exact ⟨t, rfl⟩
  | bytes b t => exact ⟨t, rfl⟩
  | _ => exact False.elim x
theorem vals_toV {A : List Addr} : ∀ {vs : List Value}, (∀ u ∈ vs, OkU A u) → Vals (vs.map toV) vs
  | [], _ => .nil
  | u :: r, h => .cons (relV_toV (h u (List.mem_cons_self ..))) (vals_toV fun x hx => h x (List.mem_cons_of_mem _ hx))
/-- an object of the arguments -/
def ArgOb (h : Heap) (A : List Addr) (a : Addr) : Prop := ∃ vs : List Value, vs.length ≤ sizeLine ∧ (∀ u ∈ vs, OkU A u) ∧
  (h.get? a = some { cls := .type "list", data := .seq vs.toArray } ∨ h.get? a = some { cls := .type "tuple", data := .seq vs.toArray })
theorem ArgOb.mono {h : Heap} {A B : List Addr} {a : Addr} (k : ∀ a ∈ A, a ∈ B) (x : ArgOb h A a) : ArgOb h B a := by
  obtain ⟨vs, h1, h2, h3⟩ := x
  exact ⟨vs, h1, fun u hu => (h2 u hu).mono k, h3⟩
theorem wellAll_len {P : Params} {h : Heap} : ∀ {vs : List Value} {ds : List WData}, WellAll P h vs ds → vs.length = ds.length
  | _, _, .nil => rfl
  | _, _, .cons _ b => by
    show _ + 1 = _ + 1
    rw [wellAll_len b]
theorem well_list {P : Params} {h : Heap} {v : Value} {ds : List WData} (x : Well P h v (.list ds)) : ∃ (a : Addr) (vs : List Value), v = .ref a ∧ h.get? a = some { cls := .type "list", data := .seq vs.toArray } ∧ WellAll P h vs ds := by
  cases x with
  | list ho hall => exact ⟨_, _, rfl, ho, hall⟩
theorem well_tuple {P : Params} {h : Heap} {v : Value} {ds : List WData} (x : Well P h v (.tuple ds)) : ∃ (a : Addr) (vs : List Value), v = .ref a ∧ h.get? a = some { cls := .type "tuple", data := .seq vs.toArray } ∧ WellAll P h vs ds := by
  cases x with
  | tuple ho hall => exact ⟨_, _, rfl, ho, hall⟩
theorem well_cons {P : Params} {h : Heap} {us : List Value} {d : WData} {ds : List WData} (x : WellAll P h us (d :: ds)) : ∃ (v : Value) (vs : List Value), us = v :: vs ∧ Well P h v d ∧ WellAll P h vs ds := by
  cases x with
  | cons a b => exact ⟨_, _, rfl, a, b⟩
theorem line_of {n : Nat} (h : n ≤ 1048576) : n ≤ sizeLine := Nat.le_trans h (by decide)
section
variable {P : Params} {h : Heap}
mutual
theorem area_one : ∀ (d : WData) (v : Value), Well P h v d → plW d = true → d.weight ≤ 1048576 → ∃ A : List Addr, OkU A v ∧ ∀ a ∈ A, ArgOb h A a
  | .none, _, x, _, _ => by
    cases x
    exact ⟨[], trivial, fun a m => absurd m (by simp)⟩
  | .bool b, _, x, _, _ => by
    cases x
    exact ⟨[], trivial, fun a m => absurd m (by simp)⟩
  | .int i, _, x, _, _ => by
    cases x
    exact ⟨[], trivial, fun a m => absurd m (by simp)⟩
  | .str s, _, x, _, _ => by
    cases x
    exact ⟨[], trivial, fun a m => absurd m (by simp)⟩
  | .bytes b, _, x, _, _ => by
    cases x
    exact ⟨[], trivial, fun a m => absurd m (by simp)⟩
  | .list ds, _, x, p, z => by
    obtain ⟨a, vs, rfl, ho, hall⟩ := well_list x
    have z2 : WData.weightAll ds ≤ 1048576 := z
    obtain ⟨A, h1, h2⟩ := area_all ds _ hall p fun d hd => Nat.le_trans (weight_mem hd) z2
    have k : ∀ b ∈ A, b ∈ a :: A := fun b hb => List.mem_cons_of_mem _ hb
    refine ⟨a :: A, List.mem_cons_self .., fun b hb => ?_⟩
    rcases List.mem_cons.mp hb with e | m
    · rw [e]
      exact ⟨vs, line_of (by rw [wellAll_len hall]; exact Nat.le_trans (PySem.W.length_le_weightAllW ds) z2), fun u hu => (h1 u hu).mono k, .inl ho⟩
    · exact (h2 b m).mono k
  | .tuple ds, _, x, p, z => by
    obtain ⟨a, vs, rfl, ho, hall⟩ := well_tuple x
    have z2 : WData.weightAll ds ≤ 1048576 := z
    obtain ⟨A, h1, h2⟩ := area_all ds _ hall p fun d hd => Nat.le_trans (weight_mem hd) z2
    have k : ∀ b ∈ A, b ∈ a :: A := fun b hb => List.mem_cons_of_mem _ hb
    refine ⟨a :: A, List.mem_cons_self .., fun b hb => ?_⟩
    rcases List.mem_cons.mp hb with e | m
    · rw [e]
      exact ⟨vs, line_of (by rw [wellAll_len hall]; exact Nat.le_trans (PySem.W.length_le_weightAllW ds) z2), fun u hu => (h1 u hu).mono k, .inr ho⟩
    · exact (h2 b m).mono k
  | .float _, _, _, p, _ => Bool.noConfusion (show false = true from p)
  | .dict _, _, _, p, _ => Bool.noConfusion (show false = true from p)
  | .bytearray _, _, _, p, _ => Bool.noConfusion (show false = true from p)
  | .set _, _, _, p, _ => Bool.noConfusion (show false = true from p)
  | .frozenset _, _, _, p, _ => Bool.noConfusion (show false = true from p)
  | .obj _ _, _, _, p, _ => Bool.noConfusion (show false = true from p)
theorem area_all : ∀ (ds : List WData) (vs : List Value), WellAll P h vs ds → plWs ds = true → (∀ d ∈ ds, d.weight ≤ 1048576) → ∃ A : List Addr, (∀ u ∈ vs, OkU A u) ∧ ∀ a ∈ A, ArgOb h A a
  | [], _, x, _, _ => by
    cases x
    exact ⟨[], fun u m => absurd m (by simp), fun a m => absurd m (by simp)⟩
  | d :: ds, _, x, p, z => by
    obtain ⟨v, vs, rfl, x1, x2⟩ := well_cons x
    have q : plW d = true ∧ plWs ds = true := Bool.and_eq_true_iff.mp p
    obtain ⟨A, a1, a2⟩ := area_one d v x1 q.1 (z d (List.mem_cons_self ..))
    obtain ⟨B, b1, b2⟩ := area_all ds vs x2 q.2 fun e he => z e (List.mem_cons_of_mem _ he)
    have kA : ∀ b ∈ A, b ∈ A ++ B := fun b hb => List.mem_append.mpr (.inl hb)
    have kB : ∀ b ∈ B, b ∈ A ++ B := fun b hb => List.mem_append.mpr (.inr hb)
    refine ⟨A ++ B, fun u hu => ?_, fun b hb => ?_⟩
    · rcases List.mem_cons.mp hu with e | m
      · rw [e]
        exact a1.mono kA
      · exact (b1 u m).mono kB
    · rcases List.mem_append.mp hb with m | m
      · exact (a2 b m).mono kA
      · exact (b2 b m).mono kB
end
end
/-- what is tracked of an argument's object -/
def hoOf (o : Obj) : Option HO := match o.data with
  | .seq vs _ => if (o.cls == Value.type "list") = true then some (.frz o (.lst (vs.toList.map toV))) else some (.frz o (.tup (vs.toList.map toV)))
  | _ => none
def argH (K : PySem.W.Frag) (h : Heap) (A : List Addr) : Hp := fun b => if b ∈ A then (if (K.lookup b).isNone = true then (h.get? b).bind hoOf else none) else none
/-- nothing is tracked but what is known to the object -/
def OnlyF (H : Hp) : Prop := ∀ b, H b = none ∨ ∃ o u, H b = some (.frz o u)
theorem hoOf_lst (vs : List Value) : hoOf { cls := .type "list", data := .seq vs.toArray } = some (.frz { cls := .type "list", data := .seq vs.toArray } (.lst (vs.map toV))) := by
  show (if (Value.type "list" == Value.type "list") = true then some (HO.frz { cls := .type "list", data := .seq vs.toArray } (.lst (vs.toArray.toList.map toV))) else some (HO.frz { cls := .type "list", data := .seq vs.toArray } (.tup (vs.toArray.toList.map toV)))) = _
  rw [if_pos (beq_self_eq_true _)]
theorem hoOf_tup (vs : List Value) : hoOf { cls := .type "tuple", data := .seq vs.toArray } = some (.frz { cls := .type "tuple", data := .seq vs.toArray } (.tup (vs.map toV))) := by
  show (if (Value.type "tuple" == Value.type "list") = true then some (HO.frz { cls := .type "tuple", data := .seq vs.toArray } (.lst (vs.toArray.toList.map toV))) else some (HO.frz { cls := .type "tuple", data := .seq vs.toArray } (.tup (vs.toArray.toList.map toV)))) = _
  rw [if_neg (by decide)]
section
variable {P : Program} {w : World} {K : PySem.W.Frag} {h : Heap} {A : List Addr}
theorem argH_at {b : Addr} {o : Obj} (hb : b ∈ A) (hk : K.lookup b = none) (e : h.get? b = some o) : argH K h A b = hoOf o := by
  unfold argH
  rw [if_pos hb, hk, if_pos (show (none : Option Obj).isNone = true from rfl), e] <;> rfl
theorem of_argH {b : Addr} {u : HO} (q : argH K h A b = some u) : b ∈ A ∧ K.lookup b = none := by
  unfold argH at q
  by_cases hb : b ∈ A
  · rw [if_pos hb] at q
    cases hk : K.lookup b with
    | none => exact ⟨hb, rfl⟩
    | some o =>
      rw [hk, if_neg (by simp)] at q
      cases q
  · rw [if_neg hb] at q
    cases q
/-- what stands tracked -/
theorem argH_is (ar : ∀ a ∈ A, ArgOb h A a) {b : Addr} {u : HO} (q : argH K h A b = some u) : K.lookup b = none ∧ ∃ vs : List Value, vs.length ≤ sizeLine ∧ (∀ u ∈ vs, OkU A u) ∧
    ((h.get? b = some { cls := .type "list", data := .seq vs.toArray } ∧ u = .frz { cls := .type "list", data := .seq vs.toArray } (.lst (vs.map toV))) ∨
     (h.get? b = some { cls := .type "tuple", data := .seq vs.toArray } ∧ u = .frz { cls := .type "tuple", data := .seq vs.toArray } (.tup (vs.map toV)))) := by
  obtain ⟨hb, hk⟩ := of_argH q
  obtain ⟨vs, h1, h2, h3⟩ := ar b hb
  refine ⟨hk, vs, h1, h2, ?_⟩
  rcases h3 with e | e
  · rw [argH_at hb hk e, hoOf_lst] at q
    exact .inl ⟨e, (Option.some.inj q).symm⟩
  · rw [argH_at hb hk e, hoOf_tup] at q
    exact .inr ⟨e, (Option.some.inj q).symm⟩
theorem argH_only (ar : ∀ a ∈ A, ArgOb h A a) : OnlyF (argH K h A) := fun b => by
  cases q : argH K h A b with
  | none => exact .inl rfl
  | some u =>
    obtain ⟨_, vs, _, _, ⟨_, e⟩ | ⟨_, e⟩⟩ := argH_is ar q
    · exact .inr ⟨_, _, by rw [e]⟩
    · exact .inr ⟨_, _, by rw [e]⟩
theorem argH_ok (ar : ∀ a ∈ A, ArgOb h A a) : HOk P w (argH K h A) h := fun b u q => by
  obtain ⟨_, vs, h1, h2, ⟨e, rfl⟩ | ⟨e, rfl⟩⟩ := argH_is ar q
  · exact ⟨e, by rw [List.length_map]; exact h1, vs, _, vals_toV h2, e⟩
  · exact ⟨e, by rw [List.length_map]; exact h1, vs, vals_toV h2, _, e, rfl, _, rfl⟩
theorem seq_inj {c c' : Value} {vs us : List Value} (e : (some { cls := c, data := .seq vs.toArray } : Option Obj) = some { cls := c', data := .seq us.toArray }) : c = c' ∧ vs = us := by
  have e1 := Option.some.inj e
  have e2 : c = c' := congrArg Obj.cls e1
  have e3 : Data.seq vs.toArray = Data.seq us.toArray := congrArg Obj.data e1
  injection e3 with e4
  refine ⟨e2, ?_⟩
  have e5 := congrArg Array.toList e4
  simpa using e5
/-- a list argument -/
theorem argL (KX : K.In h) (ar : ∀ a ∈ A, ArgOb h A a) {a : Addr} {vs : List Value} (ha : a ∈ A) (e : h.get? a = some { cls := .type "list", data := .seq vs.toArray }) : (∀ u ∈ vs, OkU A u) ∧ SqL K (argH K h A) a (vs.map toV) := by
  obtain ⟨us, h1, h2, h3⟩ := ar a ha
  have hu : us = vs := by
    rcases h3 with q | q
    · rw [e] at q
      exact (seq_inj q).2.symm
    · rw [e] at q
      exact absurd (Value.type.inj (seq_inj q).1) (by decide)
  subst hu
  refine ⟨h2, ?_⟩
  cases hk : K.lookup a with
  | none => exact .inl (.inr ⟨_, by rw [argH_at ha hk e, hoOf_lst]⟩)
  | some o =>
    have e2 := KX a o hk
    rw [e] at e2
    obtain rfl := Option.some.inj e2
    exact .inr ⟨_, us.toArray, _, hk, rfl, rfl, rfl, by rw [List.size_toArray]; exact h1, by simpa using vals_toV h2⟩
theorem argT (KX : K.In h) (ar : ∀ a ∈ A, ArgOb h A a) {a : Addr} {vs : List Value} (ha : a ∈ A) (e : h.get? a = some { cls := .type "tuple", data := .seq vs.toArray }) : (∀ u ∈ vs, OkU A u) ∧ SqT K (argH K h A) a (vs.map toV) := by
  obtain ⟨us, h1, h2, h3⟩ := ar a ha
  have hu : us = vs := by
    rcases h3 with q | q
    · rw [e] at q
      exact absurd (Value.type.inj (seq_inj q).1) (by decide)
    · rw [e] at q
      exact (seq_inj q).2.symm
  subst hu
  refine ⟨h2, ?_⟩
  cases hk : K.lookup a with
  | none => exact .inl (.inr ⟨_, by rw [argH_at ha hk e, hoOf_tup]⟩)
  | some o =>
    have e2 := KX a o hk
    rw [e] at e2
    obtain rfl := Option.some.inj e2
    exact .inr ⟨_, us.toArray, _, hk, rfl, rfl, by rw [List.size_toArray]; exact h1, by simpa using vals_toV h2⟩
mutual
theorem dw_one {Pm : Params} (KX : K.In h) (ar : ∀ a ∈ A, ArgOb h A a) : ∀ (d : WData) (v : Value), Well Pm h v d → plW d = true → OkU A v → Dw K (argH K h A) (toV v) d
  | .none, _, x, _, _ => by
    cases x
    exact .non
  | .bool b, _, x, _, _ => by
    cases x
    exact .bl b
  | .int i, _, x, _, _ => by
    cases x
    exact .int i
  | .str s, _, x, _, _ => by
    cases x
    exact .str s
  | .bytes b, _, x, _, _ => by
    cases x
    have z := Dw.byt (K := K) (H := argH K h A) b.toArray
    exact z
  | .list ds, _, x, p, hu => by
    obtain ⟨a, vs, rfl, ho, hall⟩ := well_list x
    obtain ⟨h2, hs⟩ := argL KX ar hu ho
    exact .lst hs (dw_all KX ar ds _ hall p h2)
  | .tuple ds, _, x, p, hu => by
    obtain ⟨a, vs, rfl, ho, hall⟩ := well_tuple x
    obtain ⟨h2, hs⟩ := argT KX ar hu ho
    exact .tup hs (dw_all KX ar ds _ hall p h2)
  | .float _, _, _, p, _ => Bool.noConfusion (show false = true from p)
  | .dict _, _, _, p, _ => Bool.noConfusion (show false = true from p)
  | .bytearray _, _, _, p, _ => Bool.noConfusion (show false = true from p)
  | .set _, _, _, p, _ => Bool.noConfusion (show false = true from p)
  | .frozenset _, _, _, p, _ => Bool.noConfusion (show false = true from p)
  | .obj _ _, _, _, p, _ => Bool.noConfusion (show false = true from p)
theorem dw_all {Pm : Params} (KX : K.In h) (ar : ∀ a ∈ A, ArgOb h A a) : ∀ (ds : List WData) (vs : List Value), WellAll Pm h vs ds → plWs ds = true → (∀ u ∈ vs, OkU A u) → DwAll K (argH K h A) (vs.map toV) ds
  | [], _, x, _, _ => by
    cases x
    exact .nil
  | d :: ds, _, x, p, hu => by
    obtain ⟨v, vs, rfl, x1, x2⟩ := well_cons x
    have q : plW d = true ∧ plWs ds = true := Bool.and_eq_true_iff.mp p
    exact .cons (dw_one KX ar d v x1 q.1 (hu _ (List.mem_cons_self ..))) (dw_all KX ar ds vs x2 q.2 fun u m => hu u (List.mem_cons_of_mem _ m))
end
end
/-! ### the call -/
/-! ### the row -/
theorem layable_weight {ds : List WData} (h : WData.layableAll ds = true) : ∀ d ∈ ds, d.weight ≤ 1048576 := fun d hd =>
  (PySem.W.layableW_iff.mp (List.all_eq_true.mp h d hd)).2.2
theorem encAll_len : ∀ (cs : List Codec) (a : Codec.denoteAll cs), (Codec.encAll cs a).length = cs.length
  | [], _ => rfl
  | c :: cs, a => by
    show (Codec.encAll cs a.2).length + 1 = cs.length + 1
    rw [encAll_len cs a.2]
end L2
-- rests on (row put in by the clerk, for the bench that shows a file only what it spells): KE.SpHead KE.OsShapes
end


set_option Elab.async false
set_option linter.all false
set_option maxRecDepth 100000
namespace Rx
open PySem
/-- what a step leaves: all but the frames (up to their slots) and the records at ch -/
structure Moved (fs ch : List Addr) (h h' : Heap) : Prop where
  keep : ∀ b o, h.get? b = some o → b ∉ fs → b ∉ ch → h'.get? b = some o
  slot : ∀ b o, h.get? b = some o → b ∈ fs → b ∉ ch → ∃ sl, h'.get? b = some { o with slots := sl }
  there : ∀ b o, h.get? b = some o → ∃ o', h'.get? b = some o'
theorem Moved.trans {fs ch : List Addr} {h h1 h2 : Heap} (a : Moved fs ch h h1) (b : Moved fs ch h1 h2) : Moved fs ch h h2 where
  keep := fun c o e m n => b.keep c o (a.keep c o e m n) m n
  slot := fun c o e m n => by
    obtain ⟨s1, e1⟩ := a.slot c o e m n
    obtain ⟨s2, e2⟩ := b.slot c _ e1 m n
    exact ⟨s2, e2⟩
  there := fun c o e => by
    obtain ⟨o1, e1⟩ := a.there c o e
    exact b.there c o1 e1
theorem Moved.mono {fs fs' ch ch' : List Addr} {h h1 : Heap} (a : Moved fs ch h h1) (hf : ∀ b ∈ fs, b ∈ fs') (hc : ∀ b ∈ ch, b ∈ ch') : Moved fs' ch' h h1 where
  keep := fun c o e m n => a.keep c o e (fun z => m (hf c z)) fun z => n (hc c z)
  slot := fun c o e _ n => by
    by_cases z : c ∈ fs
    · exact a.slot c o e z fun y => n (hc c y)
    · exact ⟨o.slots, a.keep c o e z fun y => n (hc c y)⟩
  there := a.there
theorem dict_mapFields (o : Obj) (f) : (o.mapFields f).dict = o.dict := by
  obtain ⟨_, _, dt, _⟩ := o
  cases dt <;> rfl
/-- an exception of the class at C in flight: its own dict, its newest traceback entry and that entry's mark -/
def Fly (h : Heap) (e : Addr) (C : Value) (dx : Option Addr) (T : Addr) (fl : Value) : Prop :=
  ∃ oe vs oT ts, h.get? e = some oe ∧ oe.cls = C ∧ oe.dict = dx ∧ oe.data = .fields vs ∧ vs[1]? = some (.ref T) ∧ h.get? T = some oT ∧ oT.data = .fields ts ∧ ts[3]? = some fl ∧ T ≠ e
/-- one that was just made -/
def Fresh (h : Heap) (e : Addr) (C : Value) (dx : Option Addr) : Prop :=
  ∃ oe vs, h.get? e = some oe ∧ oe.cls = C ∧ oe.dict = dx ∧ oe.data = .fields vs ∧ vs[1]? = some .none

section
variable {M : Model} {A : Around} {E : Value → Shared → Prop} {s : Shared} {base : Heap} {env : Env} {outer : List Env} {L e T : Addr} {C : Value} {dx : Option Addr}

/-- a traceback entry of this frame is laid and hung on -/
theorem hung {oe : Obj} {vs : Array Value} {top : Value} {had : Bool} {Q : Unit → Shared → Prop} (hfr : A.frames = some (env :: outer)) (hl : s.heap.FunFrames base (env :: outer)) (hf : env.frame = some L)
    (he : s.heap.get? e = some oe) (hd : oe.data = .fields vs) (hz : 1 < vs.size)
    (q : ∀ g T, Moved ((env :: outer).filterMap (·.frame)) [e] s.heap g → s.heap.get? T = none → Fly g e oe.cls oe.dict T (rawInt L) → Q () { s with heap := g }) :
    wpAny M A (frameOf env >>= fun a => entryPlaceOf L had >>= fun pl => EntryCells.newEntry top a .none (rawInt L) .none pl >>= fun b => setField (.ref e) 1 b) Q E s := by
  have nfr : e ∉ (env :: outer).filterMap (·.frame) := fun z => by
    obtain ⟨_, o, ho, hn⟩ := hl.mem z
    rw [he] at ho
    cases ho
    exact hn vs hd
  refine wpAny_bind (wpAny_frameOf_fun hfr hl hf fun g1 sl1 => wpAny_bind (wpAny_entryPlaceOf fun pl ipl => ?_))
  unfold EntryCells.newEntry newFields
  refine wpAny_bind (wpAny_newObj_type ?_ (ipl.sizeOk5 _ _ _ _ _))
  have e1 : g1.get? e = some oe := (sl1.2.1 e nfr).trans he
  generalize hob : ({ cls := .type "traceback", dict := none, data := .fields ([top, Value.ref L, .none, rawInt L, .none] ++ (if pl.isEmpty then List.replicate 6 Value.none else pl)).toArray } : Obj) = ob
  have e2 : (g1.push ob).get? e = some oe := Heap.get?_push_of_some ob e1
  refine wpAny_setField e2 hd hz (q _ g1.objs.size ⟨fun b o hb nf nc => ?_, fun b o hb mf nc => ?_, fun b o hb => ?_⟩ (Heap.get?_none_of_le (by rw [sl1.1]; exact Nat.le_refl _)) ?_)
  · have nb : b ≠ e := fun z => nc (by rw [z]; exact List.mem_singleton.mpr rfl)
    rw [Heap.get?_update_other _ _ (Ne.symm nb)]
    exact Heap.get?_push_of_some ob ((sl1.2.1 b nf).trans hb)
  · have nb : b ≠ e := fun z => nc (by rw [z]; exact List.mem_singleton.mpr rfl)
    obtain ⟨x, hx⟩ := sl1.2.2 b o hb
    exact ⟨x, by rw [Heap.get?_update_other _ _ (Ne.symm nb)]; exact Heap.get?_push_of_some ob hx⟩
  · by_cases nb : b = e
    · subst nb
      exact ⟨_, Heap.get?_update_self _ e2 (Obj.isFreed_of_fields (Obj.data_mapFields hd _))⟩
    · obtain ⟨x, hx⟩ := sl1.2.2 b o hb
      exact ⟨_, by rw [Heap.get?_update_other _ _ (Ne.symm nb)]; exact Heap.get?_push_of_some ob hx⟩
  · have nT : g1.objs.size ≠ e := Nat.ne_of_gt (Heap.lt_size e1)
    have hT : (g1.push ob).get? g1.objs.size = some ob := Heap.get?_push_size g1 (by subst hob; rfl)
    refine ⟨_, _, ob, ([top, Value.ref L, .none, rawInt L, .none] ++ (if pl.isEmpty then List.replicate 6 Value.none else pl)).toArray, Heap.get?_update_self _ e2 (Obj.isFreed_of_fields (Obj.data_mapFields hd _)), Obj.cls_mapFields _ _, dict_mapFields _ _, Obj.data_mapFields hd _, by simp [hz], ?_, by subst hob; rfl, ?_, nT⟩
    · rw [Heap.get?_update_other _ _ (Ne.symm nT)]
      exact hT
    · simp
/-- the mark is taken off -/
theorem landed {fl : Value} {Q : Unit → Shared → Prop} (x : Fly s.heap e C dx T fl)
    (q : ∀ g, (∀ b o, b ≠ T → s.heap.get? b = some o → g.get? b = some o) → (∀ b o, s.heap.get? b = some o → ∃ o', g.get? b = some o') → Fly g e C dx T .none → Q () { s with heap := g }) : wpAny M A (setFlight (.ref e) none) Q E s := by
  obtain ⟨oe, vs, oT, ts, he, hc, hdx, hd, h1, hT, hdT, h3, nT⟩ := x
  have z3 : 3 < ts.size := (Array.getElem?_eq_some_iff.mp h3).1
  unfold setFlight
  refine wpAny_bind (wpAny_field he hd h1 ?_)
  rw [if_pos (show (Value.ref T != Value.none) = true by simp)]
  have self := Heap.get?_update_self (Obj.mapFields (·.setIfInBounds 3 ((none : Option Addr).elim Value.none fun f => rawInt f))) hT (Obj.isFreed_of_fields (Obj.data_mapFields hdT _))
  refine wpAny_setField hT hdT z3 (q _ (fun b o nb hb => ?_) (fun b o hb => ?_) ?_)
  · rw [Heap.get?_update_other _ _ (Ne.symm nb)]; exact hb
  · by_cases nb : b = T
    · subst nb; exact ⟨_, self⟩
    · exact ⟨o, by rw [Heap.get?_update_other _ _ (Ne.symm nb)]; exact hb⟩
  · refine ⟨oe, vs, _, _, ?_, hc, hdx, hd, h1, self, Obj.data_mapFields hdT _, by simp [z3], nT⟩
    rw [Heap.get?_update_other _ _ nT]; exact he
theorem moved_land {fs : List Addr} {h g : Heap} (k : ∀ b o, b ≠ T → h.get? b = some o → g.get? b = some o) (t : ∀ b o, h.get? b = some o → ∃ o', g.get? b = some o') : Moved fs [T] h g where
  keep := fun b o e _ n => k b o (fun z => n (by rw [z]; exact List.mem_singleton.mpr rfl)) e
  slot := fun b o e _ n => ⟨o.slots, k b o (fun z => n (by rw [z]; exact List.mem_singleton.mpr rfl)) e⟩
  there := t
/-- the first frame that an exception leaves -/
theorem leave_first {Q : Unit → Shared → Prop} (hfr : A.frames = some (env :: outer)) (hl : s.heap.FunFrames base (env :: outer)) (hf : env.frame = some L) (x : Fresh s.heap e C dx)
    (q : ∀ g T, Moved ((env :: outer).filterMap (·.frame)) [e] s.heap g → s.heap.get? T = none → Fly g e C dx T .none → Q () { s with heap := g }) : wpAny M A (leaving env (.ref e)) Q E s := by
  obtain ⟨oe, vs, he, rfl, rfl, hd, h1⟩ := x
  unfold leaving noteFrame
  simp only [hf]
  refine wpAny_bind (wpAny_bind (wpAny_field he hd h1 ?_))
  rw [if_neg (by decide)]
  refine hung (base := base) hfr hl hf he hd (Array.getElem?_eq_some_iff.mp h1).1 fun g T mv hT fl => ?_
  refine landed fl fun g' k t fl' => q g' T ⟨fun b o hb nf nc => ?_, fun b o hb mf nc => ?_, fun b o hb => ?_⟩ hT fl'
  · exact k b o (fun z => by rw [z, hT] at hb; cases hb) (mv.keep b o hb nf nc)
  · obtain ⟨y, hy⟩ := mv.slot b o hb mf nc
    exact ⟨y, k b _ (fun z => by rw [z, hT] at hb; cases hb) hy⟩
  · obtain ⟨y, hy⟩ := mv.there b o hb
    exact t b y hy
/-- an own entry is laid on an exception that came from a callee -/
theorem look_on {Q : Unit → Shared → Prop} (hfr : A.frames = some (env :: outer)) (hl : s.heap.FunFrames base (env :: outer)) (hf : env.frame = some L) (x : Fly s.heap e C dx T .none)
    (q : ∀ g T', Moved ((env :: outer).filterMap (·.frame)) [e, T] s.heap g → s.heap.get? T' = none → Fly g e C dx T' (rawInt L) → Q () { s with heap := g }) : wpAny M A (noteFrame (.ref e) env) Q E s := by
  obtain ⟨oe, vs, oT, ts, he, rfl, rfl, hd, h1, hT, hdT, h3, nT⟩ := x
  unfold noteFrame
  simp only [hf]
  refine wpAny_bind (wpAny_field he hd h1 ?_)
  rw [if_pos (show (Value.ref T != Value.none) = true by simp)]
  refine wpAny_bind (wpAny_field hT hdT h3 ?_)
  rw [if_neg (show ¬ ((Value.none == rawInt L) = true) by simp [rawInt])]
  have self := Heap.get?_update_self (Obj.mapFields (·.setIfInBounds 3 Value.none)) hT (Obj.isFreed_of_fields (Obj.data_mapFields hdT _))
  refine wpAny_bind (wpAny_setField hT hdT (Array.getElem?_eq_some_iff.mp h3).1 ?_)
  have other : ∀ b, b ≠ T → (s.heap.update T (Obj.mapFields (·.setIfInBounds 3 Value.none))).get? b = s.heap.get? b := fun b nb => Heap.get?_update_other _ _ (Ne.symm nb)
  have e1 : (s.heap.update T (Obj.mapFields (·.setIfInBounds 3 Value.none))).get? e = some oe := (other e (Ne.symm nT)).trans he
  refine hung (base := base) (s := { s with heap := s.heap.update T (Obj.mapFields (·.setIfInBounds 3 Value.none)) }) hfr (hl.of_keeps fun b o hb hn => ?_) hf e1 hd (Array.getElem?_eq_some_iff.mp h1).1 fun g T' mv hT' fl => ?_
  · have nb : b ≠ T := fun z => by
      subst z
      rw [hT] at hb
      cases hb
      exact hn ts hdT
    exact ⟨o, (other b nb).trans hb, rfl⟩
  · refine q g T' ⟨fun b o hb nf nc => ?_, fun b o hb mf nc => ?_, fun b o hb => ?_⟩ ?_ fl
    · have nb : b ≠ T := fun z => nc (by rw [z]; simp)
      exact mv.keep b o ((other b nb).trans hb) nf fun z => nc (by rw [List.mem_singleton.mp z]; simp)
    · have nb : b ≠ T := fun z => nc (by rw [z]; simp)
      exact mv.slot b o ((other b nb).trans hb) mf fun z => nc (by rw [List.mem_singleton.mp z]; simp)
    · by_cases nb : b = T
      · subst nb; exact mv.there b _ self
      · exact mv.there b o ((other b nb).trans hb)
    · by_cases nb : T' = T
      · subst nb
        have z : (s.heap.update T' (Obj.mapFields (·.setIfInBounds 3 Value.none))).get? T' = none := hT'
        rw [self] at z
        cases z
      · exact (other T' nb).symm.trans hT'
/-- a frame that an exception in flight leaves -/
theorem leave_on {Q : Unit → Shared → Prop} (hfr : A.frames = some (env :: outer)) (hl : s.heap.FunFrames base (env :: outer)) (hf : env.frame = some L) (x : Fly s.heap e C dx T .none)
    (q : ∀ g T', Moved ((env :: outer).filterMap (·.frame)) [e, T] s.heap g → s.heap.get? T' = none → Fly g e C dx T' .none → Q () { s with heap := g }) : wpAny M A (leaving env (.ref e)) Q E s := by
  unfold leaving
  refine wpAny_bind (look_on (base := base) hfr hl hf x fun g T' mv hT fl => ?_)
  refine landed fl fun g' k t fl' => q g' T' ⟨fun b o hb nf nc => ?_, fun b o hb mf nc => ?_, fun b o hb => ?_⟩ hT fl'
  · exact k b o (fun z => by rw [z, hT] at hb; cases hb) (mv.keep b o hb nf nc)
  · obtain ⟨y, hy⟩ := mv.slot b o hb mf nc
    exact ⟨y, k b _ (fun z => by rw [z, hT] at hb; cases hb) hy⟩
  · obtain ⟨y, hy⟩ := mv.there b o hb
    exact t b y hy
end
end Rx

set_option Elab.async false
set_option linter.all false
set_option maxRecDepth 100000
namespace Rx
open PySem
section
variable {M : Model} {A : Around} {E : Value → Shared → Prop} {h : Heap} {g : Array GenState} {d : Drawn} {t : Nat} {os : OsState} {env : Env}
variable {nm q : Str} {C N : Addr} {bs bm : List Value} {hdct : Bool} {sn : List Str} {sub : List Value} {ab : Bool} {col : Option Bool} {dd : Option Addr} {k0 k1 k2 k3 k5 : Option Value} {newId : String}
variable {nm' q' : Str} {C' N' : Addr} {bs' bm' : List Value} {hdct' : Bool} {sn' : List Str} {sub' : List Value} {ab' : Bool} {col' : Option Bool} {dd' : Option Addr} {k0' k1' k2' k3' k5' : Option Value} {newId' : String}
/-- an exception that stands ready is raised -/
theorem raise_ready {s : Shared} {x : Sem Value} {Q : Flow → Shared → Prop} (hb : bm.contains (.type "BaseException") = true) (hh : A.handled = none)
    (k : wpAny M A x (fun v s1 => ∃ e oe, v = .ref e ∧ s1.heap.get? C = some (excClassObj nm q C N bs bm hdct sn sub ab col dd k0 k1 k2 k3 k5 newId) ∧ s1.heap.get? e = some oe ∧ oe.cls = .ref C ∧ (∃ vs, oe.data = .fields vs ∧ vs[1]? = some .none) ∧ E (.ref e) s1) E s) :
    wpAny M A (raiseStmt env (some x) none) Q E s := by
  have cb : (Value.ref C :: bm).contains (.type "BaseException") = true := by rw [List.contains_cons, hb, Bool.or_true]
  unfold raiseStmt
  refine wpAny_bind (wpAny_mono k (fun v s1 k1 => ?_) fun _ _ z => z)
  obtain ⟨e, ⟨oc, od, odt, osl⟩, rfl, hC, he, hc, ⟨vs, hd, hv⟩, hE⟩ := k1
  obtain ⟨h1, g1, d1, t1, os1⟩ := s1
  dsimp only at hc hd
  subst hc hd
  repeat (first | with_reducible refine wpAny_loadPart_at he ?_ | with_reducible refine wpAny_field he rfl hv ?_ | with_reducible refine wpAny_loadPart_at hC ?_ | (with_reducible refine wpAny_isSubtype_exc hC ?_; rw [cb]) | wp_step)
  exact wpAny_raiseNew_none hh hE
/-- does a clause with an own class take it -/
theorem match_own {e : Addr} {oe : Obj} {Q : Bool → Shared → Prop} (hC : h.get? C = some (excClassObj nm q C N bs bm hdct sn sub ab col dd k0 k1 k2 k3 k5 newId))
    (hC' : h.get? C' = some (excClassObj nm' q' C' N' bs' bm' hdct' sn' sub' ab' col' dd' k0' k1' k2' k3' k5' newId')) (he : h.get? e = some oe) (hc : oe.cls = .ref C) (hb' : bm'.contains (.type "BaseException") = true) {b : Bool}
    (hm : (Value.ref C :: bm).contains (.ref C') = b) (k : Q b ⟨h, g, d, t, os⟩) : wpAny M A (excMatches (.ref e) (.ref C')) Q E ⟨h, g, d, t, os⟩ := by
  have cb : (Value.ref C' :: bm').contains (.type "BaseException") = true := by rw [List.contains_cons, hb', Bool.or_true]
  have nt := tc_notTuple
  unfold excMatches
  repeat (first | (with_reducible refine wpAny_loadPart_at he ?_; rw [hc]) | with_reducible refine wpAny_loadPart_at hC' ?_ | (with_reducible refine wpAny_isSubtype_exc hC' ?_; rw [cb]) | (with_reducible refine wpAny_isSubtype_exc hC ?_; rw [hm]) | wp_step)
  cases b <;> first | exact k | (wp_walk; exact k)
end
section
variable {prog : Program} {w : World} {A : Around} {E : Value → Shared → Prop} {h : Heap} {g : Array GenState} {d : Drawn} {t : Nat} {os : OsState}
variable {nm q : Str} {C N : Addr} {bs bm bmB : List Value} {sn : List Str} {sub : List Value} {ab : Bool} {col : Option Bool} {dd : Option Addr} {k0 k1 k2 k3 k5 : Option Value} {B newId : String} {mN mA : Str → Option Value}
open Builtin Builtin.ObjectAttr
/-- B.__init__(e) without further arguments -/
theorem exc_init0 {initId : String} (F : ExcBaseFacts B newId initId bm) {e : Addr} {o : Obj} {vs : Array Value} {Q : Value → Shared → Prop}
    (hC : h.get? C = some (excClassObj nm q C N bs bm true sn sub ab col dd k0 k1 k2 k3 k5 newId)) (he : h.get? e = some o) (hc : o.cls = .ref C) (hd : o.data = .fields vs) {t0 : Addr} (h0 : vs[0]? = some (.ref t0))
    (k : ∀ h' T, (∀ b u, b ≠ e → h.get? b = some u → h'.get? b = some u) → h'.get? e = some (o.mapFields (·.setIfInBounds 0 (.ref T))) → Q .none ⟨h', g, d, t, os⟩) :
    wpAny (model prog w) A (call (.builtin initId) [.ref e]) Q E ⟨h, g, d, t, os⟩ := by
  refine wpAny_call (codeAny_call_builtin F.init.plain F.initEntry (wpAny_check_init_sub F hC he hc ?_))
  have he1 : (h.push { cls := .type "tuple", data := .seq #[] }).get? e = some o := Heap.get?_push_of_some _ he
  have hz : 0 < vs.size := (Array.getElem?_eq_some_iff.mp h0).1
  unfold Builtin.«BaseException.__init__»
  repeat (first | with_reducible refine wpAny_field he1 hd h0 ?_ | with_reducible refine wpAny_setField he1 hd hz ?_ | wp_step)
  refine k _ h.objs.size (fun b u nb hb => ?_) ?_
  · show ((h.push { cls := .type "tuple", data := .seq #[] }).update e _).get? b = some u
    rw [Heap.get?_update_other _ _ (Ne.symm nb)]
    exact Heap.get?_push_of_some _ hb
  · exact Heap.get?_update_self _ he1 (Obj.isFreed_of_fields (Obj.data_mapFields hd _))
end
end Rx

set_option Elab.async false
set_option linter.all false
set_option maxRecDepth 100000
namespace Rx
open PySem
open Builtin Builtin.ObjectAttr
section
variable {prog : Program} {w : World} {A : Around} {E : Value → Shared → Prop} {h : Heap} {g : Array GenState} {d : Drawn} {t : Nat} {os : OsState}
variable {nm q : Str} {C N x : Addr} {bs bm : List Value} {sn : List Str} {sub : List Value} {ab : Bool} {col : Option Bool} {dd : Option Addr} {k0 k1 k2 k3 k5 : Option Value} {B newId sa owner : String}
  {mN : Str → Option Value} {name : Str} {v : Value}
set_option maxHeartbeats 4000000 in
/-- the first attribute of an exception: its dict is the next object -/
theorem exc_put {tk : Tok} {o : Obj} {vs : Array Value} {Q : Fin → Shared → Prop} (SF : StoreFacts B bm sa owner)
    (hC : h.get? C = some (excClassObj nm q C N bs bm true sn sub ab col dd k0 k1 k2 k3 k5 newId)) (hn : h.Ns N mN) (hna : mN name = none) (hB : typeLookup (.type B) name = pure none)
    (hx : h.get? x = some o) (hc : o.cls = .ref C) (hd : o.data = .fields vs) (hdn : o.dict = none)
    (k : ∀ h' tk', (∀ b u, b ≠ x → h.get? b = some u → h'.get? b = some u) → h'.get? x = some { o with dict := some h.objs.size } → h'.Ns1 h.objs.size (fun y => if y = name then some v else none) → Q (.done (.ret .none)) ⟨h', g, d, tk', os⟩) :
    wpAny (model prog w) A (Builtin.«object.__setattr__» ⟨[.ref x, .str name tk, v], []⟩) Q E ⟨h, g, d, t, os⟩ := by
  obtain ⟨oc, od, odt, osl⟩ := o
  dsimp only at hc hd hdn
  subst hc hd hdn
  have pass := SF.passes (.ref x)
  have xs : x ≠ h.objs.size := Nat.ne_of_lt (Heap.lt_size hx)
  have x1 : (h.push { cls := .type "dict", data := .dict #[] }).get? x = some { cls := .ref C, dict := none, data := .fields vs, slots := osl } := Heap.get?_push_of_some _ hx
  have d1 : ((h.push { cls := .type "dict", data := .dict #[] }).update x fun o => { cls := o.cls, dict := some h.objs.size, data := o.data, slots := o.slots }).get? h.objs.size = some { cls := .type "dict", data := .dict #[] } :=
    (Heap.get?_update_ne _ _ _ _ xs.symm).trans (Heap.get?_push_at rfl rfl)
  have n1 : ((h.push { cls := .type "dict", data := .dict #[] }).update x fun o => { cls := o.cls, dict := some h.objs.size, data := o.data, slots := o.slots }).Ns h.objs.size (fun _ => none) :=
    ⟨_, #[], _, d1, rfl, fun e he => absurd he (by simp), fun _ => rfl⟩
  have x2 : ((h.push { cls := .type "dict", data := .dict #[] }).update x fun o => { cls := o.cls, dict := some h.objs.size, data := o.data, slots := o.slots }).get? x = some { cls := .ref C, dict := some h.objs.size, data := .fields vs, slots := osl } :=
    Heap.get?_update_self _ x1 rfl
  unfold Builtin.«object.__setattr__»
  repeat (first | rw [refuse_eq] | (rw [refuseLoop_ref, pass]) | with_reducible refine wpAny_loadPart_at hx ?_ | with_reducible refine wpAny_mroOf_exc hC ?_ | (with_reducible refine wpAny_typeLookup_exc hC hn SF.mro hB ?_; rw [hna]) | with_reducible refine wpAny_nsSet1 (Heap.Ns1.of_empty n1) ?_ | wp_step)
  intro h' hn' hs
  obtain ⟨oD, esD, epD, hoD, hdD, hcD⟩ := hn'.count (Within.cons name v Within.nil)
  refine wpAny_bind (wpAny_lookBehind hoD (by rw [hdD]; exact pastItsLine_dict (Nat.le_trans hcD (by rw [List.length_cons, List.length_nil, sizeLine_eq]; omega))) ?_)
  wp_walk
  refine k h' _ (fun b u nb hb => ?_) ((hs.2 x xs).trans x2) hn'
  exact (hs.2 b (Nat.ne_of_lt (Heap.lt_size hb))).trans ((Heap.get?_update_ne _ _ _ _ nb).trans (Heap.get?_push_of_some _ hb))
theorem exc_store {o : Obj} {vs : Array Value} {Q : Unit → Shared → Prop} (SF : StoreFacts B bm sa owner)
    (hC : h.get? C = some (excClassObj nm q C N bs bm true sn sub ab col dd k0 k1 k2 k3 k5 newId)) (hn : h.Ns N mN) (hns : mN "__setattr__" = none) (hna : mN name = none) (hB : typeLookup (.type B) name = pure none)
    (hx : h.get? x = some o) (hc : o.cls = .ref C) (hd : o.data = .fields vs) (hdn : o.dict = none)
    (k : ∀ h' tk', (∀ b u, b ≠ x → h.get? b = some u → h'.get? b = some u) → h'.get? x = some { o with dict := some h.objs.size } → h'.Ns1 h.objs.size (fun y => if y = name then some v else none) → Q () ⟨h', g, d, tk', os⟩) :
    wpAny (model prog w) A (setAttr (.ref x) name v) Q E ⟨h, g, d, t, os⟩ := by
  have f3 := SF.slot.bind (.ref x)
  unfold setAttr callSpecial? specialOf
  repeat (any_goals (first | assumption | (with_reducible refine wpAny_loadPart_at hx ?_; rw [hc]) | (with_reducible refine wpAny_typeLookup_exc hC hn SF.mro SF.slot.lookup ?_; rw [hns]) | wp_step))
  refine codeAny_call_builtin SF.slot.plain SF.entry (wpAny_check_sa SF hC hx hc (exc_put SF hC hn hna hB hx hc hd hdn fun h' tk' a b c => ?_))
  repeat (any_goals (first | assumption | wp_step))
  exact k h' tk' a b c
end
end Rx

set_option Elab.async false
set_option linter.all false
set_option maxRecDepth 100000
namespace L2
open PySem PySem.Spec PyProof.Rows Rx
section
variable {P : Program} {w : World} {H : Hp} {h g : Heap} {a e : Addr} {o : HO}
theorem HOk.seen (ok : HOk P w H h) (q : H a = some o) : ∃ ob, h.get? a = some ob := by
  have x := ok a o q
  cases o with
  | lst xs => obtain ⟨_, _, _, _, e⟩ := x; exact ⟨_, e⟩
  | tup xs => obtain ⟨_, _, _, ob, e, _⟩ := x; exact ⟨ob, e⟩
  | dK kvs => obtain ⟨_, _, _, _, ob, _, _, e, _⟩ := x; exact ⟨ob, e⟩
  | dT kvs => obtain ⟨_, _, _, _, ob, _, _, e, _⟩ := x; exact ⟨ob, e⟩
  | set S n => obtain ⟨ob, _, _, _, e, _⟩ := x; exact ⟨ob, e⟩
  | ins C dx fs => obtain ⟨_, _, _, e, _⟩ := x; exact ⟨_, e⟩
  | own y => exact x
  | xd fs => obtain ⟨_, ⟨ob, _, _, e, _⟩, _⟩ := x; exact ⟨ob, e⟩
  | rng lo hi => obtain ⟨_, _, _, e⟩ := x; exact ⟨_, e⟩
  | frz ob u => obtain ⟨e, _⟩ := x; exact ⟨_, e⟩
  | tbl ps => exact ⟨_, x⟩
  | met f y => exact ⟨_, x⟩
  | ext φ => exact x.2.1
theorem HOk.gone (ok : HOk P w H h) (n : h.get? a = none) : H a = none := by
  cases q : H a with
  | none => rfl
  | some o =>
    obtain ⟨ob, z⟩ := ok.seen q
    rw [n] at z
    cases z
theorem HOk.moved {fs ch : List Addr} (ok : HOk P w H h) (mv : Moved fs ch h g) (hf : ∀ b ∈ fs, H b = none) (hc : ∀ b ∈ ch, H b = none) : HOk P w H g := fun a o q =>
  (ok a o q).stay (fun b u hb e => by
    have nn : H b ≠ none := by
      rcases hb with z | z
      · rw [z, q]; exact fun y => nomatch y
      · rw [z]; exact fun y => nomatch y
    exact mv.keep b u e (fun z => nn (hf b z)) fun z => nn (hc b z)) (fun _ r => r) fun _ _ r => r
theorem Un.moved {fs fs' ch : List Addr} {H0 : Hp} {h0 : Heap} (u : Un fs' [] H0 H h0 h) (mv : Moved fs ch h g) (hf : ∀ b o, h0.get? b = some o → b ∈ fs → b ∈ fs') (hc : ∀ b ∈ ch, h0.get? b = none) : Un fs' [] H0 H h0 g where
  keep := fun b o e n nf nx => mv.keep b o (u.keep b o e n nf nx) (fun z => nf (hf b o e z)) fun z => by rw [hc b z] at e; cases e
  slot := fun b o e n mf nx => by
    obtain ⟨s1, e1⟩ := u.slot b o e n mf nx
    have nc : b ∉ ch := fun z => by rw [hc b z] at e; cases e
    by_cases z : b ∈ fs
    · obtain ⟨s2, e2⟩ := mv.slot b _ e1 z nc
      exact ⟨s2, e2⟩
    · exact ⟨s1, mv.keep b _ e1 z nc⟩
  free := u.free
  there := fun b o e nx => by
    obtain ⟨o', e1⟩ := u.there b o e nx
    exact mv.there b o' e1
  tups := u.tups
  frzs := u.frzs
  tbls := u.tbls
/-- no longer tracked -/
def drp (H : Hp) (e : Addr) : Hp := fun b => if b = e then none else H b
theorem drp_self : drp H e e = none := if_pos rfl
theorem drp_ne {b : Addr} (n : b ≠ e) : drp H e b = H b := if_neg n
theorem drp_none {b : Addr} (n : H b = none) : drp H e b = none := by
  by_cases z : b = e
  · rw [z]; exact drp_self
  · rw [drp_ne z]; exact n
theorem HOk.drop {φ : Heap → Prop} (ok : HOk P w H h) (he : H e = some (.ext φ)) : HOk P w (drp H e) h := fun a o q => by
  by_cases z : a = e
  · subst z; rw [drp_self] at q; cases q
  · rw [drp_ne z] at q
    exact (ok a o q).stay (fun _ _ _ r => r) (fun b r => by rw [drp_ne (ne_of r he (by intro y; cases y))]; exact r) fun b xs r => by rw [drp_ne (ne_of r he (by intro y; cases y))]; exact r
end
/-- an exception that stands ready, of the class at C; its dict -/
def XF (C e : Addr) (dx : Option Addr) : HO := .ext fun h => ∃ oe vs, h.get? e = some oe ∧ oe.cls = .ref C ∧ oe.dict = dx ∧ oe.data = .fields vs ∧ (∃ t0, vs[0]? = some (.ref t0)) ∧ vs[1]? = some .none
theorem xf_ok {P : Program} {w : World} {H : Hp} {h : Heap} {C e : Addr} {dx : Option Addr} {oe : Obj} {vs : Array Value} {t0 : Addr} (h1 : h.get? e = some oe) (h2 : oe.cls = .ref C) (h3 : oe.dict = dx) (h4 : oe.data = .fields vs) (h5 : vs[0]? = some (.ref t0))
    (h6 : vs[1]? = some .none) : ObjOk P w H h e (XF C e dx) :=
  ⟨⟨oe, vs, h1, h2, h3, h4, ⟨t0, h5⟩, h6⟩, ⟨oe, h1⟩, fun _ _ ⟨o, v, a, r⟩ k => ⟨o, v, k o a, r⟩⟩
section
variable {X : Cx} {pins : List (Addr × Obj)} {σ : St} {H H' : Hp} {s s' : Shared} {h' : Heap}
theorem Inv.laidX {a : Addr} {o : HO} {t' : Nat} (I : Inv X pins σ H s) (k : ∀ b u, s.heap.get? b = some u → h'.get? b = some u) (hn : s.heap.get? a = none) (new : ObjOk X.prog X.w (upd H a o) h' a o) :
    Inv X pins σ (upd H a o) { s with heap := h', toks := t' } := by
  have ha := I.hok.gone hn
  refine I.un ⟨fun b u q _ _ _ => k b u q, fun b u q _ _ _ => ⟨u.slots, k b u q⟩, fun b u q n _ => ?_, fun b u q _ => ⟨u, k b u q⟩, fun b xs q => by rw [upd_ne (ne_of_none q ha)]; exact q,
    fun b u xs q => by rw [upd_ne (ne_of_none q ha)]; exact q, fun b ps q => ⟨#[], by rw [upd_ne (ne_of_none q ha), q]; simp⟩⟩ fun b u q => ?_
  · rw [upd_ne (fun z => by rw [z, hn] at q; cases q)]; exact n
  · by_cases z : b = a
    · subst z; rw [upd_same] at q; cases q; exact new
    · rw [upd_ne z] at q
      exact (I.hok b u q).stay (fun c v _ r => k c v r) (fun c r => by rw [upd_ne (ne_of_none r ha)]; exact r) fun c xs r => by rw [upd_ne (ne_of_none r ha)]; exact r
theorem Inv.drop {e : Addr} {φ : Heap → Prop} (I : Inv X pins σ H s) (he : H e = some (.ext φ)) (h0 : X.s_0.heap.get? e = none) : Inv X pins σ (drp H e) s :=
  ⟨I.ok, I.os, I.bare, ⟨I.base.keep, I.base.slot, fun b o q n hx => drp_none (I.base.free b o q n hx), I.base.there,
      fun b xs q => by have z := I.base.tups b xs q; rw [drp_ne (ne_of z he (by intro y; cases y))]; exact z,
      fun b o xs q => by have z := I.base.frzs b o xs q; rw [drp_ne (ne_of z he (by intro y; cases y))]; exact z,
      fun b ps q => by obtain ⟨m, z⟩ := I.base.tbls b ps q; exact ⟨m, by rw [drp_ne (ne_of z he (by intro y; cases y))]; exact z⟩⟩,
    I.loc, I.cell, drp_none I.free, fun x c q => drp_none (I.freeC x c q), fun p hp => let ⟨a, b, c⟩ := I.pin p hp; ⟨a, drp_none b, c⟩, I.hok.drop he, I.len⟩
end
/-! ### how an exception lies behind a call -/
def CXE (P : Program) (w : World) : CXT := fun outer H s E ev s' => ∃ (e : Addr) (C : Value) (dx : Option Addr) (T : Addr) (H' : Hp), ev = .ref e ∧ s'.os = s.os ∧ AllBare s'.gens ∧ Un (frs outer) [] H H' s.heap s'.heap ∧ HOk P w H' s'.heap ∧
  s.heap.get? e = none ∧ s.heap.get? T = none ∧ H' e = none ∧ H' T = none ∧ Fly s'.heap e C dx T .none ∧ E C dx H'
theorem passE {P : Program} {w : World} {X : Cx} : Passes (CXE P w) X E0 := fun _ _ _ _ _ _ _ ⟨_, _, _, _, _, _, _, _, _, _, _, _, _, _, _, q⟩ => q.elim
/-- an exception raised here leaves as it is wanted -/
def Throws (X : Cx) (E : XK) : Prop := ∀ (pins : List (Addr × Obj)) (σ : St) (H : Hp) (s : Shared) (e : Addr) (C : Value) (dx : Option Addr), Inv X pins σ H s → X.s_0.heap.get? e = none → Fresh s.heap e C dx → H e = none → E C dx H → X.xe (.ref e) s
section
variable {P : Program} {w : World} {K : PySem.W.Frag} {mg : Str → Option Value} {base : Heap} {N : List Str} {qual : Str} {scope : Scope} {f : Addr} {cd : Value} {A : Around} {outer : List Env} {s0 : Shared} {H0 : Hp} {E : XK}
theorem inv_new {X : Cx} {pins : List (Addr × Obj)} {σ : St} {H : Hp} {s : Shared} (I : Inv X pins σ H s) (hx : X.ex = []) {b : Addr} (n : s.heap.get? b = none) : X.s_0.heap.get? b = none := by
  cases q : X.s_0.heap.get? b with
  | none => rfl
  | some o =>
    obtain ⟨o', e⟩ := I.base.there b o q (by rw [hx]; simp)
    rw [n] at e
    cases e
theorem frame_old {X : Cx} (ok : X.Ok) {b : Addr} {o : Obj} (q : X.s_0.heap.get? b = some o) (hs : b ∈ frs X.stack) : b ∈ X.fs := by
  rcases ok.stk with z | ⟨z, zf⟩
  · rw [z] at hs; exact hs
  · rw [z] at hs
    unfold frs at hs
    rw [List.filterMap_cons, zf] at hs
    rcases List.mem_cons.mp hs with y | y
    · rw [y] at q
      exact absurd (Nat.lt_of_lt_of_le (Heap.lt_size q) ok.above) (Nat.lt_irrefl _)
    · exact y
theorem passX : Passes (CXE P w) (cxOf (CXE P w) P w K mg base N qual scope f cd A outer s0 H0 E) E := by
  intro pins σ H s ev s' I h
  obtain ⟨e, C, dx, T, H', rfl, os, bare, un, hok, ne, nT, he, hT, fl, q⟩ := h
  have I' := I.call' (s' := s') (ch := []) os un hok bare (fun b z => absurd z (by simp))
  show wpAny _ _ (leaving _ (.ref e)) _ _ s'
  refine leave_on (base := base) (outer := outer) I'.ok.frames I'.stack rfl fl fun g T' mv nT' fl' => ?_
  have old : ∀ b ∈ [e, T], s0.heap.get? b = none := fun b hb => by
    rcases List.mem_cons.mp hb with z | z
    · rw [z]; exact inv_new I rfl ne
    · rw [List.mem_singleton.mp z]; exact inv_new I rfl nT
  refine ⟨e, C, dx, T', H', rfl, os.trans I.os, bare, Un.moved (H0 := H0) (h0 := s0.heap) I'.base mv (fun b o z y => frame_old I'.ok z y) old, hok.moved mv I'.stkFree (fun b hb => ?_), inv_new I rfl ne, inv_new I' rfl nT', he, hok.gone nT', fl', q⟩
  rcases List.mem_cons.mp hb with z | z
  · rw [z]; exact he
  · rw [List.mem_singleton.mp z]; exact hT
theorem throwX : Throws (cxOf (CXE P w) P w K mg base N qual scope f cd A outer s0 H0 E) E := by
  intro pins σ H s e C dx I ne fr he q
  show wpAny _ _ (leaving _ (.ref e)) _ _ s
  refine leave_first (base := base) (outer := outer) I.ok.frames I.stack rfl fr fun g T mv nT fl => ?_
  refine ⟨e, C, dx, T, H, rfl, I.os, I.bare, Un.moved (H0 := H0) (h0 := s0.heap) I.base mv (fun b o z y => frame_old I.ok z y) (fun b hb => by rw [List.mem_singleton.mp hb]; exact ne), I.hok.moved mv I.stkFree (fun b hb => by rw [List.mem_singleton.mp hb]; exact he), ne, inv_new I rfl nT, he, I.hok.gone nT, fl, q⟩
theorem ownX : PassesOwn (model P w) (cxOf (CXE P w) P w K mg base N qual scope f cd A outer s0 H0 E).A (cxOf (CXE P w) P w K mg base N qual scope f cd A outer s0 H0 E).env (cxOf (CXE P w) P w K mg base N qual scope f cd A outer s0 H0 E).xe := PassesOwn.leaving
/-- THE RULE for a def that may raise -/
theorem Fun.okX {x : Str} {st : Stmt} {fd : FuncData} {ps : List Str} {k : Nat} {sp : Sp} (F : Fun K x qual st f fd) (S : FnScope N ps (defScope st)) (len : ∀ vs H Q E, sp vs H Q E → vs.length = ps.length)
    (hbody : ∀ (cdv : Value) (A : Around) (outer : List Env) (s : Shared) (H : Hp) (vs : List V) (Q : VK) (E : XK), Room k (A.deeper (envOfC qual (defScope st) s.heap.objs.size f cdv)) → sp vs H Q E →
      ∃ t, PSs (cxOf (CXE P w) P w K mg base N qual (defScope st) f cdv A outer s H E) (defBody st) t ∧ t { nx := fun _ H' => Q .non H', rt := Q } (start N vs) H) : FnOk P w K mg base (CXE P w) (k + 1) f fd ps sp := by
  obtain ⟨oc, od, kV, doc, pm, an, cdv, ct, osl, rfl, lk, hcd⟩ := F.ex
  exact fn_of lk hcd S len fun A outer s H vs Q E hr hsp => hbody cdv A outer s H vs Q E hr hsp
end
end L2

set_option Elab.async false
set_option linter.all false
set_option maxRecDepth 100000
namespace L2
open PySem PySem.Spec PyProof.Rows Rx
abbrev bmE : List Value := [.type "Exception", .type "BaseException", .type "object"]
/-- an own exception class over Exception, its namespace at N -/
structure XC (K : PySem.W.Frag) (C N : Addr) : Prop where
  obj : ∃ nm q bs sn sub ab col dd k0 k1 k2 k3 k5, K.lookup C = some (excClassObj nm q C N bs bmE true sn sub ab col dd k0 k1 k2 k3 k5 "Exception.__new__")
  ns : PySem.W.nsOkIn K N = true
  kp : PySem.W.keepIn K (.ref C) = true
theorem ns_some_of {K : PySem.W.Frag} {h : Heap} {N : Addr} {mN : Str → Option Value} {n : Str} {v : Value} (X : K.In h) (G : h.Ns N mN) (e : PySem.W.nsIn K N n = some (some v)) : mN n = some v := by
  obtain ⟨o, es, ep, ho, hd, _, hf⟩ := G
  unfold PySem.W.nsIn at e
  split at e
  · rename_i c d es' n' sl q
    have z := X _ _ q
    rw [ho] at z
    cases z
    cases hd
    split at e
    · rename_i en he
      cases e
      rw [← hf]
      unfold nsFind findBy
      rw [← Array.find?_toList, he]
      rfl
    · split at e <;> cases e
  · cases e
theorem XC.nsAt {K : PySem.W.Frag} {h : Heap} {C N : Addr} (x : XC K C N) (k : K.In h) : h.Ns N (h.nsMap N) := .of_isNs (PySem.W.isNs_of_in k x.ns)
theorem XC.no {K : PySem.W.Frag} {h : Heap} {C N : Addr} (x : XC K C N) (k : K.In h) {n : Str} (e : PySem.W.nsIn K N n = some none) : h.nsMap N n = none := PySem.W.nsMap_none_of_in k x.ns e
section
variable {X : Cx} {C N f : Addr} {CX : CXT} {k : Nat} {fd : FuncData} {ps : List Str} {sp : Sp} {E E1 : XK} {x : Str} {p cpos pos : Pos} {e : Expr} {es : List Expr} {t : TA}
/-- raise C(..), C an own exception with an own __init__ -/
def tRaiseI (C : Addr) (sp : Sp) (E E1 : XK) (t : TA) : TS := fun _ σ H => t σ H fun vs H1 => ∀ e, H1 e = none → sp (.ref e :: vs) (upd H1 e (XF C e none)) (fun v H2 => v = .non ∧ ∃ dx, H2 e = some (XF C e dx) ∧ E (.ref C) dx (drp H2 e)) E1
theorem ps_raiseI (hc : X.calm = true) (hex : X.ex = []) (xc : XC X.K C N) (hi : PySem.W.nsIn X.K N "__init__" = some (some (.ref f))) (hfo : ∃ o, X.K.lookup f = some o ∧ o.cls = .type "function")
    (F : FnOk X.prog X.w X.K X.mg X.base CX k f fd ps sp) (hr : Room (k + 1) X.A) (hg : Gl X x) (hm : X.mg x = some (.ref C)) (hb : Binds X.K fd ps []) (hps : ps.length ≤ 1000) (hx : Passes CX X E1) (ht : Throws X E)
    (ha : PA X (e :: es) t) (hdb : (x == ("__debug__" : Str)) = false := by decide) (he : starEach (e :: es) X.env = (false, eval e X.env) :: starEach es X.env := by rfl) (hpl : (backTo cpos (starEach es X.env)).any (·.1) = false := by rfl) :
    PS X (.Raise (some (.Call (.Name x p) (e :: es) [] cpos)) none pos) (tRaiseI C sp E E1 t) := by
  intro pins s σ H D I h
  obtain ⟨nm, q, bs, sn, sub, ab, col, dd, k0, k1, k2, k3, k5, lk⟩ := xc.obj
  obtain ⟨of, lf, cf⟩ := hfo
  show wpAny _ _ (do standAt pos; raiseStmt X.env (some (do let v ← eval (.Call (.Name x p) (e :: es) [] cpos) X.env; standAt pos; pure v)) none) _ _ s
  refine wpAny_bind (wpAny_standAt (raise_ready (C := C) (N := N) (nm := nm) (q := q) (bs := bs) (bm := bmE) (hdct := true) (sn := sn) (sub := sub) (ab := ab) (col := col) (dd := dd) (k0 := k0) (k1 := k1) (k2 := k2) (k3 := k3) (k5 := k5) (newId := "Exception.__new__") (by decide) (I.ok.hd hc) ?_))
  refine wpAny_bind (thn ?_ fun v s1 k1 => wpAny_bind (wpAny_standAt (wpAny_pure k1)))
  refine wpAny_Call_Name_kw (ld_glob I hg hm ?_ hdb)
  refine PySem.W.callWith_K (h₀ := X.base) I.ok.mod.kin xc.kp (thn (ha cpos pins s σ H _ I h) fun us s1 ⟨vs, H1, I1, r, q1⟩ => ⟨I1.kIn, ?_⟩) he hpl
  obtain ⟨h1, g1, d1, t1, os1⟩ := s1
  have lus : us.length ≤ sizeLine := by
    have z := F.len _ _ _ _ (q1 (h1.objs.size) (I1.hok.fresh (Nat.le_refl _)))
    have y := r.length
    rw [List.length_cons] at z
    have := small1000 (n := us.length) (by omega)
    omega
  refine wpAny_call_exc_init PySem.F.excBase_Exception (I1.kIn _ _ lk) (xc.nsAt I1.kIn) (ns_some_of I1.kIn (xc.nsAt I1.kIn) hi) (I1.kIn _ _ lf) cf (fun h' a mk => ?_) lus
  obtain ⟨tt, m1, m2, m3⟩ := mk.there
  have I2 : Inv X pins σ (upd H1 a (XF C a none)) ⟨h', g1, d1, t1, os1⟩ := I1.laidX (t' := t1) mk.keeps mk.new (xf_ok m1 rfl rfl rfl rfl rfl)
  have q2 := q1 a (I1.hok.gone mk.new)
  have r2 : Vals (V.ref a :: vs) (Value.ref a :: us) := .cons rfl r
  have hl : (Value.ref a :: us ++ []).length = ps.length := by
    rw [List.append_nil, ← r2.length]
    exact F.len _ _ _ _ q2
  have hb2 := hb ⟨h', g1, d1, t1, os1⟩ (Value.ref a :: us) I2.kIn hl
  rw [List.append_nil] at hb2
  refine wpAny_call (codeAny_mono (F.run _ X.stack _ _ ⟨Value.ref a :: us, []⟩ (Value.ref a :: us) _ _ E1 (hr.make C us []) (I2.env0.make C us []) hb2 r2 q2) fun rr s' hq => ?_)
  cases rr with
  | error ev => exact hx pins σ _ _ ev s' I2 hq
  | ok fl =>
    cases fl with
    | next => exact False.elim hq
    | brk => exact False.elim hq
    | cont => exact False.elim hq
    | ret u =>
      obtain ⟨v, H2, I3, rv, ev, dx, hX, hE⟩ := I2.after hq
      subst ev
      refine ⟨rv, a, ?_⟩
      obtain ⟨⟨oe, vs', x1, x2, x3, x4, x5, x6⟩, _, _⟩ := I3.hok a _ hX
      refine ⟨oe, rfl, I3.kIn _ _ lk, x1, x2, ⟨vs', x4, x6⟩, ?_⟩
      have new0 : X.s_0.heap.get? a = none := inv_new I1 hex mk.new
      exact ht pins σ _ s' a (.ref C) dx (I3.drop hX new0) new0 ⟨oe, vs', x1, x2, x3, x4, x6⟩ drp_self hE
/-- raise C(), C an own exception without an __init__ -/
def tRaise0 (C : Addr) (E : XK) : TS := fun _ _ H => E (.ref C) none H
theorem ps_raise0 (hc : X.calm = true) (hex : X.ex = []) (xc : XC X.K C N) (hi : PySem.W.nsIn X.K N "__init__" = some none) (hg : Gl X x) (hm : X.mg x = some (.ref C)) (ht : Throws X E) (hdb : (x == ("__debug__" : Str)) = false := by decide) :
    PS X (.Raise (some (.Call (.Name x p) [] [] cpos)) none pos) (tRaise0 C E) := by
  intro pins s σ H D I h
  obtain ⟨nm, q, bs, sn, sub, ab, col, dd, k0, k1, k2, k3, k5, lk⟩ := xc.obj
  show wpAny _ _ (do standAt pos; raiseStmt X.env (some (do let v ← eval (.Call (.Name x p) [] [] cpos) X.env; standAt pos; pure v)) none) _ _ s
  refine wpAny_bind (wpAny_standAt (raise_ready (C := C) (N := N) (nm := nm) (q := q) (bs := bs) (bm := bmE) (hdct := true) (sn := sn) (sub := sub) (ab := ab) (col := col) (dd := dd) (k0 := k0) (k1 := k1) (k2 := k2) (k3 := k3) (k5 := k5) (newId := "Exception.__new__") (by decide) (I.ok.hd hc) ?_))
  refine wpAny_bind (thn ?_ fun v s1 k1 => wpAny_bind (wpAny_standAt (wpAny_pure k1)))
  refine wpAny_Call_Name_kw (ld_glob I hg hm ?_ hdb)
  refine PySem.W.callWith_K0 I.kIn xc.kp ?_
  obtain ⟨h1, g1, d1, t1, os1⟩ := s
  refine wpAny_call_exc_sub PySem.F.excBase_Exception (I.kIn _ _ lk) (xc.nsAt I.kIn) (xc.no I.kIn hi) (fun h' a mk => ?_) (Nat.zero_le _)
  obtain ⟨tt, m1, m2, m3⟩ := mk.there
  have I2 : Inv X pins σ H ⟨h', g1, d1, t1, os1⟩ := I.kept (t' := t1) mk.keeps
  have new0 : X.s_0.heap.get? a = none := inv_new I hex mk.new
  exact ⟨a, _, rfl, I2.kIn _ _ lk, m1, rfl, ⟨_, rfl, rfl⟩, ht pins σ H _ a (.ref C) none I2 new0 ⟨_, _, m1, rfl, rfl, rfl, rfl⟩ (I.hok.gone mk.new) h⟩
end
/-! ### within an own __init__ of an exception -/
theorem upd_self {H : Hp} {a : Addr} {o : HO} (h : H a = some o) : upd H a o = H := by
  funext b
  by_cases z : b = a
  · rw [z, upd_same, h]
  · exact upd_ne z
theorem exc_init_cls (K : PySem.W.Frag) : PySem.W.findCls K (.type "Exception") (.type "type") "__init__" = some (.val (.builtin "Exception.__init__")) := by
  show PySem.W.findCls [] (.type "Exception") (.type "type") "__init__" = _
  kernel_rfl
section
variable {X : Cx} {C N : Addr} {p apos pos : Pos} {e o value : Expr} {te ta tv : TE} {fl : Str} {pos' : Pos}
/-- Exception.__init__(e) -/
def tInitX (K : PySem.W.Frag) (t : TA) : TE := fun σ H Q => t σ H fun vs H1 => ∃ a C N dx, vs = [.ref a] ∧ H1 a = some (XF C a dx) ∧ XC K C N ∧ Q .non H1
theorem pe_initX {pl : Sem Bool} {t : TA} (hg : Gl X "Exception") (hm : X.mg "Exception" = none) (ha : PA X [e] t) (hs : starEach [e] X.env = [(false, eval e X.env)] := by rfl)
    (ht : eval (.Call (.Attribute (.Name "Exception" p) "__init__" apos) [e] [] pos) X.env = (do
      let ov ← eval (.Name "Exception" p) X.env
      standAt apos.atName
      let (f, first) ← holding [ov] (getMethod ov "__init__" pl)
      callWith pos f first (backTo pos (starEach [e] X.env)) (backToKw pos (keywordEach [] X.env))) := by rfl) :
    PE X (.Call (.Attribute (.Name "Exception" p) "__init__" apos) [e] [] pos) (tInitX X.K t) := by
  intro pins s σ H Q I h
  refine PySem.W.methodCall_KW (pl := pl) (ld_blt I hg hm PyProof.Rows.Boot.«Exception» ?_ (by decide) (by decide)) ht
  obtain ⟨m, Fm⟩ := I.fr
  refine PySem.W.method_type Fm I.mod.kin (by kernel_rfl) (by decide +kernel) (exc_init_cls X.K) (by decide +kernel) ?_
  have I0 := I.tok (s.toks + 1)
  have hA := ha pos pins _ σ H _ I0 h
  rw [hs] at hA ⊢
  refine Calls.callWith_builtin rfl (Calls.evalArgs_plain ?_)
  refine thn hA fun us s2 ⟨vs, H2, I2, r2, a, C, N, dx, ev, hX, xc, q⟩ => ?_
  subst ev
  obtain ⟨u, rfl, ru⟩ := vals1 r2
  obtain rfl : u = Value.ref a := ru
  obtain ⟨nm, qn, bs, sn, sub, ab, col, dd, k0, k1, k2, k3, k5, lk⟩ := xc.obj
  obtain ⟨⟨oe, vs', x1, x2, x3, x4, ⟨t0, x5⟩, x6⟩, _, _⟩ := I2.hok a _ hX
  obtain ⟨h1, g1, d1, t1, os1⟩ := s2
  refine exc_init0 PySem.F.excBase_Exception (I2.kIn _ _ lk) x1 x2 x4 x5 fun h' T kp hn => ?_
  have z0 : 0 < vs'.size := (Array.getElem?_eq_some_iff.mp x5).1
  have I3 := I2.write (x := a) (e := a) (h' := h') (t' := t1) (o := XF C a dx) (by rw [hX]; exact True.intro) (.inl rfl) kp ⟨_, hn⟩
    (xf_ok hn ((Obj.cls_mapFields _ _).trans x2) ((dict_mapFields _ _).trans x3) (Obj.data_mapFields x4 _) (t0 := T) (by simp [z0]) (by rw [Array.getElem?_setIfInBounds_ne (by decide)]; exact x6))
  rw [upd_self hX] at I3
  exact ⟨.non, H2, I3, rfl, q⟩
/-- the first attribute of an exception -/
def sSetX (K : PySem.W.Frag) (ta tv : TE) (f : Str) : TS := fun D σ H => tv σ H fun y H1 => ta σ H1 fun x H2 => ∃ a C N, x = .ref a ∧ H2 a = some (XF C a none) ∧ XC K C N ∧ PySem.W.nsIn K N f = some none ∧ PySem.W.nsIn K N "__setattr__" = some none ∧
  ∀ dx, H2 dx = none → dx ≠ a → D.nx σ (upd (upd H2 dx (.xd [(f, y)])) a (XF C a (some dx)))
theorem get_push {h : Heap} {o : Obj} {b : Addr} {u : Obj} (e : (h.push o).get? b = some u) : h.get? b = some u ∨ (b = h.objs.size ∧ u = o) := by
  obtain ⟨e1, e2⟩ := Heap.get?_some_iff.mp e
  by_cases z : b < h.objs.size
  · left
    refine Heap.get?_some_iff.mpr ⟨?_, e2⟩
    have y : (h.objs.push o)[b]? = some u := e1
    rw [Array.getElem?_push_lt z] at y
    rw [Array.getElem?_eq_getElem z]
    exact y
  · right
    have y : (h.objs.push o)[b]? = some u := e1
    have lt := (Array.getElem?_eq_some_iff.mp y).1
    rw [Array.size_push] at lt
    have eb : b = h.objs.size := Nat.le_antisymm (Nat.lt_succ_iff.mp lt) (Nat.le_of_not_lt z)
    subst eb
    rw [Array.getElem?_push_size] at y
    exact ⟨rfl, (Option.some.inj y).symm⟩
theorem ps_setX (ha : PE X o ta) (hv : PE X value tv) (hB : typeLookup (.type "Exception") fl = pure none) (hs : swapsWith value (some (.Attribute o fl pos')) pos.line X.env = pure false) : PS X (.Assign [.Attribute o fl pos'] value pos) (sSetX X.K ta tv fl) := by
  intro pins s σ H D I h
  refine plainObj_wpAny_Assign_Attribute (thn (hv pins s σ H _ I h) fun u s1 ⟨y, H1, I1, ry, q⟩ => thn (ha pins s1 σ H1 _ I1 q) fun ov s2 ⟨x, H2, I2, rx, a, C, N, ex, hX, xc, n1, n2, q2⟩ => ?_) hs
  subst ex
  obtain rfl : ov = Value.ref a := rx
  obtain ⟨nm, qn, bs, sn, sub, ab, col, dd, k0, k1, k2, k3, k5, lk⟩ := xc.obj
  obtain ⟨⟨oe, vs', x1, x2, x3, x4, ⟨t0, x5⟩, x6⟩, _, _⟩ := I2.hok a _ hX
  obtain ⟨h1, g1, d1, t1, os1⟩ := s2
  refine exc_store PySem.F.store_Exception (I2.kIn _ _ lk) (xc.nsAt I2.kIn) (xc.no I2.kIn n2) (xc.no I2.kIn n1) hB x1 x2 x4 x3 fun h' tk kp hx hns => ?_
  have fr := I2.hok.fresh (a := h1.objs.size) (Nat.le_refl _)
  have na : h1.objs.size ≠ a := Nat.ne_of_gt (Heap.lt_size x1)
  obtain ⟨oD, es, ep, z1, zr⟩ := id hns
  have alive := (Heap.get?_some_iff.mp z1).2
  have p1 : (h1.push oD).get? h1.objs.size = some oD := Heap.get?_push_size h1 alive
  have I3 := I2.laid (a := h1.objs.size) (o := .xd [(fl, y)]) (h' := h1.push oD) (t' := tk) (fun b u z => Heap.get?_push_of_some _ z) (Nat.le_refl _)
    ⟨_, hns.at (fun o z => by rw [z1] at z; cases z; exact p1), fun g => by
      show RelO (List.lookup g [(fl, y)]) (if g = fl then some u else none)
      by_cases z : g = fl
      · rw [if_pos z, z, List.lookup_cons_self]; exact ry
      · rw [if_neg z, List.lookup_cons, show (g == fl) = false from beq_eq_false_iff_ne.mpr z]; exact True.intro⟩
  have hX3 : upd H2 h1.objs.size (.xd [(fl, y)]) a = some (XF C a none) := by rw [upd_ne (Ne.symm na)]; exact hX
  have I4 := I3.write (x := a) (e := a) (h' := h') (t' := tk) (o := XF C a (some h1.objs.size)) (by rw [hX3]; exact True.intro) (.inl rfl) (fun b u nb z => by
      rcases get_push z with y | ⟨y1, y2⟩
      · exact kp b u nb y
      · rw [y1, y2]; exact z1) ⟨_, hx⟩ (xf_ok hx x2 rfl x4 x5 x6)
  exact ⟨σ, _, I4, q2 _ fr na⟩
end
end L2

set_option Elab.async false
set_option linter.all false
set_option maxRecDepth 100000
namespace L2
open PySem PySem.Spec PyProof.Rows Rx
/-- the context of a try's body; of an except suite -/
abbrev Cx.tr (X : Cx) (pn : List (Addr × Obj)) (Ev : Value → Shared → Prop) : Cx := { X with pn := pn, xe := Ev }
abbrev Cx.hd (X : Cx) (e : Addr) (pn : List (Addr × Obj)) : Cx := { X with A := X.A.mark (some (.ref e)), calm := false, pn := pn, xe := fun _ _ => False }
def none_of (n : Nat) : St := List.replicate n none
theorem none_of_get {n i : Nat} {v : V} (h : (none_of n)[i]? = some (some v)) : False := by
  unfold none_of at h
  rw [List.getElem?_replicate] at h
  split at h <;> cases h
section
variable {X : Cx} {pins pn pn' : List (Addr × Obj)} {σ : St} {H : Hp} {s : Shared} {Ev : Value → Shared → Prop} {e : Addr}
theorem Cx.Ok.to_tr (ok : X.Ok) : (X.tr pn Ev).Ok := ⟨ok.mod, ok.kind, ok.glob, ok.blt, ok.above, ok.inj, ok.has, ok.cab, ok.hd, ok.frames, ok.stk, ok.exf, ok.bs, ok.bsz, ok.noex, ok.exfs, ok.funs, ok.frf⟩
theorem Cx.Ok.of_tr (ok : (X.tr pn Ev).Ok) : X.Ok := ⟨ok.mod, ok.kind, ok.glob, ok.blt, ok.above, ok.inj, ok.has, ok.cab, ok.hd, ok.frames, ok.stk, ok.exf, ok.bs, ok.bsz, ok.noex, ok.exfs, ok.funs, ok.frf⟩
theorem Cx.Ok.to_hd (ok : X.Ok) : (X.hd e pn).Ok := ⟨ok.mod, ok.kind, ok.glob, ok.blt, ok.above, ok.inj, ok.has, ok.cab, (fun z => nomatch z), ok.frames, ok.stk, ok.exf, ok.bs, ok.bsz, ok.noex, ok.exfs, ok.funs, ok.frf⟩
theorem Inv.to_tr (I : Inv X pins σ H s) : Inv (X.tr (X.pn ++ pins) Ev) [] σ H s :=
  ⟨I.ok.to_tr, I.os, I.bare, I.base, I.loc, I.cell, I.free, I.freeC, fun p hp => I.pin p (by rw [List.append_nil] at hp; exact hp), I.hok, I.len⟩
theorem Inv.of_tr (I : Inv (X.tr (X.pn ++ pins) Ev) pn' σ H s) : Inv X pins σ H s :=
  ⟨I.ok.of_tr, I.os, I.bare, I.base, I.loc, I.cell, I.free, I.freeC, fun p hp => I.pin p (List.mem_append_left _ hp), I.hok, I.len⟩
theorem Inv.to_hd (I : Inv X pins σ H s) (hp : ∀ p ∈ pn, s.heap.get? p.1 = some p.2 ∧ H p.1 = none ∧ p.1 ≠ X.env.locals ∧ p.1 ∉ X.fs ∧ ∀ v, p.2.data ≠ .cell v) : Inv (X.hd e pn) [] (none_of X.N.length) H s :=
  ⟨I.ok.to_hd, I.os, I.bare, I.base, let ⟨m, hn, _⟩ := I.loc; ⟨m, hn, fun i x v _ h2 _ => (none_of_get h2).elim⟩, I.cell, I.free, I.freeC, fun p h => hp p (by rw [List.append_nil] at h; exact h), I.hok, List.length_replicate⟩
theorem Inv.of_hd (I : Inv (X.hd e pn) pn' σ H s) (ok : X.Ok) (hp : ∀ p ∈ X.pn ++ pins, p ∈ pn) : Inv X pins σ H s :=
  ⟨ok, I.os, I.bare, I.base, I.loc, I.cell, I.free, I.freeC, fun p h => I.pin p (List.mem_append_left _ (hp p h)), I.hok, I.len⟩
end
def trEnds (D : Ends) : Ends := { nx := fun _ _ => False, rt := D.rt }
section
variable {X : Cx} {C1 C2 N1 N2 : Addr} {x1 x2 n : Str} {i : Nat} {p1 p2 q1 q2 pos : Pos} {body : List Stmt} {b1 b2 : Stmt} {r1 r2 : List Stmt} {tb : XK → TS} {t1 : TS} {t2 : Addr → Obj → TS}
end
section
variable {X : Cx} {e : Expr} {te : TE} {f : Str} {pos : Pos}
end
section
variable {X : Cx} {CX : CXT} {x : Str} {p pos : Pos} {e : Expr} {es : List Expr} {t : TA} {E : XK} {i : Nat}
/-- a call of what a local name holds -/
def tCallV (X : Cx) (CX : CXT) (k : Nat) (ps : List Str) (E : XK) (i : Nat) (t : TA) : TE := fun σ H Q => ∃ g sp fd, σ[i]? = some (some (.ref g)) ∧ FnOk X.prog X.w X.K X.mg X.base CX k g fd ps sp ∧ Binds X.K fd ps [] ∧ PySem.W.keepIn X.K (.ref g) = true ∧ t σ H fun vs H1 => sp (vs ++ []) H1 Q E
theorem pe_callV {k : Nat} {ps : List Str} (hr : Room k X.A) (hN : X.N[i]? = some x) (hv : Vis X.env.scope x) (hx : Passes CX X E) (ha : PA X (e :: es) t) (hdb : (x == ("__debug__" : Str)) = false := by decide) (hcd : (x == ("__classdict__" : Str)) = false := by decide)
    (he : starEach (e :: es) X.env = (false, eval e X.env) :: starEach es X.env := by rfl) (hpl : (backTo pos (starEach es X.env)).any (·.1) = false := by rfl) : PE X (.Call (.Name x p) (e :: es) [] pos) (tCallV X CX k ps E i t) := by
  intro pins s σ H Q I h
  obtain ⟨g, sp, fd, hs, F, hb, hk, h⟩ := h
  refine wpAny_Call_Name_kw (thn (pe_var hN hv hdb hcd pins s σ H (fun v H1 => v = .ref g ∧ H1 = H) I ⟨_, hs, rfl, rfl⟩) fun u s1 ⟨v, H1, I1, rv, ev, eH⟩ => ?_)
  subst ev eH
  obtain rfl : u = Value.ref g := rv
  refine PySem.W.callWith_K (h₀ := X.base) I1.ok.mod.kin hk (thn (ha pos pins s1 σ H1 _ I1 h) fun us s2 ⟨vs, H2, I2, r, q⟩ => ⟨I2.kIn, ?_⟩) he hpl
  exact run_fn F hr hb .nil hx I2 r q
/-- a comprehension over a text -/
theorem lc_str {z : Str} {g : TG} {tt : TT} {te : TE} {vs : List Nat} {σ : St} {H1 : Hp} {D : Addr} {Qd : Hp → Prop} (Pv : Nat → Hp → Prop) (h0 : Pv 0 (upd H1 D (.lst [])))
    (hs : ∀ i c H, z.cps[i]? = some c → Pv i H → g (.str ⟨#[c]⟩) (wipe σ vs) H fun σ2 H2 => wipe σ2 vs = wipe σ vs ∧ tt σ2 H2 fun b H3 =>
      if b = true then te σ2 H3 fun y H4 => ∃ acc, H4 D = some (.lst acc) ∧ acc.length < sizeLine ∧ Pv (i + 1) (upd H4 D (.lst (acc ++ [y]))) else Pv (i + 1) H3) (hd : ∀ H, Pv z.cps.size H → Qd H) :
    ∃ W : Nat → Nat → Hp → Prop, (∃ m, W 0 m (upd H1 D (.lst []))) ∧ ∀ i m H, W i m H →
      ((Its z).stop i H ∧ Qd H) ∨ ((Its z).go i H ∧ ∃ Nx : Hp → Prop, (∀ H', Nx H' → ∃ m', m' < m ∧ W (i + 1) m' H') ∧ ∀ x H', (Its z).yld i H x H' → g x (wipe σ vs) H' fun σ2 H2 => wipe σ2 vs = wipe σ vs ∧ tt σ2 H2 fun b H3 =>
        if b = true then te σ2 H3 fun y H4 => ∃ acc, H4 D = some (.lst acc) ∧ acc.length < sizeLine ∧ Nx (upd H4 D (.lst (acc ++ [y]))) else Nx H3) := by
  refine ⟨fun i m H => m = z.cps.size - i ∧ i ≤ z.cps.size ∧ Pv i H, ⟨z.cps.size, by simp, Nat.zero_le _, h0⟩, ?_⟩
  rintro i m H ⟨rfl, hi, p⟩
  by_cases hlt : i < z.cps.size
  · refine .inr ⟨hlt, Pv (i + 1), fun H' p' => ⟨z.cps.size - (i + 1), by omega, rfl, hlt, p'⟩, fun x H' y => ?_⟩
    obtain ⟨e, c, hc, ev⟩ := y
    subst e ev
    exact hs i c _ hc p
  · have e : i = z.cps.size := by omega
    subst e
    exact .inl ⟨Nat.le_refl _, hd H p⟩
end
end L2

set_option Elab.async false
set_option linter.all false
set_option maxRecDepth 100000
namespace L2
open PySem PySem.Spec PyProof.Rows Rx
open PySem.W (CodeHd tabObj kla_obj kla_fn FnAt envX)
/-! ### another base: all that is not tracked and no frame -/
theorem frames_rebase {h b b' : Heap} : ∀ {l : List Env}, h.FunFrames b l → (∀ L ∈ frs l, b'.get? L = none) → h.FunFrames b' l
  | [], _, _ => trivial
  | env :: r, ⟨hk, ⟨L, o, hf, hn, ho, hd⟩, hr⟩, k => ⟨hk, ⟨L, o, hf, k L (by unfold frs; rw [List.filterMap_cons, hf]; exact List.mem_cons_self), ho, hd⟩,
      frames_rebase hr fun M hM => k M (by unfold frs; rw [List.filterMap_cons, hf]; exact List.mem_cons_of_mem _ hM)⟩
structure Reb (X : Cx) (H : Hp) (s : Shared) (b' : Heap) : Prop where
  env : Env0 X.prog X.w X.K X.mg b' X.A X.stack s H
  old : ∀ b o, X.base.get? b = some o → b'.get? b = some o
  has : ∀ b o, s.heap.get? b = some o → H b = none → b ≠ X.env.locals → b ∉ X.fs → b ∉ X.ex → b'.get? b = some o
section
variable {X : Cx} {pins : List (Addr × Obj)} {σ : St} {H : Hp} {s : Shared}
theorem Inv.reb (I : Inv X pins σ H s) : ∃ b', Reb X H s b' := by
  have has : ∀ b o, s.heap.get? b = some o → H b = none → b ≠ X.env.locals → b ∉ X.fs → b ∉ X.ex →
      (PySem.W.hideAll s.heap (trk s.heap H ++ (X.env.locals :: (X.fs ++ X.ex)))).get? b = some o := fun b o e n n1 n2 n3 => by
    refine PySem.W.hideAll_get _ e fun hm => ?_
    rcases List.mem_append.mp hm with z | z
    · have q : (H b).isSome = true := (List.mem_filter.mp z).2
      rw [n] at q; cases q
    · rcases List.mem_cons.mp z with z | z
      · exact n1 z
      · rcases List.mem_append.mp z with z | z
        · exact n2 z
        · exact n3 z
  have old : ∀ b o, X.base.get? b = some o → (PySem.W.hideAll s.heap (trk s.heap H ++ (X.env.locals :: (X.fs ++ X.ex)))).get? b = some o := fun b o e =>
    has b o (I.bs b o e).1 (I.bs b o e).2 (fun z => by
      have l1 := Heap.lt_size e
      have l2 := I.ok.bsz
      have l3 := I.ok.above
      rw [z] at l1
      exact absurd (Nat.lt_of_lt_of_le l1 (Nat.le_trans l2 l3)) (Nat.lt_irrefl _)) (I.ok.nofr e) (I.ok.noex b o e)
  refine ⟨_, ⟨I.ok.frames, ⟨I.mod.kin.keeps old, I.mod.glob.keeps old, ?_, I.mod.nolimit.keeps old⟩, fun b o e => ⟨PySem.W.of_hideAll _ e, ?_⟩, Nat.le_of_eq (PySem.W.hideAll_size _ _), frames_rebase I.stack fun L hL => ?_, I.stkFree, I.hok, I.bare⟩, old, has⟩
  · obtain ⟨mb, h1, h2⟩ := I.mod.blt
    exact ⟨mb, h1.keeps old, h2⟩
  · cases q : H b with
    | none => rfl
    | some x =>
      have e' : s.heap.get? b = some o := PySem.W.of_hideAll _ e
      have hm : b ∈ trk s.heap H ++ (X.env.locals :: (X.fs ++ X.ex)) := List.mem_append_left _ (List.mem_filter.mpr ⟨List.mem_range.mpr (Heap.lt_size e'), by simp [q]⟩)
      rw [PySem.W.hideAll_none _ hm] at e; cases e
  · refine PySem.W.hideAll_none _ (List.mem_append_right _ ?_)
    rcases List.mem_cons.mp (I.stkSub L hL) with z | z
    · rw [z]; exact List.mem_cons_self
    · exact List.mem_cons_of_mem _ (List.mem_append_left _ z)
/-- a cell of this body stands in the new base -/
theorem Reb.cell {b' : Heap} (R : Reb X H s b') (I : Inv X pins σ H s) (hx : X.ex = []) (hfn : ∀ x, X.fn x = true) {x : Str} {c : Addr} {v : Option Value} (e : X.env.cells.lookup x = some c) (z : s.heap.IsCell c v) : b'.IsCell c v := by
  obtain ⟨o, ho, hd⟩ := id z
  refine ⟨o, R.has c o ho (I.freeC x c e) (I.cne x c e) (fun y => ?_) (by rw [hx]; simp), hd⟩
  obtain ⟨_, o', ho', _⟩ := I.ok.funs.mem y
  exact absurd (Nat.lt_of_lt_of_le (Heap.lt_size ho') (I.ok.cab x c (hfn x) e)) (Nat.lt_irrefl _)
section
variable {CX : CXT} {k : Nat} {f : Addr} {fd : FuncData} {ps : List Str} {sp : Sp} {dvs : List V} {ds : List Value} {E : XK}
theorem run_fnB {b' : Heap} {Q : VK} {us : List Value} {vs : List V} (F : FnOk X.prog X.w X.K X.mg b' CX k f fd ps sp) (e0 : Env0 X.prog X.w X.K X.mg b' X.A X.stack s H) (hr : Room k X.A) (hb : Binds X.K fd ps ds) (hd : Vals dvs ds) (hx : Passes CX X E)
    (I : Inv X pins σ H s) (r : Vals vs us) (h : sp (vs ++ dvs) H Q E) : wpAny (model X.prog X.w) X.A (call (.ref f) us) (EP X pins σ Q) X.xe s := by
  have r2 : Vals (vs ++ dvs) (us ++ ds) := r.append hd
  have hl : (us ++ ds).length = ps.length := by rw [← r2.length]; exact F.len _ _ _ _ h
  refine wpAny_call (codeAny_mono (F.run X.A X.stack s H ⟨us, []⟩ (us ++ ds) (vs ++ dvs) Q E hr e0 (hb s us I.kIn hl) r2 h) fun r s' hq => ?_)
  cases r with
  | error e => exact hx pins σ H s e s' I hq
  | ok fl =>
    cases fl with
    | ret u => exact I.after hq
    | next => exact False.elim hq
    | brk => exact False.elim hq
    | cont => exact False.elim hq
end
end
/-! ### a body's context over any frame -/
def cxG (CX : CXT) (P : Program) (w : World) (K : PySem.W.Frag) (mg : Str → Option Value) (base : Heap) (N : List Str) (fn : Str → Bool) (env : Env) (A : Around) (outer : List Env) (s : Shared) (H : Hp) (E : XK) : Cx where
  prog := P
  w := w
  K := K
  mg := mg
  base := base
  A := A.deeper env
  N := N
  s_0 := s
  H_0 := H
  env := env
  outer := outer
  stack := env :: outer
  ex := []
  calm := true
  fn := fn
  pn := []
  xe := fun e s' => wpAny (model P w) (A.deeper env) (leaving env e) (fun _ s'' => CX outer H s E e s'') (fun e' s'' => CX outer H s E e' s'') s'
section
variable {P : Program} {w : World} {K : PySem.W.Frag} {mg : Str → Option Value} {base : Heap} {N : List Str} {fn : Str → Bool} {env : Env} {A : Around} {outer : List Env} {s0 : Shared} {H0 : Hp} {E : XK}
theorem passG (hf : env.frame = some env.locals) : Passes (CXE P w) (cxG (CXE P w) P w K mg base N fn env A outer s0 H0 E) E := by
  intro pins σ H s ev s' I h
  obtain ⟨e, C, dx, T, H', rfl, os, bare, un, hok, ne, nT, he, hT, fl, q⟩ := h
  have I' := I.call' (s' := s') (ch := []) os un hok bare (fun b z => absurd z (by simp))
  show wpAny _ _ (leaving _ (.ref e)) _ _ s'
  refine leave_on (base := base) (outer := outer) I'.ok.frames I'.stack hf fl fun g T' mv nT' fl' => ?_
  have old : ∀ b ∈ [e, T], s0.heap.get? b = none := fun b hb => by
    rcases List.mem_cons.mp hb with z | z
    · rw [z]; exact inv_new I rfl ne
    · rw [List.mem_singleton.mp z]; exact inv_new I rfl nT
  refine ⟨e, C, dx, T', H', rfl, os.trans I.os, bare, Un.moved (H0 := H0) (h0 := s0.heap) I'.base mv (fun b o z y => frame_old I'.ok z y) old, hok.moved mv I'.stkFree (fun b hb => ?_), inv_new I rfl ne, inv_new I' rfl nT', he, hok.gone nT', fl', q⟩
  rcases List.mem_cons.mp hb with z | z
  · rw [z]; exact he
  · rw [List.mem_singleton.mp z]; exact hT
end
/-! ### a function that keeps names of the def around it -/
/-- its names: the parameters, then the names that it keeps -/
structure CloSc (N ps fr : List Str) (sc : Scope) : Prop where
  kind : sc.kind = .function
  co : sc.isCoroutine = false
  gen : sc.isGenerator = false
  nd : N.Nodup
  pre : N.take ps.length = ps
  mid : (N.drop ps.length).take fr.length = fr
  par : ∀ x ∈ ps, sc.names.lookup x = some .local
  nocell : ∀ y ∈ sc.names, y.2 ≠ .cell
  free : ∀ y, sc.names.lookup y = some .free → y ∈ fr
  fre : ∀ x ∈ fr, sc.names.lookup x = some .free
/-- its cells, in the base -/
structure CloC (base : Heap) (cl : List (Str × Addr)) (fr : List Str) (fvs : List V) : Prop where
  len : fvs.length = fr.length
  at_ : ∀ (j : Nat) (x : Str), fr[j]? = some x → ∃ c u v, cl.lookup x = some c ∧ base.IsCell c (some u) ∧ fvs[j]? = some v ∧ RelV v u
  all : ∀ x c, cl.lookup x = some c → ∃ v, base.IsCell c v
  inj : ∀ x y c, cl.lookup x = some c → cl.lookup y = some c → x = y
def startL (N : List Str) (vs fvs : List V) : St := vs.map some ++ (fvs.map some ++ List.replicate (N.length - vs.length - fvs.length) none)
theorem zip_lookup {x : Str} {v : Value} : ∀ {ps : List Str} {us : List Value} {i : Nat}, ps.Nodup → ps[i]? = some x → us[i]? = some v → (ps.zip us).reverse.lookup x = some v
  | [], _, _, _, h, _ => by simp at h
  | _ :: _, [], _, _, _, h => by simp at h
  | p :: ps, u :: us, 0, nd, h1, h2 => by
    simp at h1 h2; subst h1; subst h2
    rw [List.zip_cons_cons, List.reverse_cons, List.lookup_append]
    have e : (ps.zip us).reverse.lookup p = none := by
      rw [List.lookup_eq_none_iff]
      intro q hq
      have hq' := List.mem_reverse.mp hq
      have : q.1 ∈ ps := (List.of_mem_zip (show (q.1, q.2) ∈ ps.zip us from hq')).1
      rw [bne_iff_ne]
      intro z
      rw [z] at nd
      exact (List.nodup_cons.mp nd).1 this
    rw [e]
    simp
  | p :: ps, u :: us, i + 1, nd, h1, h2 => by
    rw [List.zip_cons_cons, List.reverse_cons, List.lookup_append, zip_lookup (i := i) (List.nodup_cons.mp nd).2 (by simpa using h1) (by simpa using h2)]
    rfl
section
variable {CX : CXT} {P : Program} {w : World} {K : PySem.W.Frag} {mg : Str → Option Value} {base : Heap} {k : Nat} {f : Addr} {name qual : Str} {params : Arguments} {scope : Scope} {cl : List (Str × Addr)} {pm cdv ctv : Value} {N ps fr : List Str} {fvs : List V} {sp : Sp}
theorem inv_startL {A : Around} {outer : List Env} {s : Shared} {H : Hp} {E : XK} {us : List Value} {vs : List V} {h1 : Heap} {t' : Nat} (S : CloSc N ps fr scope) (C : CloC base cl fr fvs) (hd : A.handled = none) (e0 : Env0 P w K mg base A outer s H) (hl : vs.length = ps.length) (r : Vals vs us)
    (hns : h1.Ns s.heap.objs.size (fun y => (ps.zip us).reverse.lookup y)) (hk : ∀ b o, s.heap.get? b = some o → h1.get? b = some o) :
    Inv (cxG CX P w K mg base N (fun _ => false) (envX qual scope s.heap.objs.size f cdv cl) A outer s H E) [] (startL N vs fvs) H { s with heap := h1, toks := t' } := by
  have hpl : ps.length ≤ N.length := by have := congrArg List.length S.pre; rw [List.length_take] at this; omega
  have hfl : ps.length + fr.length ≤ N.length := by have := congrArg List.length S.mid; rw [List.length_take, List.length_drop] at this; omega
  have noA : ∀ b : Addr, b ∉ (cxG CX P w K mg base N (fun _ => false) (envX qual scope s.heap.objs.size f cdv cl) A outer s H E).ex := fun b z => absurd (show b ∈ ([] : List Addr) from z) (by simp)
  have bc : ∀ {c : Addr} {v : Option Value}, base.IsCell c v → h1.IsCell c v := fun {c v} ⟨o, ho, hd⟩ => ⟨o, hk _ _ (e0.bs _ _ ho).1, hd⟩
  refine ⟨⟨e0.mod, S.kind, rfl, rfl, Nat.le_refl _, fun y z c h1 h2 => C.inj y z c h1 h2, fun y hy => ?_, (fun y c z _ => by cases z), fun _ => hd, Around.frames_deeper e0.frames, .inr ⟨rfl, rfl⟩, fun b z => absurd z (noA b), e0.bs, e0.bsz, fun b _ _ => noA b, fun b z => absurd z (noA b), e0.funs, e0.frf⟩,
    rfl, e0.bare, Un.kept hk, ⟨_, hns, fun i y v h1 h2 h3 => ?_⟩, fun y c h => ?_, e0.hok.fresh (Nat.le_refl _), fun y c h => ?_, fun p hp => absurd (show p ∈ ([] : List (Addr × Obj)) from hp) (by simp), e0.hok.kept hk, ?_⟩
  · have hy : scope.names.lookup y = some .cell ∨ scope.names.lookup y = some .free := hy
    rcases hy with hy | hy
    · exact absurd rfl (S.nocell _ (PySem.mem_of_lookup hy))
    · obtain ⟨j, hj⟩ := List.getElem?_of_mem (S.free y hy)
      obtain ⟨c, _, _, e, _⟩ := C.at_ j y hj
      exact ⟨c, e⟩
  · by_cases hi : i < vs.length
    · have ha : vs[i]? = some v := by
        unfold startL at h2
        rw [List.getElem?_append_left (by simpa using hi), List.getElem?_map] at h2
        cases e : vs[i]? with
        | none => rw [e] at h2; cases h2
        | some a => rw [e] at h2; cases h2; rfl
      obtain ⟨u, hu, rv⟩ := r.get ha
      have hp : ps[i]? = some y := by
        rw [← S.pre, List.getElem?_take_of_lt (by omega)]; exact h1
      have ndP : ps.Nodup := by rw [← S.pre]; exact S.nd.sublist (List.take_sublist _ _)
      exact ⟨u, rv, .inl ⟨S.par y (List.mem_of_getElem? hp), zip_lookup ndP hp hu⟩⟩
    · unfold startL at h2
      rw [List.getElem?_append_right (by simpa using hi), List.length_map] at h2
      by_cases hj : i - vs.length < fvs.length
      · have ha : fvs[i - vs.length]? = some v := by
          rw [List.getElem?_append_left (by simpa using hj), List.getElem?_map] at h2
          cases e : fvs[i - vs.length]? with
          | none => rw [e] at h2; cases h2
          | some a => rw [e] at h2; cases h2; rfl
        have hp : fr[i - vs.length]? = some y := by
          rw [← S.mid, List.getElem?_take_of_lt (by rw [← C.len]; exact hj), List.getElem?_drop, ← hl]
          have e : vs.length + (i - vs.length) = i := by omega
          rw [e]; exact h1
        obtain ⟨c, u, v', e1, e2, e3, e4⟩ := C.at_ _ y hp
        rw [ha] at e3; cases e3
        exact ⟨u, e4, .inr ⟨.inr (S.fre y (List.mem_of_getElem? hp)), c, e1, bc e2⟩⟩
      · rw [List.getElem?_append_right (by simpa using hj), List.getElem?_replicate] at h2
        split at h2 <;> cases h2
  · obtain ⟨v, z⟩ := C.all y c h
    exact ⟨v, bc z⟩
  · obtain ⟨v, o, ho, _⟩ := C.all y c h
    exact (e0.bs _ _ ho).2
  · unfold startL
    show _ = N.length
    rw [List.length_append, List.length_append, List.length_map, List.length_map, List.length_replicate]
    have := C.len
    omega
/-- THE RULE for a lambda -/
theorem lam_fn {body : Expr} {c' : Addr} (ho : base.get? f = some (kla_obj name qual params body scope cl pm c' ctv)) (hcr : base.CodeRec (.ref c') qual) (S : CloSc N ps fr scope) (C : CloC base cl fr fvs) (len : ∀ vs H Q E, sp vs H Q E → vs.length = ps.length)
    (hbody : ∀ (A : Around) (outer : List Env) (s : Shared) (H : Hp) (vs : List V) (Q : VK) (E : XK), Room k (A.deeper (envX qual scope s.heap.objs.size f (.ref c') cl)) → sp vs H Q E →
      ∃ t, PE (cxG CX P w K mg base N (fun _ => false) (envX qual scope s.heap.objs.size f (.ref c') cl) A outer s H E) body t ∧ t (startL N vs fvs) H Q) :
    FnOk P w K mg base CX (k + 1) f (kla_fn name qual params body scope cl pm (.ref c') ctv) ps sp := by
  refine ⟨len, fun A outer s H args us vs Q E hr e0 hb r hsp => ?_⟩
  have hl := len _ _ _ _ hsp
  have lim : s.heap.NoLimit := e0.mod.nolimit.keeps fun b o e => (e0.bs b o e).1
  refine PySem.W.kla_callFunE hr.depth (e0.bs _ _ ho).1 rfl S.co S.gen rfl (hcr.keeps fun b o e => (e0.bs b o e).1) (hb _ _ _ _ ?_)
  refine wpAny_newFunctionEnv S.nocell (fun ⟨n, v⟩ hy => S.par n (List.of_mem_zip hy).1) (fun h1 hns hsb => ⟨lim.fresh _ hsb, ?_⟩) S.kind
  have hk : ∀ b o, s.heap.get? b = some o → h1.get? b = some o := fun b o e => hsb.extBut b o (Nat.ne_of_lt (Heap.lt_size e)) (Heap.get?_push_of_some _ e)
  obtain ⟨t, ht, hq⟩ := hbody A outer s H vs Q E (hr.deeper _) hsp
  have I := inv_startL (CX := CX) (qual := qual) (f := f) (cdv := .ref c') (E := E) (t' := s.toks + (ps.zip us).length) S C hr.hd e0 hl r hns hk
  show codeAny _ _ (.expr body (envX qual scope s.heap.objs.size f (.ref c') cl)) _ _
  refine PySem.W.kla_codeExpr (wpAny_mono (ht [] _ (startL N vs fvs) H Q I hq) (fun u s' z => ?_) fun e s' hs => hs)
  obtain ⟨v, H', J, rv, q⟩ := z
  exact ⟨v, H', J.os, J.bare, J.base, J.hok, rv, q⟩
end
/-! ### a call of what a name holds: a function of the base -/
section
variable {X : Cx} {CX : CXT} {x : Str} {p pos : Pos} {e : Expr} {es : List Expr} {t : TA} {E : XK} {i : Nat}
def tCallW (P : Program) (w : World) (K : PySem.W.Frag) (mg : Str → Option Value) (base : Heap) (CX : CXT) (k : Nat) (ps : List Str) (E : XK) (i : Nat) (t : TA) : TE := fun σ H Q => ∃ g sp fd, σ[i]? = some (some (.ref g)) ∧ FnOk P w K mg base CX k g fd ps sp ∧ Binds K fd ps [] ∧ FnAt g base ∧ t σ H fun vs H1 => sp (vs ++ []) H1 Q E
theorem fnAt_keeps {g : Addr} {h h' : Heap} (z : FnAt g h) (k : ∀ b o, h.get? b = some o → h'.get? b = some o) : FnAt g h' := by
  obtain ⟨oc, od, fd, sl, e⟩ := z
  exact ⟨oc, od, fd, sl, k _ _ e⟩
theorem pe_callW0 {k : Nat} {ps : List Str} (hr : Room k X.A) (hN : X.N[i]? = some x) (hv : Vis X.env.scope x) (hx : Passes CX X E) (hdb : (x == ("__debug__" : Str)) = false := by decide) (hcd : (x == ("__classdict__" : Str)) = false := by decide) :
    PE X (.Call (.Name x p) [] [] pos) (tCallW X.prog X.w X.K X.mg X.base CX k ps E i tNil) := by
  intro pins s σ H Q I h
  obtain ⟨g, sp, fd, hs, F, hb, hk, h⟩ := h
  refine wpAny_Call_Name_kw (thn (pe_var hN hv hdb hcd pins s σ H (fun v H1 => v = .ref g ∧ H1 = H) I ⟨_, hs, rfl, rfl⟩) fun u s1 ⟨v, H1, I1, rv, ev, eH⟩ => ?_)
  subst ev eH
  obtain rfl : u = Value.ref g := rv
  exact PySem.W.callWith_F0 (fnAt_keeps hk I1.bk) (run_fn (us := []) F hr hb .nil hx I1 .nil h)
end
end L2

set_option Elab.async false
set_option linter.all false
set_option maxRecDepth 100000
namespace L2
open PySem PySem.Spec PyProof.Rows Rx
open PySem.W (CodeHd tabObj kla_obj kla_fn FnAt envX)
/-- the module's own __builtins__ -/
def BMain (base : Heap) (mg : Str → Option Value) : Prop := ∃ bm ob, mg "__builtins__" = some (.ref bm) ∧ bm ≠ builtinsNs ∧ bm ≠ mainGlobals ∧ base.get? bm = some ob ∧ ob.cls = .type "module" ∧ ob.dict = some builtinsNs ∧ ob.data = .plain
section
variable {X : Cx} {pins : List (Addr × Obj)} {σ : St} {H : Hp} {s : Shared} {c P : Addr} {ps : Array Value}
theorem tbl_at (I : Inv X pins σ H s) (hP : H P = some (.tbl ps)) : s.heap.get? P = some (tabObj ps) := I.hok P _ hP
/-- the table has grown, new objects are laid -/
theorem Inv.grown {h' : Heap} {t' : Nat} {more : Array Value} (I : Inv X pins σ H s) (hP : H P = some (.tbl ps)) (k : ∀ b o, b ≠ P → s.heap.get? b = some o → h'.get? b = some o) (n : h'.get? P = some (tabObj (ps ++ more))) :
    Inv X pins σ (upd H P (.tbl (ps ++ more))) { s with heap := h', toks := t' } := by
  have ne : ∀ b u, H b = some u → u ≠ .tbl ps → b ≠ P := fun b u q d z => by rw [z, hP] at q; exact d (Option.some.inj q).symm
  have neN : ∀ b, H b = none → b ≠ P := fun b q z => by rw [z, hP] at q; cases q
  refine I.un ⟨fun b o e m _ _ => k b o (neN b m) e, fun b o e m _ _ => ⟨o.slots, k b o (neN b m) e⟩, fun b o _ m _ => by rw [upd_ne (neN b m)]; exact m, fun b o e _ => ?_, fun b xs q => by rw [upd_ne (ne b _ q (fun z => nomatch z))]; exact q,
    fun b o u q => by rw [upd_ne (ne b _ q (fun z => nomatch z))]; exact q, fun b qs q => ?_⟩ fun b o q => ?_
  · by_cases z : b = P
    · rw [z]; exact ⟨_, n⟩
    · exact ⟨o, k b o z e⟩
  · by_cases z : b = P
    · subst z
      rw [hP] at q; cases q
      exact ⟨more, upd_same⟩
    · exact ⟨#[], by rw [upd_ne z, q]; simp⟩
  · by_cases z : b = P
    · subst z
      rw [upd_same] at q; cases q
      exact n
    · rw [upd_ne z] at q
      refine (I.hok b o q).stay (fun b' u hb e => k b' u ?_ e) (fun b' r => ?_) fun b' xs r => ?_
      · rcases hb with y | y
        · rw [y]; exact z
        · exact ne b' _ y (fun z => nomatch z)
      · rw [upd_ne (ne b' _ r (fun z => nomatch z))]; exact r
      · rw [upd_ne (ne b' _ r (fun z => nomatch z))]; exact r
variable {E : Value → Shared → Prop} {Q : Value → Shared → Prop} {params : Arguments} {body : Expr} {scope : Scope} {pos : Pos}
/-- a lambda is made, its code for the first time -/
theorem lam_new (I : Inv X pins σ H s) (hcode : X.env.code = .ref c) (C : CodeHd X.base c P) (B : BMain X.base X.mg) (hP : H P = some (.tbl ps)) (ht : TriplesOk ps.toList) (hnf : codeAmong pos ps.toList = none) (hdef : defaultsOf params X.env = ([], []))
    (hfree : ∀ y ∈ scope.names, y.2 = .free → ∃ c, X.env.cells.lookup y.1 = some c)
    (h : ∀ g c' ctv pm s', Inv X pins σ (upd H P (.tbl (ps ++ #[rawInt pos.line, rawInt pos.col, .ref c']))) s' → (∃ oc vs t, s'.heap.get? c' = some oc ∧ oc.data = .fields vs ∧ vs[1]? = some (.str (X.env.qual ++ "<lambda>") t)) → s.heap.objs.size ≤ c' → s.heap.objs.size ≤ g →
      s'.heap.get? g = some (kla_obj "<lambda>" (X.env.qual ++ "<lambda>") params body scope (cloFrom X.env.cells scope.names []) pm c' ctv) → (∀ b o, b ≠ P → s.heap.get? b = some o → s'.heap.get? b = some o) → Q (.ref g) s') :
    wpAny (model X.prog X.w) X.A (eval (.Lambda params body scope pos) X.env) Q E s := by
  obtain ⟨bm, ob, b1, b2, b3, b4, b5, b6, b7⟩ := B
  have hPs := tbl_at I hP
  have neP : ∀ b o, X.base.get? b = some o → b ≠ P := fun b o e z => by rw [z] at e; rw [(I.bs P o e).2] at hP; cases hP
  have hg := I.mod.glob.keeps I.bk
  obtain ⟨og, _, _, eg, _⟩ := id I.mod.glob
  refine PySem.W.kla_eval hdef (PySem.W.kla_makeFunction (mg := X.mg) (closure_ok hfree) I.ok.glob hg hcode (C.keeps I.bk) hPs ht hnf (neP _ _ eg) ⟨bm, ob, b1, b2, b3, neP _ _ b4, I.bk _ _ b4, b5, b6, b7⟩ fun c' ctv h' tk hx hge hlt hrec htb => ?_)
  obtain ⟨c2, oc, vs, t, e2, hoc, hd, hv⟩ := hrec
  cases e2
  have kp : ∀ b o, b ≠ P → s.heap.get? b = some o → (h'.push (kla_obj "<lambda>" (X.env.qual ++ "<lambda>") params body scope (cloFrom X.env.cells scope.names []) ((X.mg "__name__").getD .none) c' ctv)).get? b = some o := fun b o nb e => Heap.get?_push_of_some _ (hx b o nb e)
  refine h h'.objs.size c' ctv _ _ (I.grown (t' := tk) hP kp (Heap.get?_push_of_some _ htb)) ⟨oc, vs, t, Heap.get?_push_of_some _ hoc, hd, hv⟩ hge (Nat.le_of_lt (Nat.lt_of_le_of_lt hge hlt)) (Heap.get?_push_size _ rfl) kp
end
/-! ### f(lambda: ..) -/
section
variable {X : Cx} {CX : CXT} {k : Nat} {f c P : Addr} {fd : FuncData} {x y : Str} {p pos lpos : Pos} {E : XK} {params : Arguments} {body : Expr} {scope : Scope}
/-- what is known of a lambda that has just been made: the base that has it, its address -/
structure LamAt (X : Cx) (σ : St) (params : Arguments) (body : Expr) (scope : Scope) (b' : Heap) (g c' : Addr) (pm ctv : Value) : Prop where
  old : ∀ b o, X.base.get? b = some o → b'.get? b = some o
  obj : b'.get? g = some (kla_obj "<lambda>" (X.env.qual ++ "<lambda>") params body scope (cloFrom X.env.cells scope.names []) pm c' ctv)
  code : b'.CodeRec (.ref c') (X.env.qual ++ "<lambda>")
  cel : ∀ z c, X.env.cells.lookup z = some c → ∃ v, b'.IsCell c v
  val : ∀ (i : Nat) (z : Str) (v : V), X.N[i]? = some z → σ[i]? = some (some v) → (X.env.kindOf z = some .cell ∨ X.env.kindOf z = some .free) → ∃ c u, X.env.cells.lookup z = some c ∧ b'.IsCell c (some u) ∧ RelV v u
  inj : ∀ y z c, X.env.cells.lookup y = some c → X.env.cells.lookup z = some c → y = z
def tCallLam (X : Cx) (CX : CXT) (k : Nat) (f : Addr) (fd : FuncData) (y : Str) (E : XK) (P : Addr) (lpos : Pos) (params : Arguments) (body : Expr) (scope : Scope) : TE := fun σ H Q => ∃ ps, H P = some (.tbl ps) ∧ TriplesOk ps.toList ∧ codeAmong lpos ps.toList = none ∧
  ∀ (b' : Heap) (g c' : Addr) (pm ctv : Value), LamAt X σ params body scope b' g c' pm ctv → ∃ sp, FnOk X.prog X.w X.K X.mg b' CX k f fd [y] sp ∧ sp [.ref g] (upd H P (.tbl (ps ++ #[rawInt lpos.line, rawInt lpos.col, .ref c']))) Q E
theorem pe_callLam (hcode : X.env.code = .ref c) (C : CodeHd X.base c P) (B : BMain X.base X.mg) (hxe : X.ex = []) (hfn : ∀ x, X.fn x = true) (hr : Room k X.A) (hg : Gl X x) (hm : X.mg x = some (.ref f)) (hk : PySem.W.keepIn X.K (.ref f) = true) (hb : Binds X.K fd [y] []) (hx : Passes CX X E)
    (hfree : ∀ y ∈ scope.names, y.2 = .free → ∃ c, X.env.cells.lookup y.1 = some c) (hdef : defaultsOf params X.env = ([], []) := by rfl)
    (hdb : (x == ("__debug__" : Str)) = false := by decide) :
    PE X (.Call (.Name x p) [.Lambda params body scope lpos] [] pos) (tCallLam X CX k f fd y E P lpos params body scope) := by
  intro pins s σ H Q I h
  obtain ⟨ps, hP, ht, hnf, h⟩ := h
  refine wpAny_Call_Name_kw (ld_glob I hg hm ?_ hdb)
  refine PySem.W.callWith_K (h₀ := X.base) I.ok.mod.kin hk ?_ rfl rfl
  show wpAny _ _ (spliced ((false, eval (.Lambda params body scope lpos) X.env) :: backTo pos (starEach [] X.env))) _ _ s
  refine Calls.spliced_cons ?_
  refine lam_new I hcode C B hP ht hnf hdef hfree fun g c' ctv pm s1 I1 hc' n1 n2 hgo kp => ?_
  refine Calls.spliced_nil ⟨I1.kIn, ?_⟩
  obtain ⟨b', R⟩ := I1.reb
  obtain ⟨oc, vs, t, e1, e2, e3⟩ := hc'
  have ng : (upd H P (.tbl (ps ++ #[rawInt lpos.line, rawInt lpos.col, .ref c']))) g = none := by
    have := I.hok.fresh n2
    rw [upd_ne (fun z => by rw [z, hP] at this; cases this)]; exact this
  have nc : (upd H P (.tbl (ps ++ #[rawInt lpos.line, rawInt lpos.col, .ref c']))) c' = none := by
    have := I.hok.fresh n1
    rw [upd_ne (fun z => by rw [z, hP] at this; cases this)]; exact this
  have nl : ∀ b, s.heap.objs.size ≤ b → b ≠ X.env.locals := fun b hb z => by
    have := I.lt
    rw [← z] at this
    exact absurd (Nat.lt_of_lt_of_le this hb) (Nat.lt_irrefl _)
  have og := R.has g _ hgo ng (nl g n2) (I.nofs n2) (by rw [hxe]; simp)
  have ocr := R.has c' _ e1 nc (nl c' n1) (I.nofs n1) (by rw [hxe]; simp)
  have LA : LamAt X σ params body scope b' g c' pm ctv := by
    refine ⟨R.old, og, ⟨c', oc, vs, t, rfl, ocr, e2, e3⟩, fun z cc e => ?_, fun i z v h1 h2 h3 => ?_, I.ok.inj⟩
    · obtain ⟨v, hv⟩ := I1.cell z cc e
      exact ⟨v, R.cell I1 hxe hfn e hv⟩
    · obtain ⟨m, hn, hl⟩ := I1.loc
      have vis : Vis X.env.scope z := h3.elim (fun y => .inr (.inl y)) fun y => .inr (.inr y)
      obtain ⟨u, ru, hlk⟩ := hl i z v h1 h2 vis
      rcases hlk with ⟨hk1, _⟩ | ⟨_, cc, e, hc⟩
      · rcases h3 with y | y <;> rw [y] at hk1 <;> cases hk1
      · exact ⟨cc, u, e, R.cell I1 hxe hfn e hc, ru⟩
  obtain ⟨sp, F, q⟩ := h b' g c' pm ctv LA
  exact run_fnB (us := [.ref g]) (vs := [.ref g]) F R.env hr hb .nil hx I1 (.cons rfl .nil) q
end
/-! ### the cells that a new function keeps -/
theorem clo_lookup {cells : List (Str × Addr)} {x : Str} {c : Addr} : ∀ (names : List (Str × NameKind)) (acc : List (Str × Addr)), (cloFrom cells names acc).lookup x = some c → acc.lookup x = some c ∨ ((x, NameKind.free) ∈ names ∧ (cells.lookup x).getD 0 = c)
  | [], acc, h => .inl h
  | (n, k) :: r, acc, h => by
    unfold cloFrom at h
    by_cases hk : (k == NameKind.free) = true
    · rw [if_pos hk] at h
      have ek : k = .free := by simpa using hk
      rcases clo_lookup r _ h with z | ⟨z1, z2⟩
      · rw [List.lookup_cons] at z
        split at z
        · rename_i hx
          have ex : x = n := beq_iff_eq.mp hx
          subst ex
          exact .inr ⟨by rw [ek]; exact List.mem_cons_self, Option.some.inj z⟩
        · exact .inl z
      · exact .inr ⟨List.mem_cons_of_mem _ z1, z2⟩
    · rw [if_neg hk] at h
      rcases clo_lookup r _ h with z | ⟨z1, z2⟩
      · exact .inl z
      · exact .inr ⟨List.mem_cons_of_mem _ z1, z2⟩
theorem clo_has {cells : List (Str × Addr)} {x : Str} : ∀ (names : List (Str × NameKind)) (acc : List (Str × Addr)), ((x, NameKind.free) ∈ names ∨ (acc.lookup x).isSome = true) → ((cloFrom cells names acc).lookup x).isSome = true
  | [], acc, h => h.elim (fun z => by cases z) fun z => z
  | (n, k) :: r, acc, h => by
    unfold cloFrom
    by_cases hk : (k == NameKind.free) = true
    · rw [if_pos hk]
      refine clo_has r _ ?_
      rcases h with h | h
      · rcases List.mem_cons.mp h with z | z
        · cases z
          right
          rw [List.lookup_cons, beq_self_eq_true] <;> rfl
        · exact .inl z
      · right
        rw [List.lookup_cons]
        split
        · rfl
        · exact h
    · rw [if_neg hk]
      refine clo_has r _ ?_
      rcases h with h | h
      · rcases List.mem_cons.mp h with z | z
        · cases z
          exact absurd rfl hk
        · exact .inl z
      · exact .inr h
theorem LamAt.clo {X : Cx} {σ : St} {params : Arguments} {body : Expr} {scope : Scope} {b' : Heap} {g c' : Addr} {pm ctv : Value} {fr : List Str} {fvs : List V} (L : LamAt X σ params body scope b' g c' pm ctv) (len : fvs.length = fr.length)
    (h1 : ∀ x ∈ fr, (x, NameKind.free) ∈ scope.names) (h2 : ∀ x, (x, NameKind.free) ∈ scope.names → x ∈ fr)
    (val : ∀ (j : Nat) (x : Str), fr[j]? = some x → ∃ (i : Nat) (v : V), X.N[i]? = some x ∧ σ[i]? = some (some v) ∧ fvs[j]? = some v ∧ (X.env.kindOf x = some .cell ∨ X.env.kindOf x = some .free)) :
    CloC b' (cloFrom X.env.cells scope.names []) fr fvs := by
  have look : ∀ x c, (cloFrom X.env.cells scope.names []).lookup x = some c → X.env.cells.lookup x = some c := fun x c e => by
    rcases clo_lookup _ _ e with z | ⟨z1, z2⟩
    · cases z
    · obtain ⟨j, hj⟩ := List.getElem?_of_mem (h2 x z1)
      obtain ⟨i, v, e1, e2, _, e4⟩ := val j x hj
      obtain ⟨cc, u, e5, _⟩ := L.val i x v e1 e2 e4
      rw [e5] at z2
      rw [e5]
      exact congrArg some z2
  refine ⟨len, fun j x hj => ?_, fun x c e => L.cel x c (look x c e), fun x y c e1 e2 => L.inj x y c (look x c e1) (look y c e2)⟩
  obtain ⟨i, v, e1, e2, e3, e4⟩ := val j x hj
  obtain ⟨cc, u, e5, e6, e7⟩ := L.val i x v e1 e2 e4
  obtain ⟨d, hd⟩ := Option.isSome_iff_exists.mp (clo_has (cells := X.env.cells) scope.names [] (.inl (h1 x (List.mem_of_getElem? hj))))
  have := look x d hd
  rw [e5] at this
  cases this
  exact ⟨cc, u, v, hd, e6, e3, e7⟩
end L2

set_option Elab.async false
set_option linter.all false
set_option maxRecDepth 100000
namespace L2
open PySem PySem.Spec PyProof.Rows Rx
/-! ### try with any number of clauses without names -/
structure Kz where
  (x : Str) (C N : Addr) (p q : Pos) (b : Stmt) (r : List Stmt) (t : TS)
def Kz.h (c : Kz) : ExceptHandler := .ExceptHandler (some (.Name c.x c.p)) none (c.b :: c.r) c.q
def exTryL (n : Nat) (D : Ends) : List Kz → XK
  | [], _, _, _ => False
  | c :: r, C, dx, H => (C = .ref c.C ∧ c.t (trEnds D) (none_of n) H) ∨ (C ≠ .ref c.C ∧ exTryL n D r C dx H)
def tTryL (n : Nat) (cs : List Kz) (tb : XK → TS) : TS := fun D σ H => tb (exTryL n D cs) D σ H
theorem exTryL_mem {n : Nat} {D : Ends} {C : Value} {dx : Option Addr} {H : Hp} : ∀ {cs : List Kz}, exTryL n D cs C dx H → ∃ c ∈ cs, C = .ref c.C
  | [], h => h.elim
  | c :: r, h => by
    rcases h with ⟨e, _⟩ | ⟨_, h⟩
    · exact ⟨c, List.mem_cons_self, e⟩
    · obtain ⟨d, hd, e⟩ := exTryL_mem h
      exact ⟨d, List.mem_cons_of_mem _ hd, e⟩
section
variable {X : Cx} {pos : Pos} {body : List Stmt} {tb : XK → TS} {c0 : Kz} {cr : List Kz}
structure KzOk (X : Cx) (c : Kz) : Prop where
  xc : XC X.K c.C c.N
  gl : Gl X c.x
  mg : X.mg c.x = some (.ref c.C)
  db : (c.x == ("__debug__" : Str)) = false
  ps : ∀ (e : Addr) (pn : List (Addr × Obj)), PSs (X.hd e pn) (c.b :: c.r) c.t
theorem ps_tryL (hst : X.stack = X.env :: X.outer) (hfm : X.env.frame = some X.env.locals) (hc : ∀ c ∈ c0 :: cr, KzOk X c)
    (hb : ∀ (pn : List (Addr × Obj)) (Ev : Value → Shared → Prop) (Ex : XK), Passes (CXE X.prog X.w) (X.tr pn Ev) Ex → PSs (X.tr pn Ev) body (tb Ex)) :
    PS X (.Try body ((c0 :: cr).map Kz.h) [] [] pos) (tTryL X.N.length (c0 :: cr) tb) := by
  intro pins s σ H D I h
  refine wpAny_Try_except ?_
  have PP : Passes (CXE X.prog X.w) (X.tr (X.pn ++ pins) (fun ev s1 => wpAny (model X.prog X.w) X.A (noteFrame ev X.env) (fun _ s2 => wpAny (model X.prog X.w) X.A (setFlight ev none) (fun _ s3 =>
      wpAny (model X.prog X.w) X.A (handleBy ev X.env ((c0 :: cr).map Kz.h)) (SP X pins D) X.xe s3) X.xe s2) X.xe s1)) (exTryL X.N.length D (c0 :: cr)) := by
    intro pins' σ' H1 s1 ev s2 I1 hx
    obtain ⟨e, C, dx, T, H2, rfl, os, bare, un, hok, ne, nT, he, hT, fl, q⟩ := hx
    obtain ⟨h2', gg, dd, tk, oo⟩ := s2
    have I2 := I1.call' (s' := ⟨h2', gg, dd, tk, oo⟩) (ch := []) os un hok bare (fun b z => absurd z (by simp))
    have hfs : frs X.stack = (X.env :: X.outer).filterMap (·.frame) := by rw [hst]; rfl
    have hfr : X.A.frames = some (X.env :: X.outer) := by rw [← hst]; exact I1.ok.frames
    have hfn : h2'.FunFrames X.base (X.env :: X.outer) := by rw [← hst]; exact I2.stack
    show wpAny (model X.prog X.w) X.A (noteFrame (.ref e) X.env) _ _ _
    refine look_on (base := X.base) hfr hfn hfm fl fun g1 T1 mv1 nT1 fl1 => ?_
    have nT1' : s1.heap.get? T1 = none := by
      cases z : s1.heap.get? T1 with
      | none => rfl
      | some o =>
        obtain ⟨o', y⟩ := un.there T1 o z (by simp)
        have nT1'' : h2'.get? T1 = none := nT1
        have y' : h2'.get? T1 = some o' := y
        rw [nT1''] at y'; cases y'
    have chN : ∀ b ∈ [e, T, T1], s1.heap.get? b = none := fun b hb => by
      simp only [List.mem_cons, List.not_mem_nil, or_false] at hb
      rcases hb with z | z | z <;> rw [z] <;> assumption
    have hT1 : H2 T1 = none := hok.gone nT1
    have chH : ∀ b ∈ [e, T, T1], H2 b = none := fun b hb => by
      simp only [List.mem_cons, List.not_mem_nil, or_false] at hb
      rcases hb with z | z | z <;> rw [z] <;> assumption
    have mk : ∀ g : Heap, Moved (frs X.stack) [e, T, T1] h2' g → Inv X pins σ' H2 ⟨g, gg, dd, tk, oo⟩ := fun g mv =>
      (I1.call' (s' := ⟨g, gg, dd, tk, oo⟩) (ch := []) os (Un.moved un mv (fun _ _ _ y => y) chN) (hok.moved mv I2.stkFree chH) bare (fun b z => absurd z (by simp))).of_tr
    have mv1' : Moved (frs X.stack) [e, T, T1] h2' g1 := by
      rw [hfs]
      exact mv1.mono (fun _ z => z) fun b hb => by
        simp only [List.mem_cons, List.not_mem_nil, or_false] at hb ⊢
        rcases hb with z | z
        · exact .inl z
        · exact .inr (.inl z)
    have onT : ∀ {g g' : Heap}, Moved (frs X.stack) [e, T, T1] h2' g → (∀ b o, b ≠ T1 → g.get? b = some o → g'.get? b = some o) → (∀ b o, g.get? b = some o → ∃ o', g'.get? b = some o') → Moved (frs X.stack) [e, T, T1] h2' g' := fun {g g'} mv kk tt =>
      mv.trans ((moved_land (fs := frs X.stack) kk tt).mono (fun _ z => z) fun b hb => by rw [List.mem_singleton.mp hb]; simp)
    refine landed fl1 fun g2 k2 t2' fl2 => ?_
    have mv2 := onT mv1' k2 t2'
    have I3 := mk g2 mv2
    have pinOk : ∀ {g : Heap} {oe : Obj} {vs : Array Value}, Inv X pins σ' H2 ⟨g, gg, dd, tk, oo⟩ → g.get? e = some oe → oe.data = .fields vs → ∀ p ∈ (e, oe) :: (X.pn ++ pins), g.get? p.1 = some p.2 ∧ H2 p.1 = none ∧ p.1 ≠ X.env.locals ∧ p.1 ∉ X.fs ∧ ∀ v, p.2.data ≠ .cell v := fun {g oe vs} J z1 z2 p hp => by
      rcases List.mem_cons.mp hp with y | y
      · subst y
        refine ⟨z1, he, fun z => ?_, fun z => ?_, fun v z => by rw [z2] at z; cases z⟩
        · have := I1.lt
          obtain ⟨m, ⟨o, es, ep, ho, _⟩, _⟩ := I1.loc
          have z' : e = X.env.locals := z
          rw [z'] at ne
          rw [ne] at ho
          cases ho
        · obtain ⟨_, o, ho, _⟩ := I1.funs.mem z
          rw [ne] at ho; cases ho
      · exact J.pin p y
    have ex : ∀ {g : Heap} {fv : Value} {T' : Addr}, Fly g e C dx T' fv → ∃ oe vs, g.get? e = some oe ∧ oe.cls = C ∧ oe.dict = dx ∧ oe.data = .fields vs := fun ⟨oe, vs, _, _, a, b, c, d, _⟩ => ⟨oe, vs, a, b, c, d⟩
    obtain ⟨cE, hcE, eCE⟩ := exTryL_mem q
    subst eCE
    obtain ⟨nm2, qn2, bs2, sn2, sub2, ab2, col2, dd2, k02, k12, k22, k32, k52, lkE⟩ := (hc cE hcE).xc.obj
    obtain ⟨oe2, vs2, a2, c2, d2, f2⟩ := ex fl2
    have Ih2 : Inv (X.hd e ((e, oe2) :: (X.pn ++ pins))) [] (none_of X.N.length) H2 ⟨g2, gg, dd, tk, oo⟩ := I3.to_hd (pinOk I3 a2 f2)
    have go : ∀ (rs : List Kz), (∀ c ∈ rs, KzOk X c) → exTryL X.N.length D rs (.ref cE.C) dx H2 → wpAny (model X.prog X.w) X.A (handleBy (.ref e) X.env (rs.map Kz.h)) (SP X pins D) X.xe ⟨g2, gg, dd, tk, oo⟩ := by
      intro rs
      induction rs with
      | nil => intro _ z; exact z.elim
      | cons c r ih =>
        intro hrs z
        have hc1 := hrs c List.mem_cons_self
        obtain ⟨nm1, qn1, bs1, sn1, sub1, ab1, col1, dd1, k01, k11, k21, k31, k51, lk1⟩ := hc1.xc.obj
        rw [List.map_cons]
        refine wpAny_handleBy_cons (codeAny_handlers_test ?_) (by intro z; cases z)
        refine ld_glob (X := X.hd e ((e, oe2) :: (X.pn ++ pins))) Ih2 hc1.gl hc1.mg ?_ hc1.db
        rcases z with ⟨eC, z⟩ | ⟨nC, z⟩
        · have eC' : cE.C = c.C := Value.ref.inj eC
          refine match_own (I3.kIn _ _ lkE) (I3.kIn _ _ lk1) a2 c2 (by decide) (b := true) (by simp [eC']) ?_
          refine codeAny_handlers_suite (landed fl2 fun g3 k3 t3 fl3 => ?_)
          have I4 := mk g3 (onT mv2 k3 t3)
          obtain ⟨oe3, vs3, a3, c3, d3, f3⟩ := ex fl3
          refine wpAny_noRaise (thn (hc1.ps e _ [] _ _ H2 (trEnds D) (I4.to_hd (pinOk I4 a3 f3)) z) fun f s5 z => ?_)
          cases f with
          | ret u =>
            obtain ⟨v, σ5, H5, I5, rv, z⟩ := z
            exact ⟨v, σ5, H5, I5.of_hd I4.ok fun p hp => List.mem_cons_of_mem _ hp, rv, z⟩
          | next => obtain ⟨_, _, _, z⟩ := z; exact False.elim z
          | brk => obtain ⟨_, _, _, z⟩ := z; exact False.elim z
          | cont => obtain ⟨_, _, _, z⟩ := z; exact False.elim z
        · have hne : c.C ≠ cE.C := fun z => nC (by rw [z])
          have nC : (Value.ref cE.C :: bmE).contains (.ref c.C) = false := by
            simp [hne]
          refine match_own (I3.kIn _ _ lkE) (I3.kIn _ _ lk1) a2 c2 (by decide) (b := false) nC ?_
          exact ih (fun d hd => hrs d (List.mem_cons_of_mem _ hd)) z
    exact go (c0 :: cr) hc q
  refine wpAny_mono (hb _ _ _ PP [] s σ H D I.to_tr h) (fun f s1 q => ?_) (fun _ _ z => z)
  cases f with
  | next =>
    obtain ⟨σ', H', I1, q⟩ := q
    exact wpAny_execs_nil ⟨σ', H', I1.of_tr, q⟩
  | brk =>
    obtain ⟨σ', H', I1, q⟩ := q
    exact ⟨σ', H', I1.of_tr, q⟩
  | cont =>
    obtain ⟨σ', H', I1, q⟩ := q
    exact ⟨σ', H', I1.of_tr, q⟩
  | ret u =>
    obtain ⟨v, σ', H', I1, rv, q⟩ := q
    exact ⟨v, σ', H', I1.of_tr, rv, q⟩
end
end L2

set_option Elab.async false
set_option linter.all false
set_option maxRecDepth 100000
namespace L2
open PySem PySem.Spec PyProof.Rows Rx
open PySem.W (WData Codec OpenSpec CodeHd tabObj TabsAt Well WellAll ReadsW ReadsAllW)
theorem sqL_to {K : PySem.W.Frag} {H H' : Hp} (k : ∀ b o, H b = some o → H' b = some o) {a : Addr} {xs : List V} : SqL K H a xs → SqL K H' a xs
  | .inl (.inl h) => .inl (.inl (k _ _ h))
  | .inl (.inr ⟨ob, h⟩) => .inl (.inr ⟨ob, k _ _ h⟩)
  | .inr h => .inr h
theorem sqT_to {K : PySem.W.Frag} {H H' : Hp} (k : ∀ b o, H b = some o → H' b = some o) {a : Addr} {xs : List V} : SqT K H a xs → SqT K H' a xs
  | .inl (.inl h) => .inl (.inl (k _ _ h))
  | .inl (.inr ⟨ob, h⟩) => .inl (.inr ⟨ob, k _ _ h⟩)
  | .inr h => .inr h
mutual
theorem dw_to {K : PySem.W.Frag} {H H' : Hp} (k : ∀ b o, H b = some o → H' b = some o) : ∀ {v : V} {d : WData}, Dw K H v d → Dw K H' v d
  | _, _, .non => .non
  | _, _, .bl b => .bl b
  | _, _, .int i => .int i
  | _, _, .str s => .str s
  | _, _, .byt b => .byt b
  | _, _, .lst hs ha => .lst (sqL_to k hs) (dwAll_to k ha)
  | _, _, .tup hs ha => .tup (sqT_to k hs) (dwAll_to k ha)
theorem dwAll_to {K : PySem.W.Frag} {H H' : Hp} (k : ∀ b o, H b = some o → H' b = some o) : ∀ {vs : List V} {ds : List WData}, DwAll K H vs ds → DwAll K H' vs ds
  | _, _, .nil => .nil
  | _, _, .cons h t => .cons (dw_to k h) (dwAll_to k t)
end
/-- nothing is tracked but what is known to the object, and the tables -/
structure OnlyT (tabs : List (Addr × Addr)) (H : Hp) : Prop where
  tab : ∀ q ∈ tabs, H q.2 = some (.tbl #[])
  rest : ∀ b, (∃ q ∈ tabs, q.2 = b) ∨ H b = none ∨ ∃ o u, H b = some (.frz o u)
theorem spec_callT {P : Program} {w : World} {K : PySem.W.Frag} {mg mb : Str → Option Value} {CX : CXT} {k : Nat} {fa : Addr} {fd : FuncData} {ps : List Str} {sp : Sp} {s₁ : Shared} {vals : List Value} {ds : List WData} {R : PySem.W.WRecords} {cl : Str → Option Addr} {d0 : WData} {tabs : List (Addr × Addr)}
    (KX : K.In s₁.heap) (hns : s₁.heap.Ns mainGlobals mg) (hb : s₁.heap.Ns builtinsNs mb) (hbb : ∀ x : Str, x ≠ "__name__" → mb x = bootBuiltins x) (hlim : s₁.heap.NoLimit) (hg : s₁.gens = #[])
    (hT : TabsAt tabs s₁.heap) (hKt : PySem.W.noTabs K = true) (B : BMain s₁.heap mg)
    (hwl : WellAll w.params s₁.heap vals ds) (hpl : plWs ds = true) (hwt : ∀ d ∈ ds, d.weight ≤ 1048576) (hr : Room k callerA)
    (F : ∀ base : Heap, K.In base → base.Ns mainGlobals mg → (∀ q ∈ tabs, CodeHd base q.1 q.2) → BMain base mg → FnOk P w K mg base CX k fa fd ps sp) (hbind : ∀ (s : Shared) (us : List Value), us.length = ps.length → BindsTo s fd ⟨us, []⟩ (ps.zip us)) (hlen : ds.length = ps.length)
    (hsp : ∀ (H : Hp) (xs : List V), OnlyT tabs H → DwAll K H xs ds → sp xs H (fun v H' => Dw K H' v d0) fun _ _ _ => False)
    (hCX : ∀ H e s', CX [] H s₁ (fun _ _ _ => False) e s' → False) :
    codeAny (model P w) callerA (.call (.ref fa) ⟨vals, []⟩) (fun r s' => ∃ u as, r = .ok (.ret u) ∧ ReadsW R cl s'.heap u d0 as ∧ OldK s₁.heap s'.heap ∧ s'.os = s₁.os ∧ AllBare s'.gens) s₁ := by
  obtain ⟨A, ho, ar⟩ := area_all ds vals hwl hpl hwt
  have hO0 : OnlyF (argH K s₁.heap A) := argH_only ar
  have hok0 : HOk P w (argH K s₁.heap A) s₁.heap := argH_ok ar
  have hS0 := dw_all KX ar ds vals hwl hpl ho
  have hV := vals_toV ho
  have apart : ∀ b u, argH K s₁.heap A b = some u → ∀ q ∈ tabs, q.2 ≠ b := fun b u z q hq e => by
    have e1 := (hT q hq).2
    rw [e] at e1
    obtain ⟨_, vs, _, _, ⟨e2, _⟩ | ⟨e2, _⟩⟩ := argH_is ar z
    · rw [e2] at e1; cases e1
    · rw [e2] at e1; cases e1
  let isT : Addr → Bool := fun b => tabs.any fun q => q.2 == b
  have isT_iff : ∀ b, isT b = true ↔ ∃ q ∈ tabs, q.2 = b := fun b => by
    show (tabs.any fun q => q.2 == b) = true ↔ _
    rw [List.any_eq_true]
    exact ⟨fun ⟨q, h1, h2⟩ => ⟨q, h1, beq_iff_eq.mp h2⟩, fun ⟨q, h1, h2⟩ => ⟨q, h1, beq_iff_eq.mpr h2⟩⟩
  have hx : ∃ H : Hp, (∀ q ∈ tabs, H q.2 = some (.tbl #[])) ∧ (∀ b, (¬ ∃ q ∈ tabs, q.2 = b) → H b = argH K s₁.heap A b) := by
    refine ⟨fun b => if isT b = true then some (.tbl #[]) else argH K s₁.heap A b, fun q hq => if_pos ((isT_iff _).mpr ⟨q, hq, rfl⟩), fun b nb => if_neg fun z => nb ((isT_iff b).mp z)⟩
  obtain ⟨H, hHt, hHn⟩ := hx
  have up : ∀ b u, argH K s₁.heap A b = some u → H b = some u := fun b u z => by rw [hHn b (fun ⟨q, hq, e⟩ => apart b u z q hq e)]; exact z
  have hS := dwAll_to up hS0
  have hO : OnlyT tabs H := ⟨hHt, fun b => by
    by_cases z : ∃ q ∈ tabs, q.2 = b
    · exact .inl z
    · right; rw [hHn b z]; exact hO0 b⟩
  have hok : HOk P w H s₁.heap := fun b u z => by
    by_cases y : ∃ q ∈ tabs, q.2 = b
    · obtain ⟨q, hq, e⟩ := y
      have e1 := hHt q hq
      rw [e, z] at e1; cases e1
      have e2 := (hT q hq).2
      rw [e] at e2
      exact e2
    · rw [hHn b y] at z
      exact (hok0 b u z).stay (fun _ _ _ r => r) (fun c r => up c _ r) fun c xs r => up c _ r
  have noT : ∀ {b : Addr} {o : Obj}, s₁.heap.get? b = some o → o ≠ tabObj #[] → ¬ ∃ q ∈ tabs, q.2 = b := fun {b o} e n ⟨q, hq, z⟩ => by
    have e1 := (hT q hq).2
    rw [z, e] at e1
    exact n (Option.some.inj e1)
  have noA : ∀ {b : Addr} {o : Obj}, s₁.heap.get? b = some o → o ≠ tabObj #[] → (∀ vs n, o.data ≠ .seq vs n) → H b = none := fun {b o} e n d => by
    rw [hHn b (noT e n)]
    cases q : argH K s₁.heap A b with
    | none => rfl
    | some u =>
      obtain ⟨_, vs, _, _, ⟨e2, _⟩ | ⟨e2, _⟩⟩ := argH_is ar q
      · rw [e2] at e; cases e
        exact absurd rfl (d _ _)
      · rw [e2] at e; cases e
        exact absurd rfl (d _ _)
  have base_of : ∀ {b : Addr} {o : Obj}, s₁.heap.get? b = some o → H b = none → (hidT s₁.heap H).get? b = some o := fun e n => hidT_get e n
  have nsK : ∀ {b : Addr} {m : Str → Option Value}, s₁.heap.Ns b m → (hidT s₁.heap H).Ns b m := fun {b m} ⟨o, es, ep, e, d, r⟩ => ⟨o, es, ep, base_of e (noA e (fun z => by rw [z] at d; cases d) (fun _ _ z => by rw [z] at d; cases d)), d, r⟩
  have nK : ∀ b o, K.lookup b = some o → H b = none := fun b o e => by
    have nt : o ≠ tabObj #[] := fun z => by
      have h2 := List.all_eq_true.mp hKt (b, o) (PySem.W.mem_of_lookupK e)
      subst z
      exact absurd (show false = true from h2) Bool.false_ne_true
    rw [hHn b (noT (KX b o e) nt)]
    cases q : argH K s₁.heap A b with
    | none => rfl
    | some u =>
      have := (argH_is ar q).1
      rw [this] at e; cases e
  have hKb : K.In (hidT s₁.heap H) := fun b o e => base_of (KX b o e) (nK b o e)
  have hM : Mod K mg (hidT s₁.heap H) := ⟨hKb, nsK hns, ⟨mb, nsK hb, hbb⟩, let ⟨mc, h1, h2⟩ := hlim; ⟨mc, nsK h1, h2⟩⟩
  have e0 : Env0 P w K mg (hidT s₁.heap H) callerA [] s₁ H := ⟨rfl, hM, fun b o e => of_hidT e, Nat.le_of_eq (hidT_size _ _), trivial, fun b hb => absurd (show b ∈ ([] : List Addr) from hb) (by simp), hok, .of_eq hg⟩
  have hl : vals.length = ps.length := by rw [wellAll_len hwl]; exact hlen
  have hC : ∀ q ∈ tabs, CodeHd (hidT s₁.heap H) q.1 q.2 := fun q hq => by
    obtain ⟨o, vs, file, tf, flags, tg, inF, text, tt, e1, r1, r2, r⟩ := (hT q hq).1
    exact ⟨o, vs, file, tf, flags, tg, inF, text, tt, base_of e1 (noA e1 (fun z => by rw [z] at r1; cases r1) (fun _ _ z => by rw [z] at r2; cases r2)), r1, r2, r⟩
  have hB : BMain (hidT s₁.heap H) mg := by
    obtain ⟨bm, ob, a1, a2, a3, a4, a5, a6, a7⟩ := B
    exact ⟨bm, ob, a1, a2, a3, base_of a4 (noA a4 (fun z => by rw [z] at a5; cases a5) (fun _ _ z => by rw [z] at a7; cases a7)), a5, a6, a7⟩
  refine codeAny_mono ((F _ hKb (nsK hns) hC hB).run callerA [] s₁ H ⟨vals, []⟩ vals (vals.map toV) _ _ hr e0 (hbind s₁ vals hl) hV (hsp H _ hO hS)) fun r s' x => ?_
  cases r with
  | error e => exact (hCX H e s' x).elim
  | ok fl =>
    cases fl with
    | next => exact False.elim x
    | brk => exact False.elim x
    | cont => exact False.elim x
    | ret u =>
      obtain ⟨v, H', os, bare, un, hok', r', q⟩ := x
      have kept : ∀ b o, (¬ ∃ q ∈ tabs, q.2 = b) → s₁.heap.get? b = some o → s'.heap.get? b = some o := fun b o nb e => by
        cases q2 : H b with
        | none => exact un.keep b o e q2 (by intro z; exact absurd (show b ∈ ([] : List Addr) from z) (by simp)) (by simp)
        | some u2 =>
          rcases hO.rest b with z | z | ⟨ob, u3, z⟩
          · exact absurd z nb
          · rw [q2] at z
            cases z
          · have z2 := un.frzs b ob _ z
            obtain ⟨e1, _⟩ := hok b _ z
            obtain ⟨e2, _⟩ := hok' b _ z2
            rw [e] at e1
            cases e1
            exact e2
      have grown : ∀ q ∈ tabs, ∃ ps, s'.heap.get? q.2 = some (tabObj ps) := fun q hq => by
        obtain ⟨more, z⟩ := un.tbls q.2 _ (hHt q hq)
        exact ⟨_, hok' _ _ z⟩
      have KX' : K.In s'.heap := fun b o e => by
        refine kept b o (fun ⟨q, hq, z⟩ => ?_) (KX b o e)
        have := nK b o e
        rw [← z, hHt q hq] at this; cases this
      obtain ⟨as, hrd⟩ := Dw.reads (R := R) (cl := cl) hok' KX' d0 v u q r'
      refine ⟨u, as, rfl, hrd, ⟨fun b o e => ?_, fun b o e => ?_⟩, os, bare⟩
      · by_cases z : ∃ q ∈ tabs, q.2 = b
        · obtain ⟨q, hq, e1⟩ := z
          subst e1
          have e2 := (hT q hq).2
          rw [e] at e2; cases e2
          obtain ⟨qs, e3⟩ := grown q hq
          exact .inr (.inl ⟨((hT q hq).1.tab (hT q hq).2).isCodeTable, rfl, #[], qs, rfl, by rw [Array.empty_append]; exact e3⟩)
        · exact .inl (kept b o z e)
      · by_cases z : ∃ q ∈ tabs, q.2 = b
        · obtain ⟨q, hq, e1⟩ := z
          subst e1
          obtain ⟨qs, e3⟩ := grown q hq
          exact ⟨_, e3⟩
        · exact ⟨o, kept b o z e⟩
/-- the goal that k_headS leaves, where the text makes functions: tabs, the code tables of the defs that make them -/
theorem walk_specT {r : OpenSpec} {k : Nat} {q : Program} {loose : List Str} {XP : (Str → Option Value) → Heap → Prop} {YP : World → Heap → Prop} {d : DefRec} {K : Params → PySem.W.Frag} {CX : World → CXT} {ps : List Str} {sp : List (Addr × Addr) → PySem.W.Frag → Sp}
    (hwell : r.wellSaid = true) (hdf : d.params.defaults = []) (hlen : r.args.length = ps.length) (hr : Room k callerA)
    (hY : ∀ (w : World) (h : Heap), YP w h → (K w.params).In h)
    (F : ∀ (w : World) (mean : ExcName → Option Value) (mg mb : Str → Option Value) (fa : Addr) (h : Heap), Top q (PySem.W.looseW q loose) mean mg mb h → YP w h → (K w.params).In h → h.Ns mainGlobals mg → mg d.name = some (.ref fa) →
      ∃ (tabs : List (Addr × Addr)) (fd : FuncData), TabsAt tabs h ∧ PySem.W.noTabs (K w.params) = true ∧ (∀ (s : Shared) (us : List Value), us.length = ps.length → BindsTo s fd ⟨us, []⟩ (ps.zip us)) ∧
        ∀ base : Heap, (K w.params).In base → base.Ns mainGlobals mg → (∀ q ∈ tabs, CodeHd base q.1 q.2) → BMain base mg → FnOk r.prog w (K w.params) mg base (CX w) k fa fd ps (sp tabs (K w.params)))
    (hsp : ∀ (tabs : List (Addr × Addr)) (K : PySem.W.Frag) (H : Hp) (xs : List V) (a : Codec.denoteAll r.args), OnlyT tabs H → Codec.withinAll r.args a = true → Codec.app r.args r.asked a = true → DwAll K H xs (Codec.encAll r.args a) →
      sp tabs K xs H (fun v H' => Dw K H' v (r.ret.enc (Codec.app r.args r.f a))) fun _ _ _ => False)
    (hCX : ∀ (w : World) (H : Hp) (s : Shared) (e : Value) (s' : Shared), CX w [] H s (fun _ _ _ => False) e s' → False) :
    PySem.W.WalkOS q loose XP YP r d [] (fun f vs => PySem.call f vs) := by
  intro w s_0 s₁ mg mb G Y fa o pm cd doc dV kV ho hd hcd hD hmg hg args vals as hpre hlay hrd hwl hlo
  obtain ⟨a, e1, e2⟩ := PySem.W.os_pre_some hpre
  obtain ⟨e3, hwi⟩ := Codec.encAll_of_decAll r.args args a e1
  subst e3
  have KX := hY w _ Y
  obtain ⟨tabs, fd, hT, hKt, hb, hF⟩ := F w _ mg mb fa _ G.T Y KX G.T.g hmg
  have B : BMain s₁.heap mg := by
    obtain ⟨bm, ob, b1, b2, b3, b4, b5, b6⟩ := G.T.bmain
    refine ⟨bm, ob, b1, b2, fun z => ?_, b3, b4, b5, b6⟩
    obtain ⟨og, es, ep, e, hd, _⟩ := G.T.g
    rw [z, e] at b3; cases b3; rw [hd] at b6; cases b6
  refine PySem.W.enter_call (codeAny_mono (spec_callT (R := []) (cl := classAt s_0.heap) (d0 := r.ret.enc (Codec.app r.args r.f a)) KX G.T.g G.T.b G.T.builtins G.T.nolimit hg hT hKt B hwl (pl_encAll _ _) (layable_weight hlay) hr hF hb (by rw [encAll_len]; exact hlen)
    (fun H xs hO hS => hsp tabs _ H xs a hO hwi e2 hS) fun H e s' => hCX w H s₁ e s') fun r' s' hq => ?_)
  obtain ⟨u, as', rfl, h1, h2, h3, h4⟩ := hq
  exact ⟨.inl ⟨u, _, as', rfl, fun _ => rfl, h1, (OpenSpec.post_iff hwell hwi _ _).mpr rfl, fun z => Bool.noConfusion (show false = true from z)⟩, h2, h3, h4⟩
/-- a def's code and its table, read off the written part -/
theorem tab_mk {K : PySem.W.Frag} {x : Str} {f c P : Addr} {oc : Value} {od : Option Addr} {fd : FuncData} {sl : Array (Option Value)} {cc : Value} {cd : Option Addr} {vs : Array Value} {csl : Array (Option Value)}
    (h1 : PySem.W.nsIn K mainGlobals x = some (some (.ref f))) (h2 : K.lookup f = some ⟨oc, od, .func fd, sl⟩) (h3 : fd.code = .ref c) (h4 : K.lookup c = some ⟨cc, cd, .fields vs, csl⟩) (h5 : vs[11]? = some (.ref P)) : PySem.W.tabIn K x = some (c, P) := by
  unfold PySem.W.tabIn
  rw [h1]
  dsimp only
  rw [h2]
  dsimp only
  rw [h3]
  dsimp only
  rw [h4]
  dsimp only
  rw [h5]
end L2

set_option Elab.async false
set_option maxRecDepth 100000
/-! The top's run in one go of the kernel, over the tree: no state is written out. -/
namespace Hx
open PySem PySem.W PyProof.Rows
def pos0 : Pos := ⟨0, 0, 0, 0⟩
def o13 : Obj := { cls := .type "code", data := .fields #[.str (Str.ofString "<module>") 182, .str (Str.ofString "<module>") 183, .str (Str.ofString "/claim/cut.py") 184, .int 1 0, .int 0 0, .int 0 0, .int 0 0, .int 0 0, .ref 11, .bool false, .int 181 0, .ref 12, .none, .none, .none, .none, .int 185 0, .int 1 0, .str (Str.ofString "/claim/cut.py") 186] }
def o14 : Obj := { cls := .type "frame", slots := #[some (.ref 13), some (.ref 3), some (.ref 3), none, some (.str (Str.ofString "__main__") 164), none, some (.ref 0)] }
noncomputable def objs (P : Params) : List Obj := [boot_o_0 P, boot_o_1 P, boot_o_2 P, boot_o_3 P, boot_o_4 P, boot_o_5 P, boot_o_6 P, boot_o_7 P, boot_o_8 P, boot_o_9 P, boot_o_10 P, { cls := .type "tuple", data := .seq #[] }, { cls := .none, data := .fields #[] }, o13, o14]
noncomputable def tree (P : Params) : BT := (objs P).zipIdx.foldl (fun t x => t.ins x.2 x.1) .nil
noncomputable def Sb (w : World) (os : OsState) : SharedT := ⟨tree w.params, 15, {}, #[], {}, 187, os⟩
def ann : Option Value := some (.ref 6)
def env (p : Program) : Env := { scope := p.main.scope, locals := mainNs, globals := mainNs, cells := [], code := .ref 13, frame := some 14 }
def cE (p : Program) : Code := .body (behindTheImports p) (env p)
theorem fin_run {p : Program} {w : World} (s : Shared) (c : Code) (pos : Pos) : topRun treeTable p w 11 ann 2 s ⟨doneF .next, c, pos, [topFrame pos0]⟩ = some s := by
  obtain ⟨h, g, d, k, os⟩ := s
  rfl
theorem size_boot (w : World) : ((boot_heap w.params).isNs mainGlobals && (Array.mk [] : Array GenState).size == 0, (boot_heap w.params).objs.size, (boot_heap w.params).nsMap mainGlobals "__annotations__") = (true, 11, ann) := by kernel_rfl
noncomputable def looks (p : Program) (w : World) (s : Shared) : Bool := staticsOk (importedModules p.main.body) (boot_heap w.params) s.heap && namesBound p s.heap && gensDone s && laidKept (boot_heap w.params) s.heap
noncomputable def run1 (p : Program) (w : World) (M : Nat) (os : OsState) : Option (Flow × SharedT × Code × Pos) := segRunT treeTable p w 11 ann 1 M (Sb w os) (piecesOf (behindTheImports p) (env p) (cE p) pos0 [topFrame pos0])
/-- the same by the library's quick twins -/
noncomputable def runQ (p : Program) (w : World) (M : Nat) (os : OsState) : Option (Flow × SharedT × Code × Pos) := PySem.W.Fast.tw10110043849684766642 PySem.W.Fast.tw14364793385576792824 p w 11 ann 1 M (Sb w os) ⟨(PySem.W.Fast.tw12563942051412417395 (behindTheImports p) (env p)).wrap doneF deadEnd id id, cE p, pos0, [topFrame pos0]⟩
theorem runQ_eq (p : Program) (w : World) (M : Nat) (os : OsState) : run1 p w M os = runQ p w M os := by
  unfold run1 runQ piecesOf
  rw [PySem.W.Fast.te10110043849684766642, PySem.W.Fast.te14364793385576792824, PySem.W.Fast.te12563942051412417395]
noncomputable def getT (s : SharedT) (a : Nat) : Option Obj := match Nat.blt a s.n with
  | true => (match s.tree.get a with | some o => alive o | none => none)
  | false => none
theorem getT_of {s : SharedT} {a : Nat} {o : Obj} (h : getT s a = some o) : s.abs.heap.get? a = some o := by
  obtain ⟨T, n, life, gens, drawn, toks, os⟩ := s
  unfold getT at h
  dsimp only at h
  cases e : Nat.blt a n with
  | false => rw [e] at h; cases h
  | true =>
    rw [e] at h
    dsimp only at h
    cases g : T.get a with
    | none => rw [g] at h; cases h
    | some x =>
      rw [g] at h
      exact (abs_get (Nat.le_of_ble_eq_true e) g).trans h
theorem map_getT {s : SharedT} : ∀ (as : List Nat) (os : List Obj), as.map (getT s) = os.map some → as.map s.abs.heap.get? = os.map some
  | [], [], _ => rfl
  | [], _ :: _, h => nomatch h
  | _ :: _, [], h => nomatch h
  | a :: as, o :: os, h => by
    rw [List.map_cons, List.map_cons] at h ⊢
    obtain ⟨h1, h2⟩ := List.cons.inj h
    rw [getT_of h1, map_getT as os h2]
theorem left_of {p q : Program} {loose : List Str} {Xt : Shared → Bool} {K : Params → Frag} {as : List Addr} {N M : Nat} {g0 : Bool}
    (e : opening p = plainProg p.main.scope.names) (hN : Nat.ble 600 N = true) (f : ∀ s, fenceModules? p s = some s)
    (pre : ∀ (w : World) (os : OsState), topGo treeTable p w 11 ann 12 ⟨boot_heap w.params, Array.mk [], boot_drawn, boot_toks, os⟩ (topStub p) = some ((Sb w os).abs, ⟨denote treeTable (cE p), cE p, pos0, [topFrame pos0]⟩))
    (block : ∀ (w : World) (os : OsState), segRun treeTable p w 11 ann 1 1 (Sb w os).abs (blockOf (behindTheImports p) (env p) (cE p) pos0 [topFrame pos0]) = some (.next, (Sb w os).abs, cE p, pos0))
    (le : Nat.ble (12 + (1 + (M + 2))) N = true)
    (runA : ∀ (w : World) (os : OsState), (runQ p w M os).map (fun r => (r.1, r.2.2.1, looks p w r.2.1.abs)) = some (.next, cE p, true))
    (runB : ∀ (w : World) (os : OsState), (runQ p w M os).map (fun r => PySem.W.Fast.tw4187177175401517315 q loose (importedModules p.main.body) Xt g0 r.2.1.abs) = some (openGood q loose))
    (runC : ∀ (w : World) (os : OsState), (runQ p w M os).map (fun r => as.map (getT r.2.1)) = some (((K w.params).map (·.2)).map some)) :
    LeftO p q loose Xt (fun s => as.map s.heap.get?) (fun w => (K w.params).map fun p => some p.2) N g0 := fun w => by
  obtain ⟨⟨h, gs, d, k, os⟩, e1, e2⟩ := Option.map_eq_some_iff.mp (boot_open e hN f w)
  obtain ⟨rfl, rfl, rfl, rfl⟩ : h = boot_heap w.params ∧ gs = Array.mk [] ∧ d = boot_drawn ∧ k = boot_toks := by simpa using e2
  obtain ⟨z1, z2, z3⟩ : _ ∧ _ ∧ _ := by simpa only [Prod.mk.injEq] using size_boot w
  obtain ⟨⟨fl, sT, c, pos⟩, r1, r2⟩ := Option.map_eq_some_iff.mp (runA w os)
  have rB := runB w os
  rw [r1, ← PySem.W.Fast.te4187177175401517315] at rB
  have l2 := Option.some.inj rB
  have rC := runC w os
  rw [r1] at rC
  have l3 := map_getT _ _ (Option.some.inj rC)
  rw [List.map_map] at l3
  rw [← runQ_eq] at r1
  simp only [Prod.mk.injEq] at r2
  obtain ⟨rfl, rfl, l1⟩ := r2
  have a := segRun_of r1
  have b := piece_app (rest := []) a (by exact fin_run sT.abs (cE p) pos)
  rw [List.append_nil] at b
  have c1 := piece_block (block w os) b
  have r := go_top (pre w os) c1
  have r := topRun_mono (N - (12 + (1 + (M + 2)))) _ _ _ _ r
  rw [show 12 + (1 + (M + 2)) + (N - (12 + (1 + (M + 2)))) = N by have := Nat.le_of_ble_eq_true le; omega] at r
  have t : topFrom treeTable p w N ⟨boot_heap w.params, Array.mk [], boot_drawn, boot_toks, os⟩ = some sT.abs := by
    unfold topFrom
    dsimp only
    rw [z1, z2, z3, r]
    show (match looks p w sT.abs with | true => some sT.abs | false => none) = _
    rw [l1]
  unfold openEnds
  rw [e1]
  refine (congrArg (Option.map _) (show topFrom treeTable p w N _ = _ from t)).trans ?_
  refine congrArg Option.some ?_
  refine Prod.ext ?_ ?_
  · exact l2
  · exact l3
abbrev ent (P : Params) (k : String) (t : Nat) (v : Value) : DictEntry := ⟨PyData.keyHash P (Str.ofString k), .str (Str.ofString k) t, v⟩
end Hx

set_option Elab.async false
namespace Rk
open Vaarrc (Token Toks tokensIn blank position readMods readFun str Mod Fun)
open Vaarrb (letter digit)

/-- from a place on past all bytes that belong -/
def pastRun (p : Nat → Bool) (t : List Nat) (i : Nat) : Nat := i + ((t.drop i).takeWhile p).length

theorem pastRun_le (p : Nat → Bool) (t : List Nat) {i : Nat} (h : i ≤ t.length) : pastRun p t i ≤ t.length := by
  unfold pastRun
  have h1 := (List.takeWhile_sublist p (l := t.drop i)).length_le
  rw [List.length_drop] at h1
  omega
theorem le_pastRun (p : Nat → Bool) (t : List Nat) (i : Nat) : i ≤ pastRun p t i := by unfold pastRun; omega
theorem pastRun_in {p : Nat → Bool} {t : List Nat} {i c : Nat} (h : t[i]? = some c) (hp : p c = true) : pastRun p t i = pastRun p t (i + 1) := by
  obtain ⟨hi, he⟩ := List.getElem?_eq_some_iff.mp h
  unfold pastRun
  rw [List.drop_eq_getElem_cons hi, he, List.takeWhile_cons, if_pos hp, List.length_cons]
  omega
theorem pastRun_out {p : Nat → Bool} {t : List Nat} {i c : Nat} (h : t[i]? = some c) (hp : p c = false) : pastRun p t i = i := by
  obtain ⟨hi, he⟩ := List.getElem?_eq_some_iff.mp h
  unfold pastRun
  rw [List.drop_eq_getElem_cons hi, he, List.takeWhile_cons, if_neg (by rw [hp]; exact Bool.false_ne_true), List.length_nil]
  rfl
theorem pastRun_end {p : Nat → Bool} {t : List Nat} {i : Nat} (h : t.length ≤ i) : pastRun p t i = i := by
  unfold pastRun
  rw [List.drop_eq_nil_of_le h]
  rfl
/-- the signs in the program's order -/
def signs : List (List Nat) := [[60, 61], [47, 61], [43], [45], [42], [60], [61]]
def cut (t : List Nat) (i j : Nat) : List Nat := (t.drop i).take (j - i)
def pastSign (t : List Nat) (i : Nat) : Nat := match signs.find? fun s => (t.drop i).take s.length == s with
  | some s => i + s.length
  | none => i
def pastMod (t : List Nat) (i : Nat) : Nat := if pastRun letter t (i + 1) = i + 1 then i else pastRun letter t (i + 1)
def pastToken (t : List Nat) (i : Nat) : Nat := match t[i]? with
  | none => i
  | some c => if letter c = true then pastRun letter t i else if digit c = true then pastRun digit t i else if c = 58 then pastMod t i else pastSign t i
def tokB (t : List Nat) (i : Nat) : Nat := pastRun blank t i
def tokE (t : List Nat) (i : Nat) : Nat := pastToken t (tokB t i)
def spell (t : List Nat) (i : Nat) : List Nat := cut t (tokB t i) (tokE t i)

/-- the tokens from a place on -/
def toks (t : List Nat) (i : Nat) : Toks := tokensIn t.length (t.length + 1) (t.drop i)
def kind : List Nat → Token
  | [] => .none
  | c :: r => if letter c = true then .name (c :: r) else if digit c = true then .num (c :: r) else if c = 58 then .mod r else .name (c :: r)

theorem dropWhile_le (p : Nat → Bool) (r : List Nat) : (r.dropWhile p).length ≤ r.length := (List.dropWhile_sublist p).length_le
theorem fuel (w : Nat) : ∀ (k k' : Nat) (l : List Nat), l.length < k → l.length < k' → tokensIn w k l = tokensIn w k' l
  | 0, _, l, h, _ => absurd h (Nat.not_lt_zero _)
  | _ + 1, 0, l, _, h => absurd h (Nat.not_lt_zero _)
  | k + 1, k' + 1, [], _, _ => by rw [tokensIn, tokensIn]
  | k + 1, k' + 1, c :: r, h, h' => by
    rw [List.length_cons] at h h'
    have a1 := dropWhile_le letter r
    have a2 := dropWhile_le digit r
    have a3 : (r.drop 1).length ≤ r.length := by rw [List.length_drop]; omega
    rw [tokensIn, tokensIn]
    rw [fuel w k k' r (by omega) (by omega), fuel w k k' (r.dropWhile letter) (by omega) (by omega), fuel w k k' (r.dropWhile digit) (by omega) (by omega),
      fuel w k k' (r.drop 1) (by omega) (by omega)]
theorem toks_fuel (t : List Nat) (i k : Nat) (h : (t.drop i).length < k) : tokensIn t.length k (t.drop i) = toks t i := by
  unfold toks
  exact fuel _ _ _ _ h (by rw [List.length_drop]; omega)

theorem drop_at {t : List Nat} {i c : Nat} (h : t[i]? = some c) : t.drop i = c :: t.drop (i + 1) := by
  obtain ⟨hi, he⟩ := List.getElem?_eq_some_iff.mp h
  rw [List.drop_eq_getElem_cons hi, he]
theorem dropWhile_drop (p : Nat → Bool) : ∀ r : List Nat, r.dropWhile p = r.drop (r.takeWhile p).length
  | [] => rfl
  | a :: r => by
    rw [List.dropWhile_cons, List.takeWhile_cons]
    cases hp : p a with
    | true => rw [if_pos rfl, if_pos rfl, List.length_cons, List.drop_succ_cons]; exact dropWhile_drop p r
    | false => rw [if_neg Bool.false_ne_true, if_neg Bool.false_ne_true]; rfl
theorem take_takeWhile (p : Nat → Bool) : ∀ r : List Nat, r.take (r.takeWhile p).length = r.takeWhile p
  | [] => rfl
  | a :: r => by
    rw [List.takeWhile_cons]
    cases hp : p a with
    | true => rw [if_pos rfl, List.length_cons, List.take_succ_cons, take_takeWhile p r]
    | false => rw [if_neg Bool.false_ne_true]; rfl

theorem pt_none {t : List Nat} {i : Nat} (h : t[i]? = none) : pastToken t i = i := by unfold pastToken; rw [h]
theorem pt_letter {t : List Nat} {i c : Nat} (h : t[i]? = some c) (hc : letter c = true) : pastToken t i = pastRun letter t i := by unfold pastToken; rw [h]; exact if_pos hc
theorem pt_digit {t : List Nat} {i c : Nat} (h : t[i]? = some c) (hc : ¬ letter c = true) (hg : digit c = true) : pastToken t i = pastRun digit t i := by
  unfold pastToken; rw [h]; exact (if_neg hc).trans (if_pos hg)
theorem pt_mod {t : List Nat} {i : Nat} (h : t[i]? = some 58) : pastToken t i = pastMod t i := by
  unfold pastToken; rw [h]; exact ((if_neg (by decide)).trans (if_neg (by decide))).trans (if_pos rfl)
theorem pt_sign {t : List Nat} {i c : Nat} (h : t[i]? = some c) (hc : ¬ letter c = true) (hg : ¬ digit c = true) (h8 : ¬ c = 58) : pastToken t i = pastSign t i := by
  unfold pastToken; rw [h]; exact ((if_neg hc).trans (if_neg hg)).trans (if_neg h8)
theorem kind_letter {c : Nat} {r : List Nat} (hc : letter c = true) : kind (c :: r) = .name (c :: r) := by unfold kind; exact if_pos hc
theorem kind_digit {c : Nat} {r : List Nat} (hc : ¬ letter c = true) (hg : digit c = true) : kind (c :: r) = .num (c :: r) := by unfold kind; exact (if_neg hc).trans (if_pos hg)
theorem kind_mod {r : List Nat} : kind (58 :: r) = .mod r := by unfold kind; exact ((if_neg (by decide)).trans (if_neg (by decide))).trans (if_pos rfl)
theorem kind_sign {c : Nat} {r : List Nat} (hc : ¬ letter c = true) (hg : ¬ digit c = true) (h8 : ¬ c = 58) : kind (c :: r) = .name (c :: r) := by
  unfold kind; exact ((if_neg hc).trans (if_neg hg)).trans (if_neg h8)

/-- a sign at the head, or none -/
theorem sign_find (c : Nat) (r : List Nat) : (signs.find? fun s => (c :: r).take s.length == s) =
    if Vaarrc.signs2.contains ((c :: r).take 2) = true then some ((c :: r).take 2) else if Vaarrc.signs1.contains [c] = true then some [c] else none := by
  have s2 : Vaarrc.signs2.contains ((c :: r).take 2) = (((c :: r).take 2 == [60, 61]) || ((c :: r).take 2 == [47, 61])) := by
    show (([[60, 61], [47, 61]] : List (List Nat)).contains _) = _
    simp only [List.contains_cons, List.contains_nil, Bool.or_false]
  have s1 : Vaarrc.signs1.contains [c] = (([c] == [43]) || (([c] == [45]) || (([c] == [42]) || (([c] == [60]) || ([c] == [61]))))) := by
    show (([[43], [45], [42], [60], [61]] : List (List Nat)).contains [c]) = _
    simp only [List.contains_cons, List.contains_nil, Bool.or_false]
  have t1 : (c :: r).take 1 = [c] := by simp
  rw [s2, s1]
  unfold signs
  simp only [List.find?_cons, List.find?_nil, List.length_cons, List.length_nil, Nat.zero_add, t1, Nat.reduceAdd]
  generalize hx : (c :: r).take 2 = x
  cases q1 : (x == [60, 61]) with
  | true => have e := eq_of_beq q1; subst e; rfl
  | false =>
    cases q2 : (x == [47, 61]) with
    | true => have e := eq_of_beq q2; subst e; rfl
    | false =>
      simp only [Bool.or_self, Bool.false_eq_true, if_false]
      generalize hy : ([c] : List Nat) = y
      cases w1 : (y == [43]) with
      | true => have e := eq_of_beq w1; subst e; rfl
      | false =>
        cases w2 : (y == [45]) with
        | true => have e := eq_of_beq w2; subst e; rfl
        | false =>
          cases w3 : (y == [42]) with
          | true => have e := eq_of_beq w3; subst e; rfl
          | false =>
            cases w4 : (y == [60]) with
            | true => have e := eq_of_beq w4; subst e; rfl
            | false =>
              cases w5 : (y == [61]) with
              | true => have e := eq_of_beq w5; subst e; rfl
              | false => rfl

/-- a token that begins just here -/
theorem toks_here {t : List Nat} {i c : Nat} (h : t[i]? = some c) (hb : blank c = false) :
    toks t i = if pastToken t i = i then [(i, .none)] else (i, kind (cut t i (pastToken t i))) :: toks t (pastToken t i) := by
  have hi := (List.getElem?_eq_some_iff.mp h).1
  have hd := drop_at h
  have hl : (t.drop (i + 1)).length + 1 = t.length - i := by rw [List.length_drop]; omega
  have hp : t.length - ((t.drop (i + 1)).length + 1) = i := by omega
  have hlt : (t.drop (i + 1)).length < t.length := by omega
  have back : ∀ k, tokensIn t.length t.length ((t.drop (i + 1)).drop k) = toks t (i + 1 + k) := fun k => by
    rw [List.drop_drop]
    exact toks_fuel t _ _ (by rw [List.length_drop]; omega)
  have unf : toks t i = tokensIn t.length (t.length + 1) (c :: t.drop (i + 1)) := by unfold toks; rw [hd]
  have run : ∀ p : Nat → Bool, p c = true → pastRun p t i = i + 1 + ((t.drop (i + 1)).takeWhile p).length := fun p hc => by rw [pastRun_in h hc]; rfl
  have cutw : ∀ p : Nat → Bool, cut t i (i + 1 + ((t.drop (i + 1)).takeWhile p).length) = c :: (t.drop (i + 1)).takeWhile p := fun p => by
    unfold cut
    rw [hd, show i + 1 + ((t.drop (i + 1)).takeWhile p).length - i = ((t.drop (i + 1)).takeWhile p).length + 1 by omega, List.take_succ_cons, take_takeWhile]
  rw [unf, tokensIn]
  simp only [hp]
  rw [if_neg (by rw [hb]; exact Bool.false_ne_true)]
  by_cases hc : letter c = true
  · rw [if_pos hc, pt_letter h hc, run letter hc, if_neg (by omega), cutw, dropWhile_drop, back, kind_letter hc]
  rw [if_neg hc]
  by_cases hg : digit c = true
  · rw [if_pos hg, pt_digit h hc hg, run digit hg, if_neg (by omega), cutw, dropWhile_drop, back, kind_digit hc hg]
  rw [if_neg hg]
  by_cases h58 : c = 58
  · subst h58
    rw [pt_mod h]
    have rl : pastRun letter t (i + 1) = i + 1 + ((t.drop (i + 1)).takeWhile letter).length := rfl
    have e2 := cutw letter
    have pm : pastMod t i = if ((t.drop (i + 1)).takeWhile letter).length = 0 then i else i + 1 + ((t.drop (i + 1)).takeWhile letter).length := by
      unfold pastMod
      rw [rl]
      by_cases z : ((t.drop (i + 1)).takeWhile letter).length = 0
      · rw [if_pos (by omega), if_pos z]
      · rw [if_neg (by omega), if_neg z]
    rw [pm]
    cases hw : (t.drop (i + 1)).takeWhile letter with
    | nil =>
      have n2 : ¬ Vaarrc.signs2.contains ((58 :: t.drop (i + 1)).take 2) = true := by
        rw [List.take_succ_cons]
        show ¬ (([[60, 61], [47, 61]] : List (List Nat)).contains (58 :: (t.drop (i + 1)).take 1)) = true
        simp
      rw [if_neg (by simp), if_neg n2, if_neg (by decide), List.length_nil, if_pos rfl, if_pos rfl]
    | cons a r =>
      rw [hw] at e2
      have e3 : (if r.length + 1 = 0 then i else i + 1 + (r.length + 1)) = i + 1 + (r.length + 1) := if_neg (by omega)
      rw [if_pos ⟨rfl, rfl⟩, List.length_cons, e3, if_neg (by omega)]
      rw [List.length_cons] at e2
      rw [e2, dropWhile_drop, hw, List.length_cons, back, kind_mod]
  rw [if_neg (fun z => h58 z.1), pt_sign h hc hg h58]
  have ps : pastSign t i = if Vaarrc.signs2.contains ((c :: t.drop (i + 1)).take 2) = true then i + ((c :: t.drop (i + 1)).take 2).length else if Vaarrc.signs1.contains [c] = true then i + 1 else i := by
    unfold pastSign
    rw [hd, sign_find]
    split
    · rename_i s hs
      split at hs
      · rename_i q; rw [if_pos q]; rw [Option.some.inj hs]
      · rename_i q
        rw [if_neg q]
        split at hs
        · rename_i q'; rw [if_pos q', ← Option.some.inj hs]; rfl
        · cases hs
    · rename_i hs
      split at hs
      · cases hs
      · rename_i q
        rw [if_neg q]
        split at hs
        · cases hs
        · rename_i q'; rw [if_neg q']
  rw [ps]
  by_cases q2 : Vaarrc.signs2.contains ((c :: t.drop (i + 1)).take 2) = true
  · rw [if_pos q2, if_pos q2]
    have l2 : ((c :: t.drop (i + 1)).take 2).length = 2 := by
      have q : (([[60, 61], [47, 61]] : List (List Nat)).contains ((c :: t.drop (i + 1)).take 2)) = true := q2
      generalize (c :: t.drop (i + 1)).take 2 = x at q
      simp at q
      rcases q with q | q <;> rw [q] <;> rfl
    have c2 : cut t i (i + 2) = (c :: t.drop (i + 1)).take 2 := by
      unfold cut; rw [hd]; congr 1; omega
    rw [l2, if_neg (by omega), c2, back 1, List.take_succ_cons, kind_sign hc hg h58]
  rw [if_neg q2, if_neg q2]
  by_cases q1 : Vaarrc.signs1.contains [c] = true
  · have c1 : cut t i (i + 1) = [c] := by
      unfold cut; rw [hd, show i + 1 - i = 1 by omega]; rfl
    have b0 := back 0
    rw [List.drop_zero, Nat.add_zero] at b0
    rw [if_pos q1, if_pos q1, if_neg (by omega), c1, b0, kind_sign hc hg h58]
  · rw [if_neg q1, if_neg q1, if_pos rfl]

theorem toks_end {t : List Nat} {i : Nat} (h : t.length ≤ i) : toks t i = [(t.length, .none)] := by
  unfold toks
  rw [List.drop_eq_nil_of_le h, tokensIn]
theorem toks_blank {t : List Nat} {i c : Nat} (h : t[i]? = some c) (hb : blank c = true) : toks t i = toks t (i + 1) := by
  have hi := (List.getElem?_eq_some_iff.mp h).1
  have unf : toks t i = tokensIn t.length (t.length + 1) (c :: t.drop (i + 1)) := by unfold toks; rw [drop_at h]
  rw [unf, tokensIn, if_pos hb]
  exact toks_fuel t _ _ (by rw [List.length_drop]; omega)
theorem toks_step (t : List Nat) : ∀ (k i : Nat), t.length - i = k → i ≤ t.length →
    toks t i = if tokE t i = tokB t i then [(tokB t i, .none)] else (tokB t i, kind (spell t i)) :: toks t (tokE t i)
  | 0, i, hk, hi => by
    have e : t.length = i := by omega
    have b : tokB t i = i := pastRun_end (by omega)
    have e' : tokE t i = i := by unfold tokE; rw [b]; exact pt_none (List.getElem?_eq_none (by omega))
    rw [toks_end (by omega), if_pos (e'.trans b.symm), b, e]
  | k + 1, i, hk, hi => by
    have hlt : i < t.length := by omega
    obtain ⟨c, h⟩ : ∃ c, t[i]? = some c := ⟨_, List.getElem?_eq_getElem hlt⟩
    by_cases hb : blank c = true
    · have eb : tokB t i = tokB t (i + 1) := pastRun_in h hb
      have ee : tokE t i = tokE t (i + 1) := by unfold tokE; rw [eb]
      have es : spell t i = spell t (i + 1) := by unfold spell; rw [eb, ee]
      rw [toks_blank h hb, toks_step t k (i + 1) (by omega) (by omega), eb, ee, es]
    · have hb' : blank c = false := by simpa using hb
      have b : tokB t i = i := pastRun_out h hb'
      have ee : tokE t i = pastToken t i := by unfold tokE; rw [b]
      have es : spell t i = cut t i (pastToken t i) := by unfold spell; rw [b, ee]
      rw [toks_here h hb', b, ee, es]
theorem toks_at {t : List Nat} {i : Nat} (hi : i ≤ t.length) :
    toks t i = if tokE t i = tokB t i then [(tokB t i, .none)] else (tokB t i, kind (spell t i)) :: toks t (tokE t i) := toks_step t _ i rfl hi
theorem pos_toks {t : List Nat} {i : Nat} (hi : i ≤ t.length) : position (toks t i) = tokB t i := by
  rw [toks_at hi]
  split <;> rfl

theorem pastSign_ge (t : List Nat) (i : Nat) : i ≤ pastSign t i := by unfold pastSign; split <;> omega
theorem pastSign_le {t : List Nat} {i : Nat} (h : i ≤ t.length) : pastSign t i ≤ t.length := by
  unfold pastSign
  split
  · rename_i s hs
    have z := List.find?_some (p := fun s : List Nat => (t.drop i).take s.length == s) hs
    have e := eq_of_beq z
    have l := congrArg List.length e
    rw [List.length_take, List.length_drop] at l
    omega
  · exact h
theorem pastToken_ge (t : List Nat) (i : Nat) : i ≤ pastToken t i := by
  unfold pastToken
  split
  · omega
  · split
    · exact le_pastRun ..
    · split
      · exact le_pastRun ..
      · split
        · unfold pastMod
          have := le_pastRun letter t (i + 1)
          split <;> omega
        · exact pastSign_ge t i
theorem pastToken_le {t : List Nat} {i : Nat} (h : i ≤ t.length) : pastToken t i ≤ t.length := by
  unfold pastToken
  split
  · omega
  · rename_i c hc
    have hi := (List.getElem?_eq_some_iff.mp hc).1
    split
    · exact pastRun_le _ _ h
    · split
      · exact pastRun_le _ _ h
      · split
        · unfold pastMod
          have := pastRun_le letter t (i := i + 1) (by omega)
          split <;> omega
        · exact pastSign_le h
theorem tokB_le {t : List Nat} {i : Nat} (h : i ≤ t.length) : tokB t i ≤ t.length := pastRun_le _ _ h
theorem tokE_ge (t : List Nat) (i : Nat) : tokB t i ≤ tokE t i := pastToken_ge ..
theorem tokE_le {t : List Nat} {i : Nat} (h : i ≤ t.length) : tokE t i ≤ t.length := pastToken_le (tokB_le h)
theorem spell_length {t : List Nat} {i : Nat} (h : i ≤ t.length) : (spell t i).length = tokE t i - tokB t i := by
  unfold spell cut
  rw [List.length_take, List.length_drop]
  have := tokE_le h
  omega
theorem spell_nil {t : List Nat} {i : Nat} (h : tokE t i = tokB t i) : spell t i = [] := by
  unfold spell cut
  rw [h, Nat.sub_self, List.take_zero]

/-! the words -/
def baseWords : List (List Nat) := (["Shape", "Count", "Ravel", "Iota", "Flip", "Turn", "Grade", "Where", "First", "Abs", "Sign", "Not", "Reshape", "Take", "Drop", "Rotate", "Join", "Pick", "Find", "Same", "Keep", "Div", "Mod", "Min", "Max", "And", "Or"]).map str
def baseNames : List (List Nat) := signs ++ baseWords
def modWords : List (List Nat) := [":fold", ":scan", ":table", ":swap", ":at"].map str
def rankWords : List (List Nat) := [[48], [49], [50], [51], [52], [53]]

theorem names_iff (n : List Nat) : (Vaarrc.oneNames.contains n || Vaarrc.twoNames.contains n) = true ↔ n ∈ baseNames := by
  have a : ∀ x ∈ Vaarrc.oneNames, x ∈ baseNames := by decide
  have b : ∀ x ∈ Vaarrc.twoNames, x ∈ baseNames := by decide
  have c : ∀ x ∈ baseNames, x ∈ Vaarrc.oneNames ∨ x ∈ Vaarrc.twoNames := by decide
  rw [Bool.or_eq_true, List.contains_iff_mem, List.contains_iff_mem]
  exact ⟨fun h => h.elim (a n) (b n), c n⟩
theorem kind_base : ∀ n ∈ baseNames, kind n = .name n := by decide
theorem kind_modW : ∀ n ∈ modWords, kind n = .mod (n.drop 1) := by decide
theorem kind_rank : ∀ n ∈ rankWords, kind n = .num n := by decide
theorem kind_name_inv {s n : List Nat} (h : kind s = .name n) : s = n := by
  cases s with
  | nil => cases h
  | cons c r =>
    unfold kind at h
    dsimp only at h
    split at h
    · injection h
    · split at h
      · cases h
      · split at h
        · cases h
        · injection h
theorem kind_mod_inv {s n : List Nat} (h : kind s = .mod n) : s = 58 :: n := by
  cases s with
  | nil => cases h
  | cons c r =>
    unfold kind at h
    dsimp only at h
    split at h
    · cases h
    · split at h
      · cases h
      · split at h
        · rename_i e; injection h with h; rw [e, h]
        · cases h
theorem kind_num_inv {s n : List Nat} (h : kind s = .num n) : s = n ∧ ∃ c r, s = c :: r ∧ digit c = true := by
  cases s with
  | nil => cases h
  | cons c r =>
    unfold kind at h
    dsimp only at h
    split at h
    · cases h
    · split at h
      · rename_i e; injection h with h; exact ⟨h, c, r, rfl, e⟩
      · split at h <;> cases h

/-! the reading of modifiers -/
theorem mods_end {t : List Nat} {i m : Nat} (hi : i ≤ t.length) (h : tokB t i = t.length) : readMods t.length m (toks t i) = .ok [] := by
  unfold readMods
  rw [if_pos (by rw [pos_toks hi]; exact h)]
theorem mods_full {t : List Nat} {i : Nat} (hi : i ≤ t.length) (h : tokB t i ≠ t.length) : readMods t.length 0 (toks t i) = .error (tokB t i) := by
  unfold readMods
  rw [if_neg (by rw [pos_toks hi]; exact h), ← pos_toks hi]
theorem not_mod {s : List Nat} {w : List Nat} (hs : s ∉ modWords) (h : kind s = .mod w) : w ≠ str "fold" ∧ w ≠ str "scan" ∧ w ≠ str "table" ∧ w ≠ str "swap" ∧ w ≠ str "at" := by
  have e := kind_mod_inv h
  subst e
  refine ⟨?_, ?_, ?_, ?_, ?_⟩ <;> (intro z; subst z; exact hs (by decide))
theorem mods_no {t : List Nat} {i m : Nat} (hi : i ≤ t.length) (h : tokB t i ≠ t.length) (hs : spell t i ∉ modWords) : readMods t.length (m + 1) (toks t i) = .error (tokB t i) := by
  unfold readMods
  rw [if_neg (by rw [pos_toks hi]; exact h)]
  rw [toks_at hi]
  by_cases e : tokE t i = tokB t i
  · rw [if_pos e]
    rfl
  · rw [if_neg e]
    cases hk : kind (spell t i) with
    | mod w =>
      obtain ⟨h1, h2, h3, h4, h5⟩ := not_mod hs hk
      dsimp only
      rw [if_neg h1, if_neg h2, if_neg h3, if_neg h4, if_neg h5]
    | name n => rfl
    | num n => rfl
    | none => rfl
def mod4 (s : List Nat) : Mod := if s = str ":fold" then .fold else if s = str ":scan" then .scan else if s = str ":table" then .table else .swap
theorem mods_one {t : List Nat} {i m : Nat} (hi : i ≤ t.length) (h : tokB t i ≠ t.length) (hs : spell t i ∈ modWords) (ha : spell t i ≠ str ":at") :
    readMods t.length (m + 1) (toks t i) = (readMods t.length m (toks t (tokE t i))).map fun l => mod4 (spell t i) :: l := by
  have hk := kind_modW _ hs
  have ne : tokE t i ≠ tokB t i := fun z => by rw [spell_nil z] at hs; revert hs; decide
  rw [readMods.eq_def]
  dsimp only
  rw [if_neg (show ¬ position (toks t i) = t.length by rw [pos_toks hi]; exact h)]
  rw [toks_at hi, if_neg ne, hk]
  have hs' : spell t i = str ":fold" ∨ spell t i = str ":scan" ∨ spell t i = str ":table" ∨ spell t i = str ":swap" ∨ spell t i = str ":at" := by
    simpa [modWords] using hs
  rcases hs' with e | e | e | e | e
  · rw [e]; dsimp only; rw [if_pos (by decide)]; rfl
  · rw [e]; dsimp only; rw [if_neg (by decide), if_pos (by decide)]; rfl
  · rw [e]; dsimp only; rw [if_neg (by decide), if_neg (by decide), if_pos (by decide)]; rfl
  · rw [e]; dsimp only; rw [if_neg (by decide), if_neg (by decide), if_neg (by decide), if_pos (by decide)]; rfl
  · exact absurd e ha
theorem mods_at {t : List Nat} {i m : Nat} (hi : i ≤ t.length) (h : tokB t i ≠ t.length) (hs : spell t i = str ":at") :
    readMods t.length (m + 1) (toks t i) = if spell t (tokE t i) ∈ rankWords then (readMods t.length m (toks t (tokE t (tokE t i)))).map fun l => .at_ ((spell t (tokE t i)).headD 0 - 48) :: l else .error (tokB t (tokE t i)) := by
  have hk := kind_modW (spell t i) (by rw [hs]; decide)
  have ne : tokE t i ≠ tokB t i := fun z => by rw [spell_nil z] at hs; revert hs; decide
  have hi2 := tokE_le hi
  rw [readMods.eq_def]
  dsimp only
  rw [if_neg (show ¬ position (toks t i) = t.length by rw [pos_toks hi]; exact h)]
  rw [toks_at hi, if_neg ne, hk, hs]
  dsimp only
  rw [if_neg (by decide), if_neg (by decide), if_neg (by decide), if_neg (by decide), if_pos (by decide)]
  have hp := pos_toks hi2
  rw [toks_at hi2] at hp ⊢
  by_cases e : tokE t (tokE t i) = tokB t (tokE t i)
  · rw [if_pos e, spell_nil e, if_neg (by decide)]
    rfl
  · rw [if_neg e] at hp ⊢
    generalize spell t (tokE t i) = s at hp ⊢
    cases hq : kind s with
    | num n =>
      obtain ⟨rfl, c, r, rfl, hd⟩ := kind_num_inv hq
      have hc : 48 ≤ c ∧ c ≤ 57 := of_decide_eq_true hd
      cases r with
      | nil =>
        dsimp only
        by_cases h5 : c ≤ 53
        · rw [if_pos h5, if_pos ?_]
          · rfl
          · have : c = 48 ∨ c = 49 ∨ c = 50 ∨ c = 51 ∨ c = 52 ∨ c = 53 := by omega
            rcases this with rfl | rfl | rfl | rfl | rfl | rfl <;> decide
        · rw [if_neg h5, if_neg ?_]
          · rfl
          · intro z
            have z' : c = 48 ∨ c = 49 ∨ c = 50 ∨ c = 51 ∨ c = 52 ∨ c = 53 := by simpa [rankWords] using z
            omega
      | cons c2 r =>
        rw [if_neg (by intro z; simp [rankWords] at z)]
        rfl
    | mod n =>
      have e := kind_mod_inv hq
      subst e
      rw [if_neg (by intro z; simp [rankWords] at z)]
      rfl
    | name n =>
      rw [if_neg (fun z => by rw [kind_rank _ z] at hq; cases hq)]
      rfl
    | none =>
      rw [if_neg (fun z => by rw [kind_rank _ z] at hq; cases hq)]
      rfl
theorem fun_no {t : List Nat} (hs : spell t 0 ∉ baseNames) : readFun t = .error (tokB t 0) := by
  have e0 : tokensIn t.length (t.length + 1) t = toks t 0 := by unfold toks; rw [List.drop_zero]
  unfold readFun
  rw [e0]
  have hp := pos_toks (t := t) (i := 0) (Nat.zero_le _)
  rw [toks_at (Nat.zero_le _)] at hp ⊢
  by_cases e : tokE t 0 = tokB t 0
  · rw [if_pos e]; rfl
  · rw [if_neg e] at hp ⊢
    cases hk : kind (spell t 0) with
    | name n =>
      have z := kind_name_inv hk
      rw [← z]
      dsimp only
      rw [if_neg (fun y => hs ((names_iff _).mp y))]
    | mod n => rfl
    | num n => rfl
    | none => rfl
theorem fun_base {t : List Nat} (hs : spell t 0 ∈ baseNames) : readFun t = (readMods t.length Vaarrc.MODS (toks t (tokE t 0))).map fun l => { base := spell t 0, mods := l.reverse } := by
  have e0 : tokensIn t.length (t.length + 1) t = toks t 0 := by unfold toks; rw [List.drop_zero]
  have ne : tokE t 0 ≠ tokB t 0 := fun z => by rw [spell_nil z] at hs; revert hs; decide
  unfold readFun
  rw [e0, toks_at (Nat.zero_le _), if_neg ne, kind_base _ hs]
  dsimp only
  rw [if_pos ((names_iff _).mpr hs)]
end Rk

set_option Elab.async false
namespace Rk
open PySem PySem.Spec PyProof.Rows L2 Rx
/-! ### the text by places -/
def top (i : Nat) : Stmt := PySem.Challenge.pw_rankedfunctions_s03_uses.main.body.getD i (.Pass ⟨0, 0, 0, 0⟩)
abbrev sXInit : Stmt := inClass (top 24) 0
abbrev sAns : Stmt := top 25
abbrev sTInit : Stmt := inClass (top 30) 0
abbrev sBytes : Stmt := top 31
abbrev sBlank : Stmt := top 32
abbrev sLetter : Stmt := top 33
abbrev sDigit : Stmt := top 34
abbrev sRun : Stmt := top 35
abbrev sModW : Stmt := top 36
abbrev sSign : Stmt := top 37
abbrev sTok : Stmt := top 38
abbrev sFrom : Stmt := top 39
abbrev sFInit : Stmt := inClass (top 53) 0
abbrev sName : Stmt := top 54
abbrev sMods : Stmt := top 55
abbrev sRead : Stmt := top 56
abbrev sUBase : Stmt := top 57
abbrev sMay2 : Stmt := top 58
abbrev sUses0 : Stmt := top 59
abbrev sUses : Stmt := top 61
end Rk

set_option Elab.async false
set_option linter.all false
set_option maxRecDepth 100000
namespace Rk
open PySem PySem.Spec PyProof.Rows L2 Rx
/-! ### data -/
abbrev tv (t : List Nat) : List V := t.map fun (n : Nat) => V.int (n : Int)
theorem tv_get {t : List Nat} {i c : Nat} (h : t[i]? = some c) : (tv t)[i]? = some (.int (c : Int)) := by rw [List.getElem?_map, h]; rfl
theorem tv_len (t : List Nat) : (tv t).length = t.length := List.length_map _
/-- a text's codes -/
abbrev cp (x : Str) : List Nat := x.cps.toList
def signS : List Str := ["<=", "/=", "+", "-", "*", "<", "="]
def oneS : List Str := ["Shape", "Count", "Ravel", "Iota", "Flip", "Turn", "Grade", "Where", "First", "Abs", "Sign", "Not"]
def twoS : List Str := ["Reshape", "Take", "Drop", "Rotate", "Join", "Pick", "Find", "Same", "Keep", "Div", "Mod", "Min", "Max", "And", "Or"]
def baseS : List Str := oneS ++ twoS
def modS : List Str := [":fold", ":scan", ":table", ":swap", ":at"]
def rankS : List Str := ["0", "1", "2", "3", "4", "5"]
theorem signS_tl : signS.map cp = signs := by decide +kernel
theorem baseS_tl : (signS ++ baseS).map cp = baseNames := by decide +kernel
theorem modS_tl : modS.map cp = modWords := by decide +kernel
theorem rankS_tl : rankS.map cp = rankWords := by decide +kernel
structure Adr where
  (CL NL CN NN CT CF aB aS aW aV aM aR : Addr)
/-- what the top has written -/
structure Txt (K : PySem.W.Frag) (mg : Str → Option Value) (z : Adr) : Prop where
  xl : XC K z.CL z.NL
  xn : XC K z.CN z.NN
  ne : z.CL ≠ z.CN
  li : PySem.W.nsIn K z.NL "__init__" = some none
  np : PySem.W.nsIn K z.NN "place" = some none
  ns : PySem.W.nsIn K z.NN "__setattr__" = some none
  ng : PySem.W.nsIn K z.NN "__getattribute__" = some none
  nh : PySem.W.nsIn K z.NN "__getattr__" = some none
  mL : mg "TooLong" = some (.ref z.CL)
  mN : mg "NoFunction" = some (.ref z.CN)
  mE : mg "Exception" = none
  mT : mg "Token" = some (.ref z.CT)
  cT : Cls K z.CT
  tb : NoAttr K z.CT "begin"
  ts : NoAttr K z.CT "spelling"
  te : NoAttr K z.CT "end"
  mF : mg "Function" = some (.ref z.CF)
  cF : Cls K z.CF
  fb : NoAttr K z.CF "base"
  fm : NoAttr K z.CF "modifiers"
  kLong : ∃ t, mg "LONG" = some (.int (-21) t)
  kCol : ∃ t, mg "COLON" = some (.int 58 t)
  kMb : ∃ t, mg "MOST_BYTES" = some (.int 256 t)
  kMm : ∃ t, mg "MOST_MODIFIERS" = some (.int 8 t)
  kAt : ∃ t, mg "AT" = some (.str ":at" t)
  mB : mg "BLANKS" = some (.ref z.aB)
  vB : ∀ H, SqT K H z.aB (tv [32, 9, 10, 13])
  mS : mg "SIGNS" = some (.ref z.aS)
  vS : ∀ H, SqT K H z.aS (signS.map V.str)
  mW : mg "WORDS_OF_ONE" = some (.ref z.aW)
  vW : ∀ H, SqT K H z.aW (oneS.map V.str)
  mV : mg "WORDS_OF_TWO" = some (.ref z.aV)
  vV : ∀ H, SqT K H z.aV (twoS.map V.str)
  mM : mg "MODIFIER_WORDS" = some (.ref z.aM)
  vM : ∀ H, SqT K H z.aM (modS.map V.str)
  mR : mg "RANK_DIGITS" = some (.ref z.aR)
  vR : ∀ H, SqT K H z.aR (rankS.map V.str)
  len : mg "len" = none
  ord : mg "ord" = none
  int : mg "int" = none
section
variable {P : Program} {w : World} {K : PySem.W.Frag} {mg : Str → Option Value} {base : Heap} {z : Adr}
/-! ### tests of a byte -/
def spByte (p : Nat → Bool) : Sp := fun vs H Q _ => ∃ n : Nat, vs = [.int (n : Int)] ∧ Q (.bl (p n)) H
theorem sc1 : FnScope ["byte"] ["byte"] (defScope sBlank) := ⟨rfl, rfl, rfl, by decide +kernel, rfl, by decide +kernel, by decide +kernel⟩
theorem blank_in (n : Nat) : inV (.int (n : Int)) (tv [32, 9, 10, 13]) = Vaarrc.blank n := by
  have e : ∀ k : Nat, ((k : Int) == (n : Int)) = (n == k) := fun k => by
    by_cases z : n = k
    · subst z; simp
    · have z' : ¬ (k : Int) = (n : Int) := by omega
      rw [beq_eq_false_iff_ne.mpr z', beq_eq_false_iff_ne.mpr z]
  show ([V.int (32 : Nat), V.int (9 : Nat), V.int (10 : Nat), V.int (13 : Nat)].any fun y => eqV y (.int (n : Int))) = _
  simp only [List.any_cons, List.any_nil, eqV, Bool.or_false]
  rw [e, e, e, e]
  rfl
theorem ok_blank {f : Addr} {fd : FuncData} (F : Fun K "is_blank" "is_blank" sBlank f fd) (T : Txt K mg z) : FnOk P w K mg base (CXE P w) 1 f fd ["byte"] (spByte Vaarrc.blank) := by
  refine F.okX sc1 (fun vs H Q E h => ?_) (fun cdv A outer s H vs Q E hr h => ?_)
  · obtain ⟨n, rfl, _⟩ := h; rfl
  · obtain ⟨n, rfl, q⟩ := h
    refine ⟨_, pss_one (ps_ret (pe_cmpR op_in_seq (pv 0) (pe_glob (v := .ref z.aB) rfl T.mB rfl) (by with_unfolding_all rfl))), ?_⟩
    refine ⟨_, rfl, z.aB, tv [32, 9, 10, 13], rfl, .inr (T.vB _), rfl, rfl, ?_⟩
    show Q (.bl (inV (.int (n : Int)) (tv [32, 9, 10, 13]))) H
    rw [blank_in]
    exact q
theorem sc2 : FnScope ["byte"] ["byte"] (defScope sLetter) := ⟨rfl, rfl, rfl, by decide +kernel, rfl, by decide +kernel, by decide +kernel⟩
theorem ok_letter {f : Addr} {fd : FuncData} (F : Fun K "is_letter" "is_letter" sLetter f fd) : FnOk P w K mg base (CXE P w) 1 f fd ["byte"] (spByte Vaarrb.letter) := by
  refine F.okX sc2 (fun vs H Q E h => ?_) (fun cdv A outer s H vs Q E hr h => ?_)
  · obtain ⟨n, rfl, _⟩ := h; rfl
  · obtain ⟨n, rfl, q⟩ := h
    refine ⟨_, pss_one (ps_ret (pe_or (pe_chain op_le op_le pe_int (pv 0) pe_int) (pe_one (pe_chain op_le op_le pe_int (pv 0) pe_int)))), ?_⟩
    have key : ∀ (lo hi : Nat) (R : V → Hp → Prop), R (.bl (decide (lo ≤ n ∧ n ≤ hi))) H → tChain (rI0 fun i j => .bl (decide (i ≤ j))) (rI0 fun i j => .bl (decide (i ≤ j))) (tC (.int (lo : Int))) (tVar 0) (tC (.int (hi : Int))) [some (.int (n : Int))] H R := fun lo hi R r => by
      refine ⟨_, rfl, _, _, rfl, rfl, _, rfl, ite2 (fun c => ?_) fun c => ?_⟩
      · have c' : lo ≤ n := by have := of_decide_eq_true c; omega
        refine ⟨_, _, rfl, rfl, ?_⟩
        have e : decide ((n : Int) ≤ (hi : Int)) = decide (lo ≤ n ∧ n ≤ hi) := decide_eq_decide.mpr ⟨fun y => ⟨c', by omega⟩, fun y => by omega⟩
        show R (.bl (decide ((n : Int) ≤ (hi : Int)))) H
        rw [e]; exact r
      · have c' : ¬ lo ≤ n := fun y => c (decide_eq_true (by omega))
        rw [decide_eq_false (fun y => c' y.1)] at r
        exact r
    refine key 65 90 _ ⟨_, rfl, ite2 (fun c => ?_) fun c => key 97 122 _ ?_⟩
    · have e : Vaarrb.letter n = true := decide_eq_true (.inl (of_decide_eq_true c))
      rw [e] at q; exact q
    · have e : Vaarrb.letter n = decide (97 ≤ n ∧ n ≤ 122) := decide_eq_decide.mpr ⟨fun y => y.elim (fun y => absurd (decide_eq_true y) c) fun y => y, .inr⟩
      rw [e] at q; exact q
theorem sc3 : FnScope ["byte"] ["byte"] (defScope sDigit) := ⟨rfl, rfl, rfl, by decide +kernel, rfl, by decide +kernel, by decide +kernel⟩
theorem ok_digit {f : Addr} {fd : FuncData} (F : Fun K "is_digit" "is_digit" sDigit f fd) : FnOk P w K mg base (CXE P w) 1 f fd ["byte"] (spByte Vaarrb.digit) := by
  refine F.okX sc3 (fun vs H Q E h => ?_) (fun cdv A outer s H vs Q E hr h => ?_)
  · obtain ⟨n, rfl, _⟩ := h; rfl
  · obtain ⟨n, rfl, q⟩ := h
    refine ⟨_, pss_one (ps_ret (pe_chain op_le op_le pe_int (pv 0) pe_int)), ?_⟩
    refine ⟨_, rfl, _, _, rfl, rfl, _, rfl, ite2 (fun c => ?_) fun c => ?_⟩
    · have c' : 48 ≤ n := by have := of_decide_eq_true c; omega
      refine ⟨_, _, rfl, rfl, ?_⟩
      have e : decide ((n : Int) ≤ 57) = Vaarrb.digit n := decide_eq_decide.mpr ⟨fun y => ⟨c', by omega⟩, fun y => by omega⟩
      show Q (.bl (decide ((n : Int) ≤ 57))) H
      rw [e]; exact q
    · have e : Vaarrb.digit n = false := decide_eq_false (fun y => c (decide_eq_true (by omega)))
      rw [e] at q; exact q
/-- a function that tests a byte -/
def IsTest (P : Program) (w : World) (K : PySem.W.Frag) (mg : Str → Option Value) (base : Heap) (g : Addr) (p : Nat → Bool) : Prop :=
  ∃ fd, FnOk P w K mg base (CXE P w) 1 g fd ["byte"] (spByte p) ∧ Binds K fd ["byte"] [] ∧ PySem.W.keepIn K (.ref g) = true
/-! ### runs -/
def spRun (P : Program) (w : World) (K : PySem.W.Frag) (mg : Str → Option Value) (base : Heap) : Sp := fun vs H Q _ => ∃ (a g : Addr) (t : List Nat) (i : Nat) (p : Nat → Bool), vs = [.ref a, .int (i : Int), .ref g] ∧ SqL K H a (tv t) ∧ i ≤ t.length ∧ IsTest P w K mg base g p ∧ Q (.int (pastRun p t i : Nat)) H
theorem sc4 : FnScope ["text", "place", "belongs"] ["text", "place", "belongs"] (defScope sRun) := ⟨rfl, rfl, rfl, by decide +kernel, rfl, by decide +kernel, by decide +kernel⟩
theorem ok_run {f : Addr} {fd : FuncData} (F : Fun K "past_run" "past_run" sRun f fd) (T : Txt K mg z) : FnOk P w K mg base (CXE P w) 2 f fd ["text", "place", "belongs"] (spRun P w K mg base) := by
  refine F.okX sc4 (fun vs H Q E h => ?_) (fun cdv A outer s H vs Q E hr h => ?_)
  · obtain ⟨a, g, t, i, p, rfl, _⟩ := h; rfl
  · obtain ⟨a, g, t, i, p, rfl, hS, hi, ⟨fg, Fg, bg, kg⟩, q⟩ := h
    refine ⟨_, pss_cons (ps_while ownX (pw_and (pt_cmpR op_lt (pv 1) (pe_callB call_len_seq (by rfl) T.len PySem.boot_len (pa_cons (pv 0) pa_nil)) (nomark _))
      (pw_and1 (pt_val (pe_callV (CX := CXE P w) (ps := ["byte"]) hr (i := 2) rfl (Or.inl rfl) passE (pa_cons (pe_ix ix_list (pv 0) (pv 1) (fun _ _ => rfl)) pa_nil))))).pt
      (pss_one (ps_set (i := 1) sc4.nd rfl (Or.inl rfl) (pe_op op_add (pv 1) pe_int)))) (pss_one (ps_ret (pv 1))), ?_⟩
    refine ⟨fun m σ H' => ∃ j : Nat, m = t.length - j ∧ σ = [some (.ref a), some (.int (j : Int)), some (.ref g)] ∧ H' = H ∧ j ≤ t.length ∧ pastRun p t j = pastRun p t i, ⟨_, i, rfl, rfl, rfl, hi, rfl⟩, ?_⟩
    rintro m σ H' ⟨j, rfl, rfl, rfl, hj, ej⟩
    refine ⟨_, rfl, _, rfl, a, tv t, rfl, .inl hS, _, _, rfl, rfl, _, rfl, ite2 (fun c => ?_) fun c => ?_⟩
    · have c' : j < t.length := by have := of_decide_eq_true c; rw [tv_len] at this; omega
      obtain ⟨x, hx⟩ : ∃ x, t[j]? = some x := ⟨_, List.getElem?_eq_getElem c'⟩
      refine ⟨g, spByte p, fg, rfl, Fg, bg, kg, _, rfl, _, rfl, a, tv t, (j : Int), .int (x : Int), rfl, rfl, hS, atI_nat (tv_get hx), x, rfl, _, rfl, ite2 (fun d => ?_) fun d => ?_⟩
      · refine ⟨fun σ' H'' => σ' = [some (.ref a), some (.int ((j + 1 : Nat) : Int)), some (.ref g)] ∧ H'' = H', fun σ' H'' ⟨e1, e2⟩ => ⟨t.length - (j + 1), by omega, j + 1, rfl, e1, e2, c', (pastRun_in hx d).symm.trans ej⟩, ?_⟩
        refine ⟨_, rfl, _, _, rfl, rfl, ?_, rfl⟩
        show [some (V.ref a), some (V.int ((j : Int) + 1)), some (V.ref g)] = _
        rfl
      · have e := pastRun_out hx (show p x = false by simpa using d)
        refine ⟨_, rfl, ?_⟩
        show Q (.int (j : Int)) H'
        rw [← e, ej]; exact q
    · have c' : j = t.length := by
        have : ¬ ((j : Int) < (t.length : Int)) := fun y => c (decide_eq_true (by rw [tv_len]; exact y))
        omega
      have e := pastRun_end (p := p) (t := t) (i := j) (by omega)
      refine ⟨_, rfl, ?_⟩
      show Q (.int (j : Int)) H'
      rw [← e, ej]; exact q
end
end Rk

set_option Elab.async false
set_option linter.all false
set_option maxRecDepth 100000
namespace Rk
open PySem PySem.Spec PyProof.Rows L2 Rx
/-- a def of the module -/
structure Df (K : PySem.W.Frag) (mg : Str → Option Value) (x : Str) (st : Stmt) (ps : List Str) (f : Addr) (fd : FuncData) : Prop where
  fn : Fun K x x st f fd
  bd : Binds K fd ps []
  at_ : mg x = some (.ref f)
theorem Same.upd {H H' : Hp} {l : Addr} {o : HO} (s : Same H H') (n : H' l = none) : Same H (upd H' l o) := fun b u e => by
  rw [upd_ne (ne_of_none (s b u e) n)]
  exact s b u e
/-! ### lists of codes compared -/
abbrev pd (t : List Nat) : List PyData := t.map fun (n : Nat) => PyData.int (n : Int)
theorem dpAll {K : PySem.W.Frag} {H : Hp} : ∀ t : List Nat, DpAll K H (tv t) (pd t)
  | [] => .nil
  | n :: r => .cons (.int _) (dpAll r)
theorem dpL {K : PySem.W.Frag} {H : Hp} {l : Addr} {t : List Nat} (h : SqL K H l (tv t)) : Dp K H (.ref l) (.list (pd t)) := .lst h (dpAll t)
theorem canAll : ∀ t : List Nat, PyData.canLayAll0 (pd t) = true
  | [] => rfl
  | n :: r => by
    show (PyData.canLay0 (PyData.int (n : Int)) && PyData.canLayAll0 (pd r)) = true
    rw [canAll r]; rfl
theorem depAll : ∀ t : List Nat, PyData.depthAll (pd t) ≤ 1
  | [] => by simp [PyData.depthAll]
  | n :: r => by
    have h := depAll r
    show max (PyData.depth (PyData.int (n : Int))) (PyData.depthAll (pd r)) ≤ 1
    have : PyData.depth (PyData.int (n : Int)) ≤ 1 := by simp [PyData.depth]
    omega
theorem shapedL (t : List Nat) : SeqAt.shaped (.list (pd t)) = true := by
  unfold SeqAt.shaped
  rw [Bool.and_eq_true]
  refine ⟨canAll t, decide_eq_true ?_⟩
  have := depAll t
  simp only [PyData.depth]
  omega
theorem eqvAll : ∀ s t : List Nat, PyData.eqvAll (pd s) (pd t) = (s == t)
  | [], [] => rfl
  | [], _ :: _ => rfl
  | _ :: _, [] => rfl
  | a :: s, b :: t => by
    have h := eqvAll s t
    show (PyData.eqv (.int (a : Int)) (.int (b : Int)) && PyData.eqvAll (pd s) (pd t)) = ((a :: s) == (b :: t))
    rw [h]
    have e : PyData.eqv (.int (a : Int)) (.int (b : Int)) = (a == b) := by
      show ((a : Int) == (b : Int)) = (a == b)
      by_cases z : a = b
      · subst z; simp
      · have z' : ¬ (a : Int) = (b : Int) := by omega
        rw [beq_eq_false_iff_ne.mpr z', beq_eq_false_iff_ne.mpr z]
    rw [e]
    rfl
theorem eqvL (s t : List Nat) : PyData.eqv (.list (pd s)) (.list (pd t)) = (s == t) := eqvAll s t
/-- a slice -/
theorem cutL (t : List Nat) {i j : Nat} (hi : i ≤ t.length) (hij : i ≤ j) : cutV (tv t) (some (i : Int)) (some (j : Int)) = tv (cut t i j) := by
  unfold cutV cut
  rw [HT.sIx_nat, HT.sIx_nat, tv_len, Nat.min_eq_left hi, ← List.map_drop, ← List.map_take]
  by_cases h : j ≤ t.length
  · rw [Nat.min_eq_left h]
  · rw [Nat.min_eq_right (by omega)]
    congr 1
    rw [List.take_of_length_le (by rw [List.length_drop]; omega), List.take_of_length_le (by rw [List.length_drop]; omega)]
section
variable {P : Program} {w : World} {K : PySem.W.Frag} {mg : Str → Option Value} {base : Heap} {z : Adr}
/-! ### bytes_of -/
def spBytes : Sp := fun vs H Q _ => ∃ x : Str, vs = [.str x] ∧ x.length ≤ 1000 ∧ ∀ l, H l = none → Q (.ref l) (upd H l (.lst (tv (cp x))))
theorem sc5 : FnScope ["name", "letter"] ["name"] (defScope sBytes) := ⟨rfl, rfl, rfl, by decide +kernel, rfl, by decide +kernel, by decide +kernel⟩
theorem take_snoc {α : Type} : ∀ {l : List α} {i : Nat} {x : α}, l[i]? = some x → l.take (i + 1) = l.take i ++ [x]
  | [], i, x, h => by simp at h
  | a :: l, 0, x, h => by
    have e : a = x := Option.some.inj h
    subst e
    rfl
  | a :: l, i + 1, x, h => by
    have ih := take_snoc (l := l) (i := i) (x := x) h
    show a :: l.take (i + 1) = a :: l.take i ++ [x]
    rw [ih]
    rfl
theorem ok_bytes {f : Addr} {fd : FuncData} (F : Fun K "bytes_of" "bytes_of" sBytes f fd) (T : Txt K mg z) : FnOk P w K mg base (CXE P w) 1 f fd ["name"] spBytes := by
  refine F.okX sc5 (fun vs H Q E h => ?_) (fun cdv A outer s H vs Q E hr h => ?_)
  · obtain ⟨x, rfl, _⟩ := h; rfl
  · obtain ⟨x, rfl, hx, q⟩ := h
    refine ⟨_, pss_one (ps_ret (pe_lc (own := [("letter", 1)]) rfl sc5.nd (pi_str (pv 0)) (blkOk_by (by first | rfl | kernel_rfl)) (fun _ _ _ _ _ => pg_name (i := 1) sc5.nd rfl (Or.inl rfl)) (fun _ _ _ _ _ => pts_nil)
      (fun _ _ _ _ _ => pe_callB call_ord (by rfl) T.ord PyProof.Rows.boot_ord (pa_cons (pv 1) pa_nil)))), ?_⟩
    refine ⟨_, rfl, x, rfl, fun D hD => lc_str (fun i H' => H' = upd H D (.lst (tv ((cp x).take i)))) ?_ ?_ ?_⟩
    · rw [List.take_zero]; rfl
    · rintro i c H' hc rfl
      refine ⟨rfl, _, rfl, ⟨#[c]⟩, rfl, rfl, _, upd_same, ?_, ?_⟩
      · rw [tv_len, List.length_take]
        have l1 : (cp x).length ≤ 1000 := by
          have : x.length = (cp x).length := by simp [Str.length]
          omega
        exact small1000 (by omega)
      · rw [upd_upd]
        have hc' : (cp x)[i]? = some c := by rw [← hc]; simp
        rw [take_snoc hc']
        show upd H D (.lst (tv ((cp x).take i) ++ [V.int ((#[c] : Array Nat).getD 0 0 : Nat)])) = _
        rw [show tv ((cp x).take i ++ [c]) = tv ((cp x).take i) ++ tv [c] from List.map_append]
        rfl
    · rintro H' rfl
      have e : (cp x).take x.cps.size = cp x := List.take_of_length_le (by simp)
      rw [e]
      exact q D hD
/-! ### past_modifier_word -/
def spAt (g : List Nat → Nat → Nat) (K : PySem.W.Frag) : Sp := fun vs H Q _ => ∃ (a : Addr) (t : List Nat) (i : Nat), vs = [.ref a, .int (i : Int)] ∧ SqL K H a (tv t) ∧ i < t.length ∧ Q (.int (g t i : Nat)) H
theorem sc6 : FnScope ["text", "place", "end"] ["text", "place"] (defScope sModW) := ⟨rfl, rfl, rfl, by decide +kernel, rfl, by decide +kernel, by decide +kernel⟩
theorem ok_modw {f fR fL : Addr} {fd fdR fdL : FuncData} (F : Fun K "past_modifier_word" "past_modifier_word" sModW f fd) (T : Txt K mg z) (DR : Df K mg "past_run" sRun ["text", "place", "belongs"] fR fdR) (DL : Df K mg "is_letter" sLetter ["byte"] fL fdL) :
    FnOk P w K mg base (CXE P w) 3 f fd ["text", "place"] (spAt pastMod K) := by
  have GR : FnOk P w K mg base (CXE P w) 2 fR fdR _ _ := ok_run DR.fn T
  have GL : FnOk P w K mg base (CXE P w) 1 fL fdL _ _ := ok_letter DL.fn
  refine F.okX sc6 (fun vs H Q E h => ?_) (fun cdv A outer s H vs Q E hr h => ?_)
  · obtain ⟨a, t, i, rfl, _⟩ := h; rfl
  · obtain ⟨a, t, i, rfl, hS, hi, q⟩ := h
    refine ⟨_, pss_cons (ps_set (i := 2) sc6.nd rfl (Or.inl rfl) (pe_call GR hr rfl DR.at_ DR.fn.kp DR.bd .nil passE (pa_cons (pv 0) (pa_cons (pe_op op_add (pv 1) pe_int) (pa_cons (pe_glob (v := .ref fL) rfl DL.at_ rfl) pa_nil)))))
      (pss_cons (ps_if (pt_cmpR op_eq (pv 2) (pe_op op_add (pv 1) pe_int) (nomark _)) (pss_one (ps_ret (pv 1))) pss_nil) (pss_one (ps_ret (pv 2)))), ?_⟩
    refine ⟨_, rfl, _, rfl, _, _, rfl, rfl, a, fL, t, i + 1, Vaarrb.letter, rfl, hS, hi, ⟨fdL, GL, DL.bd, DL.fn.kp⟩, ?_⟩
    refine ⟨_, rfl, _, rfl, _, _, rfl, rfl, rfl, _, rfl, ite2 (fun c => ?_) fun c => ?_⟩
    · refine ⟨_, rfl, ?_⟩
      have c' : pastRun Vaarrb.letter t (i + 1) = i + 1 := by have := V.int.inj (of_decide_eq_true c); omega
      have e : pastMod t i = i := if_pos c'
      rw [e] at q; exact q
    · refine ⟨_, rfl, ?_⟩
      have c' : ¬ pastRun Vaarrb.letter t (i + 1) = i + 1 := fun y => c (decide_eq_true (by rw [y]; rfl))
      have e : pastMod t i = pastRun Vaarrb.letter t (i + 1) := if_neg c'
      rw [e] at q; exact q
/-! ### past_sign -/
def spAtN (g : List Nat → Nat → Nat) (K : PySem.W.Frag) : Sp := fun vs H Q _ => ∃ (a : Addr) (t : List Nat) (i : Nat), vs = [.ref a, .int (i : Int)] ∧ SqL K H a (tv t) ∧ i ≤ t.length ∧ ∀ H', Same H H' → Q (.int (g t i : Nat)) H'
theorem sc7 : FnScope ["text", "place", "sign", "end"] ["text", "place"] (defScope sSign) := ⟨rfl, rfl, rfl, by decide +kernel, rfl, by decide +kernel, by decide +kernel⟩
theorem find_take {α : Type} (p : α → Bool) : ∀ (l : List α) (i : Nat) (x : α), l[i]? = some x → (∀ y ∈ l.take i, p y = false) → p x = true → l.find? p = some x
  | [], i, x, h, _, _ => by simp at h
  | a :: l, 0, x, h, _, hp => by
    have e : a = x := Option.some.inj h
    subst e
    rw [List.find?_cons, hp]
  | a :: l, i + 1, x, h, hn, hp => by
    rw [List.find?_cons, hn a (by simp)]
    exact find_take p l i x h (fun y hy => hn y (by rw [List.take_succ_cons]; exact List.mem_cons_of_mem _ hy)) hp
theorem find_none {α : Type} (p : α → Bool) (l : List α) (h : ∀ y ∈ l, p y = false) : l.find? p = none := List.find?_eq_none.mpr fun x hx => by rw [h x hx]; exact Bool.false_ne_true
theorem ok_sign {f fY : Addr} {fd fdY : FuncData} (F : Fun K "past_sign" "past_sign" sSign f fd) (T : Txt K mg z) (DY : Df K mg "bytes_of" sBytes ["name"] fY fdY) : FnOk P w K mg base (CXE P w) 2 f fd ["text", "place"] (spAtN pastSign K) := by
  have GY : FnOk P w K mg base (CXE P w) 1 fY fdY _ _ := ok_bytes DY.fn T
  refine F.okX sc7 (fun vs H Q E h => ?_) (fun cdv A outer s H vs Q E hr h => ?_)
  · obtain ⟨a, t, i, rfl, _⟩ := h; rfl
  · obtain ⟨a, t, i, rfl, hS, hi, q⟩ := h
    refine ⟨_, pss_cons (ps_for ownX rfl (pi_tup (pe_glob (v := .ref z.aS) rfl T.mS rfl)) (pg_name (i := 2) sc7.nd rfl (Or.inl rfl))
      (pss_cons (ps_set (i := 3) sc7.nd rfl (Or.inl rfl) (pe_op op_add (pv 1) (pe_callB call_len_str (by rfl) T.len PySem.boot_len (pa_cons (pv 2) pa_nil))))
      (pss_one (ps_if (pt_cmpR (op_eqD hr.units) (pe_slice sl_list (pv 0) (po_some (pv 1)) (po_some (pv 3))) (pe_call GY hr rfl DY.at_ DY.fn.kp DY.bd .nil passE (pa_cons (pv 2) pa_nil)) (nomark _)) (pss_one (ps_ret (pv 3))) pss_nil))))
      (pss_one (ps_ret (pv 1))), ?_⟩
    refine ⟨z.aS, rfl, ⟨_, T.vS _⟩, for_tup (K := K) (a := z.aS) (xs := signS.map V.str) (fun j σ H' => ∃ v2 v3 : Option V, σ = [some (.ref a), some (.int (i : Int)), v2, v3] ∧ Same H H' ∧ ∀ y ∈ signs.take j, ((t.drop i).take y.length == y) = false)
      ⟨none, none, rfl, Same.refl H, fun y hy => by simp at hy⟩ (fun j σ H' _ _ => T.vS H') ?_ ?_⟩
    · rintro j x σ H' hj ⟨v2, v3, rfl, s1, hn⟩
      obtain ⟨g, hg, rfl⟩ : ∃ g, signS[j]? = some g ∧ x = V.str g := by
        rw [List.getElem?_map] at hj
        cases e : signS[j]? with
        | none => rw [e] at hj; cases hj
        | some g => rw [e] at hj; exact ⟨g, rfl, (Option.some.inj hj).symm⟩
      have hg2 : signs[j]? = some (cp g) := by rw [← signS_tl, List.getElem?_map, hg]; rfl
      have gl : g.length = (cp g).length := by simp [Str.length]
      have gs : g.length ≤ 2 := by
        have : ∀ y ∈ signs, y.length ≤ 2 := by decide
        rw [gl]; exact this _ (List.mem_of_getElem? hg2)
      refine ⟨_, rfl, _, rfl, g, rfl, Nat.le_of_lt (small1000 (by omega)), _, _, rfl, rfl, ?_⟩
      refine ⟨_, rfl, _, rfl, _, rfl, _, rfl, _, rfl, a, _, rfl, s1.seq hS, fun p hp => ?_⟩
      rw [show ((i : Int) + (g.length : Int)) = ((i + g.length : Nat) : Int) by omega]
      have ce : cut t i (i + g.length) = (t.drop i).take (cp g).length := by unfold cut; rw [gl]; congr 1; omega
      rw [cutL t hi (by omega), ce]
      have s2 : Same H (upd H' p (.lst (tv ((t.drop i).take (cp g).length)))) := Same.upd s1 hp
      refine ⟨_, rfl, g, rfl, by omega, fun l hl => ?_⟩
      have np : l ≠ p := fun y => by rw [y, upd_same] at hl; cases hl
      have s3 := Same.upd (o := .lst (tv (cp g))) s2 hl
      refine ⟨_, _, dpL (SqL.of (by rw [upd_ne np.symm]; exact upd_same)), dpL (SqL.of upd_same), shapedL _, shapedL _, _, rfl, ?_⟩
      rw [eqvL]
      refine ite2 (fun c => ?_) fun c => ?_
      · refine ⟨_, rfl, ?_⟩
        have f := find_take (fun s : List Nat => (t.drop i).take s.length == s) signs j _ hg2 hn c
        have e : pastSign t i = i + g.length := by unfold pastSign; rw [f, gl]
        have q' := q _ s3
        rw [e] at q'
        exact q'
      · refine ⟨_, _, rfl, s3, fun y hy => ?_⟩
        rw [take_snoc hg2] at hy
        rcases List.mem_append.mp hy with y1 | y1
        · exact hn y y1
        · rw [List.mem_singleton.mp y1]; simpa using c
    · rintro σ H' ⟨v2, v3, rfl, s1, hn⟩
      refine ⟨_, rfl, ?_⟩
      have f := find_none (fun s : List Nat => (t.drop i).take s.length == s) signs (fun y hy => hn y (by rw [List.take_of_length_le (by simp [signS, signs])]; exact hy))
      have e : pastSign t i = i := by unfold pastSign; rw [f]
      have q' := q _ s1
      rw [e] at q'
      exact q'
end
end Rk

set_option Elab.async false
set_option linter.all false
set_option maxRecDepth 100000
namespace Rk
open PySem PySem.Spec PyProof.Rows L2 Rx
section
variable {P : Program} {w : World} {K : PySem.W.Frag} {mg : Str → Option Value} {base : Heap} {z : Adr}
/-! ### past_token -/
theorem sc8 : FnScope ["text", "place", "byte"] ["text", "place"] (defScope sTok) := ⟨rfl, rfl, rfl, by decide +kernel, rfl, by decide +kernel, by decide +kernel⟩
theorem ok_tok {f fR fL fD fM fG fY : Addr} {fd fdR fdL fdD fdM fdG fdY : FuncData} (F : Fun K "past_token" "past_token" sTok f fd) (T : Txt K mg z) (DR : Df K mg "past_run" sRun ["text", "place", "belongs"] fR fdR) (DL : Df K mg "is_letter" sLetter ["byte"] fL fdL)
    (DD : Df K mg "is_digit" sDigit ["byte"] fD fdD) (DM : Df K mg "past_modifier_word" sModW ["text", "place"] fM fdM) (DG : Df K mg "past_sign" sSign ["text", "place"] fG fdG) (DY : Df K mg "bytes_of" sBytes ["name"] fY fdY) :
    FnOk P w K mg base (CXE P w) 4 f fd ["text", "place"] (spAtN pastToken K) := by
  have GR : FnOk P w K mg base (CXE P w) 2 fR fdR _ _ := ok_run DR.fn T
  have GL : FnOk P w K mg base (CXE P w) 1 fL fdL _ _ := ok_letter DL.fn
  have GD : FnOk P w K mg base (CXE P w) 1 fD fdD _ _ := ok_digit DD.fn
  have GM : FnOk P w K mg base (CXE P w) 3 fM fdM _ _ := ok_modw DM.fn T DR DL
  have GG : FnOk P w K mg base (CXE P w) 2 fG fdG _ _ := ok_sign DG.fn T DY
  obtain ⟨tc, kc⟩ := T.kCol
  refine F.okX sc8 (fun vs H Q E h => ?_) (fun cdv A outer s H vs Q E hr h => ?_)
  · obtain ⟨a, t, i, rfl, _⟩ := h; rfl
  · obtain ⟨a, t, i, rfl, hS, hi, q⟩ := h
    have hr1 : Room 1 _ := hr.mono (by decide)
    have hr2 : Room 2 _ := hr.mono (by decide)
    refine ⟨_, pss_cons (ps_if (pt_cmpR op_eq (pv 1) (pe_callB call_len_seq (by rfl) T.len PySem.boot_len (pa_cons (pv 0) pa_nil)) (nomark _)) (pss_one (ps_ret (pv 1))) pss_nil)
      (pss_cons (ps_set (i := 2) sc8.nd rfl (Or.inl rfl) (pe_ix ix_list (pv 0) (pv 1) (fun _ _ => rfl)))
      (pss_cons (ps_if (pt_val (pe_call GL hr1 rfl DL.at_ DL.fn.kp DL.bd .nil passE (pa_cons (pv 2) pa_nil))) (pss_one (ps_ret (pe_call GR hr2 rfl DR.at_ DR.fn.kp DR.bd .nil passE (pa_cons (pv 0) (pa_cons (pv 1) (pa_cons (pe_glob (v := .ref fL) rfl DL.at_ rfl) pa_nil)))))) pss_nil)
      (pss_cons (ps_if (pt_val (pe_call GD hr1 rfl DD.at_ DD.fn.kp DD.bd .nil passE (pa_cons (pv 2) pa_nil))) (pss_one (ps_ret (pe_call GR hr2 rfl DR.at_ DR.fn.kp DR.bd .nil passE (pa_cons (pv 0) (pa_cons (pv 1) (pa_cons (pe_glob (v := .ref fD) rfl DD.at_ rfl) pa_nil)))))) pss_nil)
      (pss_cons (ps_if (pt_cmpR op_eq (pv 2) (pe_glob (v := .int 58) rfl kc ⟨_, rfl⟩) (nomark _)) (pss_one (ps_ret (pe_call GM hr rfl DM.at_ DM.fn.kp DM.bd .nil passE (pa_cons (pv 0) (pa_cons (pv 1) pa_nil))))) pss_nil)
      (pss_one (ps_ret (pe_call GG hr2 rfl DG.at_ DG.fn.kp DG.bd .nil passE (pa_cons (pv 0) (pa_cons (pv 1) pa_nil))))))))), ?_⟩
    refine ⟨_, rfl, _, rfl, a, tv t, rfl, .inl hS, rfl, _, rfl, ite2 (fun c => ?_) fun c => ?_⟩
    · refine ⟨_, rfl, ?_⟩
      have c' : i = t.length := by
        have := V.int.inj (of_decide_eq_true c)
        rw [tv_len] at this
        omega
      have e : pastToken t i = i := pt_none (List.getElem?_eq_none (by omega))
      have q' := q H (Same.refl H)
      rw [e] at q'; exact q'
    · have c' : i < t.length := by
        have : ¬ i = t.length := fun y => c (decide_eq_true (by rw [tv_len, y]))
        omega
      obtain ⟨x, hx⟩ : ∃ x, t[i]? = some x := ⟨_, List.getElem?_eq_getElem c'⟩
      refine ⟨_, rfl, _, rfl, a, tv t, (i : Int), .int (x : Int), rfl, rfl, hS, atI_nat (tv_get hx), ?_⟩
      refine ⟨_, rfl, x, rfl, _, rfl, ite2 (fun c1 => ?_) fun c1 => ?_⟩
      · refine ⟨_, rfl, _, rfl, a, fL, t, i, Vaarrb.letter, rfl, hS, hi, ⟨fdL, GL, DL.bd, DL.fn.kp⟩, ?_⟩
        have q' := q H (Same.refl H)
        rw [pt_letter hx c1] at q'; exact q'
      · refine ⟨_, rfl, x, rfl, _, rfl, ite2 (fun c2 => ?_) fun c2 => ?_⟩
        · refine ⟨_, rfl, _, rfl, a, fD, t, i, Vaarrb.digit, rfl, hS, hi, ⟨fdD, GD, DD.bd, DD.fn.kp⟩, ?_⟩
          have q' := q H (Same.refl H)
          rw [pt_digit hx c1 c2] at q'; exact q'
        · refine ⟨_, rfl, rfl, _, rfl, ite2 (fun c3 => ?_) fun c3 => ?_⟩
          · have e58 : x = 58 := by have := V.int.inj (of_decide_eq_true c3); omega
            subst e58
            refine ⟨_, rfl, _, rfl, a, t, i, rfl, hS, c', ?_⟩
            have q' := q H (Same.refl H)
            rw [pt_mod hx] at q'; exact q'
          · have n58 : ¬ x = 58 := fun y => c3 (decide_eq_true (by rw [y]; rfl))
            refine ⟨_, rfl, _, rfl, a, t, i, rfl, hS, hi, fun H' s' => ?_⟩
            have q' := q H' s'
            rw [pt_sign hx c1 c2 n58] at q'; exact q'
/-! ### Token -/
def tokF (b : Nat) (l : Addr) (e : Nat) : List (Str × V) := putF "end" (.int (e : Int)) (putF "spelling" (.ref l) (putF "begin" (.int (b : Int)) []))
theorem tokF_b (b : Nat) (l : Addr) (e : Nat) : (tokF b l e).lookup ("begin" : Str) = some (.int (b : Int)) := by
  unfold tokF
  rw [lookup_putF, if_neg (by decide +kernel), lookup_putF, if_neg (by decide +kernel), lookup_putF, if_pos rfl]
theorem tokF_s (b : Nat) (l : Addr) (e : Nat) : (tokF b l e).lookup ("spelling" : Str) = some (.ref l) := by
  unfold tokF
  rw [lookup_putF, if_neg (by decide +kernel), lookup_putF, if_pos rfl]
theorem tokF_e (b : Nat) (l : Addr) (e : Nat) : (tokF b l e).lookup ("end" : Str) = some (.int (e : Int)) := by
  unfold tokF
  rw [lookup_putF, if_pos rfl]
def spTI (C : Addr) (K : PySem.W.Frag) : Sp := fun vs H Q _ => ∃ (x dx l : Addr) (b : Nat) (sp : List Nat), vs = [.ref x, .int (b : Int), .ref l] ∧ H x = some (.ins C dx []) ∧ H l = some (.lst (tv sp)) ∧
  ∀ H', H' x = some (.ins C dx (tokF b l (b + sp.length))) → (∀ c o, H c = some o → c ≠ x → H' c = some o) → Q .non H'
theorem sc9 : FnScope ["self", "begin", "spelling"] ["self", "begin", "spelling"] (defScope sTInit) := ⟨rfl, rfl, rfl, by decide +kernel, rfl, by decide +kernel, by decide +kernel⟩
theorem ok_tinit {f : Addr} {fd : FuncData} (F : Fun K "__init__" "Token.__init__" sTInit f fd) (T : Txt K mg z) : FnOk P w K mg base (CXE P w) 1 f fd ["self", "begin", "spelling"] (spTI z.CT K) := by
  refine F.okX sc9 (fun vs H Q E h => ?_) (fun cdv A outer s H vs Q E hr h => ?_)
  · obtain ⟨x, dx, l, b, sp, rfl, _⟩ := h; rfl
  · obtain ⟨x, dx, l, b, sp, rfl, hx, hl, k⟩ := h
    have nlx : l ≠ x := ne_of hl hx (by intro y; cases y)
    refine ⟨_, pss_cons (ps_fld (pv 0) (pv 1) rfl) (pss_cons (ps_fld (pv 0) (pv 2) rfl) (pss_one (ps_fld (pv 0) (pe_op op_add (pv 1) (pe_callB call_len_seq (by rfl) T.len PySem.boot_len (pa_cons (pv 2) pa_nil))) rfl))), ?_⟩
    refine ⟨_, rfl, _, rfl, x, z.CT, dx, [], rfl, hx, T.cT, T.tb, (by show 0 < 1000; decide), ?_⟩
    refine ⟨_, rfl, _, rfl, x, z.CT, dx, _, rfl, upd_same, T.cT, T.ts, (by show 1 < 1000; decide), ?_⟩
    refine ⟨_, rfl, _, rfl, l, tv sp, rfl, .inl (SqL.of (by rw [upd_ne nlx, upd_ne nlx]; exact hl)), _, _, rfl, rfl, _, rfl, x, z.CT, dx, _, rfl, upd_same, T.cT, T.te, (by show 2 < 1000; decide), ?_⟩
    refine k _ ?_ fun c o e nc => by rw [upd_ne nc, upd_ne nc, upd_ne nc]; exact e
    rw [upd_same]
    dsimp only
    rw [show ((b : Int) + ((tv sp).length : Int)) = ((b + sp.length : Nat) : Int) by rw [tv_len]; omega]
    rfl
/-- a token object -/
def TokAt (C : Addr) (H : Hp) (x : Addr) (b : Nat) (sp : List Nat) (e : Nat) : Prop := ∃ dx l, H x = some (.ins C dx (tokF b l e)) ∧ H l = some (.lst (tv sp))
theorem TokAt.same {C : Addr} {H H' : Hp} {x : Addr} {b : Nat} {sp : List Nat} {e : Nat} (T : TokAt C H x b sp e) (s : Same H H') : TokAt C H' x b sp e :=
  let ⟨dx, l, h1, h2⟩ := T; ⟨dx, l, s _ _ h1, s _ _ h2⟩
def spFrom (C : Addr) (K : PySem.W.Frag) : Sp := fun vs H Q _ => ∃ (a : Addr) (t : List Nat) (i : Nat), vs = [.ref a, .int (i : Int)] ∧ SqL K H a (tv t) ∧ i ≤ t.length ∧
  ∀ H' x, Same H H' → H x = none → TokAt C H' x (tokB t i) (spell t i) (tokE t i) → Q (.ref x) H'
theorem sc10 : FnScope ["text", "place", "begin"] ["text", "place"] (defScope sFrom) := ⟨rfl, rfl, rfl, by decide +kernel, rfl, by decide +kernel, by decide +kernel⟩
theorem ok_from {f fR fB fK fI fL fD fM fG fY : Addr} {fd fdR fdB fdK fdI fdL fdD fdM fdG fdY : FuncData} (F : Fun K "token_from" "token_from" sFrom f fd) (T : Txt K mg z) (DR : Df K mg "past_run" sRun ["text", "place", "belongs"] fR fdR)
    (DB : Df K mg "is_blank" sBlank ["byte"] fB fdB) (DK : Df K mg "past_token" sTok ["text", "place"] fK fdK) (M : Mk K z.CT fI) (FI : Fun K "__init__" "Token.__init__" sTInit fI fdI) (bI : Binds K fdI ["self", "begin", "spelling"] [])
    (DL : Df K mg "is_letter" sLetter ["byte"] fL fdL) (DD : Df K mg "is_digit" sDigit ["byte"] fD fdD) (DM : Df K mg "past_modifier_word" sModW ["text", "place"] fM fdM) (DG : Df K mg "past_sign" sSign ["text", "place"] fG fdG) (DY : Df K mg "bytes_of" sBytes ["name"] fY fdY) :
    FnOk P w K mg base (CXE P w) 5 f fd ["text", "place"] (spFrom z.CT K) := by
  have GR : FnOk P w K mg base (CXE P w) 2 fR fdR _ _ := ok_run DR.fn T
  have GB : FnOk P w K mg base (CXE P w) 1 fB fdB _ _ := ok_blank DB.fn T
  have GK : FnOk P w K mg base (CXE P w) 4 fK fdK _ _ := ok_tok DK.fn T DR DL DD DM DG DY
  have GI : FnOk P w K mg base (CXE P w) 1 fI fdI _ _ := ok_tinit FI T
  refine F.okX sc10 (fun vs H Q E h => ?_) (fun cdv A outer s H vs Q E hr h => ?_)
  · obtain ⟨a, t, i, rfl, _⟩ := h; rfl
  · obtain ⟨a, t, i, rfl, hS, hi, q⟩ := h
    have hr2 : Room 2 _ := hr.mono (by decide)
    refine ⟨_, pss_cons (ps_set (i := 2) sc10.nd rfl (Or.inl rfl) (pe_call GR hr2 rfl DR.at_ DR.fn.kp DR.bd .nil passE (pa_cons (pv 0) (pa_cons (pv 1) (pa_cons (pe_glob (v := .ref fB) rfl DB.at_ rfl) pa_nil)))))
      (pss_one (ps_ret (pe_make M GI hr2 rfl T.mT bI .nil passE (pa_cons (pv 2) (pa_cons (pe_slice sl_list (pv 0) (po_some (pv 2)) (po_some (pe_call GK hr rfl DK.at_ DK.fn.kp DK.bd .nil passE (pa_cons (pv 0) (pa_cons (pv 2) pa_nil))))) pa_nil))))), ?_⟩
    have hb := tokB_le hi
    refine ⟨_, rfl, _, rfl, a, fB, t, i, Vaarrc.blank, rfl, hS, hi, ⟨fdB, GB, DB.bd, DB.fn.kp⟩, ?_⟩
    refine ⟨_, rfl, _, rfl, _, rfl, _, rfl, _, rfl, _, rfl, a, t, tokB t i, rfl, hS, hb, fun H1 s1 => ⟨_, rfl, a, _, rfl, s1.seq hS, fun l hl => ?_⟩⟩
    rw [show ((pastToken t (tokB t i) : Nat) : Int) = ((tokE t i : Nat) : Int) from rfl, show cutV (tv t) (some ((pastRun Vaarrc.blank t i : Nat) : Int)) (some ((tokE t i : Nat) : Int)) = tv (spell t i) from cutL t hb (tokE_ge t i)]
    intro x dx nx nd ne
    have s2 : Same H (upd H1 l (.lst (tv (spell t i)))) := Same.upd s1 hl
    have nxl : l ≠ x := fun y => by rw [← y, upd_same] at nx; cases nx
    have ndl : l ≠ dx := fun y => by rw [← y, upd_same] at nd; cases nd
    refine ⟨x, dx, l, tokB t i, spell t i, rfl, upd_same, by rw [upd_ne nxl, upd_ne ndl, upd_same], fun H3 h1 h2 => ⟨rfl, ?_⟩⟩
    have s3 : Same H H3 := s2.trans (Same.made nx nd h2)
    have hl3 : H3 l = some (.lst (tv (spell t i))) := h2 l _ (by rw [upd_ne nxl, upd_ne ndl, upd_same]) nxl
    refine q H3 x s3 (s2.free nx) ⟨dx, l, ?_, hl3⟩
    rw [h1, spell_length hi]
    have := tokE_ge t i
    rw [show tokB t i + (tokE t i - tokB t i) = tokE t i by omega]
end
end Rk

set_option Elab.async false
set_option linter.all false
set_option maxRecDepth 100000
namespace Rk
open PySem PySem.Spec PyProof.Rows L2 Rx
theorem lkPlace : typeLookup (.type "Exception") "place" = pure none := by rw [typeLookup_type, builtinLookup_eq_fast]; kernel_rfl
theorem sqT_same {K : PySem.W.Frag} {H H' : Hp} {a : Addr} {xs : List V} (e : Same H H') (h : SqT K H a xs) : SqT K H' a xs := by
  rcases h with (h | ⟨o, h⟩) | h
  · exact .inl (.inl (e _ _ h))
  · exact .inl (.inr ⟨o, e _ _ h⟩)
  · exact .inr h
section
variable {P : Program} {w : World} {K : PySem.W.Frag} {mg : Str → Option Value} {base : Heap} {z : Adr}
/-! ### NoFunction -/
def spXI (C : Addr) : Sp := fun vs H Q _ => ∃ (e : Addr) (v : V), vs = [.ref e, v] ∧ H e = some (XF C e none) ∧ ∀ dx, H dx = none → dx ≠ e → Q .non (upd (upd H dx (.xd [("place", v)])) e (XF C e (some dx)))
theorem sc11 : FnScope ["self", "place"] ["self", "place"] (defScope sXInit) := ⟨rfl, rfl, rfl, by decide +kernel, rfl, by decide +kernel, by decide +kernel⟩
theorem ok_xinit {f : Addr} {fd : FuncData} (F : Fun K "__init__" "NoFunction.__init__" sXInit f fd) (T : Txt K mg z) : FnOk P w K mg base (CXE P w) 1 f fd ["self", "place"] (spXI z.CN) := by
  refine F.okX sc11 (fun vs H Q E h => ?_) (fun cdv A outer s H vs Q E hr h => ?_)
  · obtain ⟨e, v, rfl, _⟩ := h; rfl
  · obtain ⟨e, v, rfl, he, k⟩ := h
    refine ⟨_, pss_cons (ps_expr (pe_initX rfl T.mE (pa_cons (pv 0) pa_nil))) (pss_one (ps_setX (pv 0) (pv 1) lkPlace rfl)), ?_⟩
    refine ⟨_, rfl, e, z.CN, z.NN, none, rfl, he, T.xn, ?_⟩
    exact ⟨_, rfl, _, rfl, e, z.CN, z.NN, rfl, he, T.xn, T.np, T.ns, fun dx h1 h2 => k dx h1 h2⟩
/-- what a def that raises NoFunction leaves -/
def Raised (C : Addr) (E : XK) (H : Hp) (p : Nat) : Prop := ∀ H' dx, Same H H' → H' dx = some (.xd [("place", .int (p : Int))]) → E (.ref C) (some dx) H'
structure DX (K : PySem.W.Frag) (z : Adr) (f : Addr) (fd : FuncData) : Prop where
  fn : Fun K "__init__" "NoFunction.__init__" sXInit f fd
  bd : Binds K fd ["self", "place"] []
  at_ : PySem.W.nsIn K z.NN "__init__" = some (some (.ref f))
  obj : ∃ o, K.lookup f = some o ∧ o.cls = .type "function"
theorem raise_reads {C : Addr} {E : XK} {H H1 : Hp} {p : Nat} (r : Raised C E H p) (s : Same H H1) (e : Addr) (he : H1 e = none) :
    spXI C (.ref e :: [.int (p : Int)]) (upd H1 e (XF C e none)) (fun v H2 => v = .non ∧ ∃ dx, H2 e = some (XF C e dx) ∧ E (.ref C) dx (drp H2 e)) E0 := by
  refine ⟨e, _, rfl, upd_same, fun dx n1 n2 => ⟨rfl, some dx, upd_same, ?_⟩⟩
  have n0 : H1 dx = none := by rw [upd_ne n2] at n1; exact n1
  refine r _ dx (fun b o h => ?_) ?_
  · have h' := s b o h
    have b1 : b ≠ e := ne_of_none h' he
    have b2 : b ≠ dx := ne_of_none h' n0
    rw [drp_ne b1, upd_ne b1, upd_ne b2, upd_ne b1]
    exact h'
  · rw [drp_ne n2, upd_ne n2, upd_same]
/-! ### name_among -/
def spName (z : Adr) (K : PySem.W.Frag) : Sp := fun vs H Q E => ∃ (n x : Addr) (ws : List Str) (b e : Nat) (sp : List Nat), vs = [.ref n, .ref x] ∧ SqT K H n (ws.map V.str) ∧ (∀ u ∈ ws, u.length ≤ 1000) ∧ TokAt z.CT H x b sp e ∧
  (sp ∈ ws.map cp → ∀ H', Same H H' → Q (.str ⟨sp.toArray⟩) H') ∧ (sp ∉ ws.map cp → Raised z.CN E H b)
theorem sc12 : FnScope ["names", "token", "name"] ["names", "token"] (defScope sName) := ⟨rfl, rfl, rfl, by decide +kernel, rfl, by decide +kernel, by decide +kernel⟩
theorem cp_mk (x : Str) : (⟨(cp x).toArray⟩ : Str) = x := by
  obtain ⟨⟨l⟩⟩ := x
  rfl
theorem ok_name {f fY fX : Addr} {fd fdY fdX : FuncData} (F : Fun K "name_among" "name_among" sName f fd) (T : Txt K mg z) (DY : Df K mg "bytes_of" sBytes ["name"] fY fdY) (X : DX K z fX fdX) : FnOk P w K mg base (CXE P w) 3 f fd ["names", "token"] (spName z K) := by
  have GY : FnOk P w K mg base (CXE P w) 1 fY fdY _ _ := ok_bytes DY.fn T
  have GX : FnOk P w K mg base (CXE P w) 1 fX fdX _ _ := ok_xinit X.fn T
  refine F.okX sc12 (fun vs H Q E h => ?_) (fun cdv A outer s H vs Q E hr h => ?_)
  · obtain ⟨n, x, ws, b, e, sp, rfl, _⟩ := h; rfl
  · obtain ⟨n, x, ws, b, e, sp, rfl, hN, hw, hT, q, qe⟩ := h
    have hr1 : Room 1 _ := hr.mono (by decide)
    refine ⟨_, pss_cons (ps_for ownX rfl (pi_tup (pv 0)) (pg_name (i := 2) sc12.nd rfl (Or.inl rfl))
      (pss_one (ps_if (pt_cmpR (op_eqD hr.units) (pe_call GY hr1 rfl DY.at_ DY.fn.kp DY.bd .nil passE (pa_cons (pv 2) pa_nil)) (pe_fld (pv 1) rfl) (nomark _)) (pss_one (ps_ret (pv 2))) pss_nil)))
      (pss_one (ps_raiseI rfl rfl T.xn X.at_ X.obj GX hr rfl T.mN X.bd (by decide) passE throwX (pa_cons (pe_fld (pv 1) rfl) pa_nil))), ?_⟩
    refine ⟨_, rfl, n, rfl, ⟨_, hN⟩, for_tup (K := K) (a := n) (xs := ws.map V.str) (fun j σ H' => ∃ v2 : Option V, σ = [some (.ref n), some (.ref x), v2] ∧ Same H H' ∧ ∀ y ∈ ws.take j, cp y ≠ sp)
      ⟨none, rfl, Same.refl H, fun y hy => by simp at hy⟩ (fun j σ H' _ ⟨_, _, s1, _⟩ => sqT_same s1 hN) ?_ ?_⟩
    · rintro j v σ H' hj ⟨v2, rfl, s1, hn⟩
      obtain ⟨g, hg, rfl⟩ : ∃ g, ws[j]? = some g ∧ v = V.str g := by
        rw [List.getElem?_map] at hj
        cases e : ws[j]? with
        | none => rw [e] at hj; cases hj
        | some g => rw [e] at hj; exact ⟨g, rfl, (Option.some.inj hj).symm⟩
      have gm : g ∈ ws := List.mem_of_getElem? hg
      obtain ⟨dx, l, t1, t2⟩ := hT.same s1
      refine ⟨_, rfl, g, rfl, hw g gm, fun p hp => ?_⟩
      have s2 : Same H (upd H' p (.lst (tv (cp g)))) := Same.upd s1 hp
      have nx : x ≠ p := ne_of_none t1 hp
      have nl : l ≠ p := ne_of_none t2 hp
      refine ⟨_, rfl, x, z.CT, dx, _, .ref l, rfl, by rw [upd_ne nx]; exact t1, T.cT, T.ts, tokF_s _ _ _, ?_⟩
      refine ⟨_, _, dpL (SqL.of upd_same), dpL (SqL.of (by rw [upd_ne nl]; exact t2)), shapedL _, shapedL _, _, rfl, ?_⟩
      rw [eqvL]
      refine ite2 (fun c => ?_) fun c => ?_
      · refine ⟨_, rfl, ?_⟩
        have e' := eq_of_beq c
        have q' := q (by rw [← e']; exact List.mem_map_of_mem gm) _ s2
        rw [← e', cp_mk] at q'
        exact q'
      · refine ⟨_, rfl, s2, fun y hy => ?_⟩
        rw [take_snoc hg] at hy
        rcases List.mem_append.mp hy with y1 | y1
        · exact hn y y1
        · rw [List.mem_singleton.mp y1]
          exact fun y2 => c (by rw [y2]; exact beq_self_eq_true _)
    · rintro σ H' ⟨v2, rfl, s1, hn⟩
      rw [List.length_map, List.take_length] at hn
      obtain ⟨dx, l, t1, t2⟩ := hT.same s1
      refine ⟨_, rfl, x, z.CT, dx, _, .int (b : Int), rfl, t1, T.cT, T.tb, tokF_b _ _ _, fun e' he' => ?_⟩
      exact raise_reads (qe (fun y => by obtain ⟨u, hu, eu⟩ := List.mem_map.mp y; exact hn u hu eu)) s1 e' he'
end
end Rk

set_option Elab.async false
set_option linter.all false
set_option maxRecDepth 100000
namespace Rk
open PySem PySem.Spec PyProof.Rows L2 Rx
open Vaarrc (Mod readMods readFun)
/-! ### modifiers as they lie -/
def modWord : Mod → List Nat
  | .fold => Vaarrc.str ":fold"
  | .scan => Vaarrc.str ":scan"
  | .table => Vaarrc.str ":table"
  | .swap => Vaarrc.str ":swap"
  | .at_ _ => Vaarrc.str ":at"
def modRank : Mod → V
  | .at_ k => .int (k : Int)
  | _ => .non
abbrev modV (m : Mod) : List V := [.str ⟨(modWord m).toArray⟩, modRank m]
abbrev ModsOf (H : Hp) (as : List Addr) (ms : List Mod) : Prop := Paired (fun (a : Addr) (m : Mod) => H a = some (.tup (modV m))) as ms
theorem ModsOf.len {H : Hp} {as : List Addr} {ms : List Mod} (h : ModsOf H as ms) : as.length = ms.length := Paired.length h
theorem ModsOf.to {H H' : Hp} {as : List Addr} {ms : List Mod} (h : ModsOf H as ms) (k : ∀ a m, H a = some (.tup (modV m)) → H' a = some (.tup (modV m))) : ModsOf H' as ms := Paired.mapP h k
theorem ModsOf.snoc {H : Hp} {a : Addr} {m : Mod} (h1 : H a = some (.tup (modV m))) : ∀ {as : List Addr} {ms : List Mod}, ModsOf H as ms → ModsOf H (as ++ [a]) (ms ++ [m])
  | _, _, .nil => .cons h1 .nil
  | _, _, .cons h t => .cons h (ModsOf.snoc h1 t)
theorem mod4_word {s : List Nat} (h : s ∈ modWords) (n : s ≠ Vaarrc.str ":at") : modWord (mod4 s) = s ∧ modRank (mod4 s) = .non := by
  have h' : s = Vaarrc.str ":fold" ∨ s = Vaarrc.str ":scan" ∨ s = Vaarrc.str ":table" ∨ s = Vaarrc.str ":swap" ∨ s = Vaarrc.str ":at" := by simpa [modWords] using h
  rcases h' with e | e | e | e | e
  · rw [e]; exact ⟨by decide, rfl⟩
  · rw [e]; exact ⟨by decide, rfl⟩
  · rw [e]; exact ⟨by decide, rfl⟩
  · rw [e]; exact ⟨by decide, rfl⟩
  · exact absurd e n
theorem atS : (":at" : Str) = ⟨(Vaarrc.str ":at").toArray⟩ := by decide +kernel
theorem rank_int {s : List Nat} (h : s ∈ rankWords) : PySem.intText? ⟨s.toArray⟩ = some (((s.headD 0 - 48 : Nat)) : Int) ∧ s.length = 1 := by
  have h' : s = [48] ∨ s = [49] ∨ s = [50] ∨ s = [51] ∨ s = [52] ∨ s = [53] := by simpa [rankWords] using h
  rcases h' with e | e | e | e | e | e <;> (subst e; exact ⟨by decide +kernel, rfl⟩)
theorem modS_short : ∀ u ∈ modS, u.length ≤ 1000 := by decide +kernel
theorem rankS_short : ∀ u ∈ rankS, u.length ≤ 1000 := by decide +kernel
theorem baseS_short : ∀ u ∈ signS ++ baseS, u.length ≤ 1000 := by decide +kernel
theorem map_cons {ms : List Mod} {m : Mod} (r : Except Nat (List Mod)) : ((r.map fun l => m :: l).map fun l => ms ++ l) = r.map fun l => (ms ++ [m]) ++ l := by
  cases r with
  | error e => rfl
  | ok l => show Except.ok _ = Except.ok _; simp
section
variable {P : Program} {w : World} {K : PySem.W.Frag} {mg : Str → Option Value} {base : Heap} {z : Adr}
/-! ### read_modifiers -/
def spMods (z : Adr) (K : PySem.W.Frag) : Sp := fun vs H Q E => ∃ (a : Addr) (t : List Nat) (i : Nat), vs = [.ref a, .int (i : Int)] ∧ SqL K H a (tv t) ∧ i ≤ t.length ∧
  (∀ ms, readMods t.length 8 (toks t i) = .ok ms → ∀ H' l as, Same H H' → H l = none → H' l = some (.lst (as.map V.ref)) → ModsOf H' as ms → Q (.ref l) H') ∧ (∀ p, readMods t.length 8 (toks t i) = .error p → Raised z.CN E H p)
theorem sc13 : FnScope ["text", "place", "modifiers", "token", "word", "rank"] ["text", "place"] (defScope sMods) := ⟨rfl, rfl, rfl, by decide +kernel, rfl, by decide +kernel, by decide +kernel⟩
theorem Raised.same {C : Addr} {E : XK} {H H' : Hp} {p : Nat} (r : Raised C E H p) (s : Same H H') : Raised C E H' p := fun H2 dx s2 h => r H2 dx (s.trans s2) h
theorem ok_mods {f fF fN fX : Addr} {fd fdF fdN fdX : FuncData} (F : Fun K "read_modifiers" "read_modifiers" sMods f fd) (T : Txt K mg z) (DF : Df K mg "token_from" sFrom ["text", "place"] fF fdF) (GF : FnOk P w K mg base (CXE P w) 5 fF fdF ["text", "place"] (spFrom z.CT K))
    (DN : Df K mg "name_among" sName ["names", "token"] fN fdN) (GN : FnOk P w K mg base (CXE P w) 3 fN fdN ["names", "token"] (spName z K)) (X : DX K z fX fdX) : FnOk P w K mg base (CXE P w) 6 f fd ["text", "place"] (spMods z K) := by
  have GX : FnOk P w K mg base (CXE P w) 1 fX fdX _ _ := ok_xinit X.fn T
  obtain ⟨tm, km⟩ := T.kMm
  obtain ⟨ta, ka⟩ := T.kAt
  refine F.okX sc13 (fun vs H Q E h => ?_) (fun cdv A outer s H vs Q E hr h => ?_)
  · obtain ⟨a, t, i, rfl, _⟩ := h; rfl
  · obtain ⟨a, t, i, rfl, hS, hi, q, qe⟩ := h
    have hr2 : Room 2 _ := hr.mono (by decide)
    have hr3 : Room 3 _ := hr.mono (by decide)
    refine ⟨_, pss_cons (ps_set (i := 2) sc13.nd rfl (Or.inl rfl) (pe_lst pa_nil))
      (pss_cons (ps_set (i := 3) sc13.nd rfl (Or.inl rfl) (pe_call GF hr rfl DF.at_ DF.fn.kp DF.bd .nil passE (pa_cons (pv 0) (pa_cons (pv 1) pa_nil))))
      (pss_cons (ps_while ownX (pt_cmpR op_lt (pe_fld (pv 3) rfl) (pe_callB call_len_seq (by rfl) T.len PySem.boot_len (pa_cons (pv 0) pa_nil)) (nomark _))
        (pss_cons (ps_if (pt_cmpR op_eq (pe_callB call_len_seq (by rfl) T.len PySem.boot_len (pa_cons (pv 2) pa_nil)) (pe_glob (v := .int 8) rfl km ⟨_, rfl⟩) (nomark _))
          (pss_one (ps_raiseI rfl rfl T.xn X.at_ X.obj GX hr2 rfl T.mN X.bd (by decide) passE throwX (pa_cons (pe_fld (pv 3) rfl) pa_nil))) pss_nil)
        (pss_cons (ps_set (i := 4) sc13.nd rfl (Or.inl rfl) (pe_call GN hr3 rfl DN.at_ DN.fn.kp DN.bd .nil passX (pa_cons (pe_glob (v := .ref z.aM) rfl T.mM rfl) (pa_cons (pv 3) pa_nil))))
        (pss_cons (ps_set (i := 5) sc13.nd rfl (Or.inl rfl) pe_non)
        (pss_cons (ps_if (pt_cmpR op_eq (pv 4) (pe_glob (v := .str ":at") rfl ka ⟨_, rfl⟩) (nomark _))
          (pss_cons (ps_set (i := 3) sc13.nd rfl (Or.inl rfl) (pe_call GF hr rfl DF.at_ DF.fn.kp DF.bd .nil passE (pa_cons (pv 0) (pa_cons (pe_fld (pv 3) rfl) pa_nil))))
          (pss_one (ps_set (i := 5) sc13.nd rfl (Or.inl rfl) (pe_callTy call_int_str (by rfl) T.int PyProof.Rows.boot_int (pa_cons (pe_call GN hr3 rfl DN.at_ DN.fn.kp DN.bd .nil passX (pa_cons (pe_glob (v := .ref z.aR) rfl T.mR rfl) (pa_cons (pv 3) pa_nil))) pa_nil))))) pss_nil)
        (pss_cons (ps_expr (pe_bm PySem.F.plainAttrs_list PySem.F.slot_list_append PySem.F.type_list_append mt_append (pv 2) (pa_cons (pe_tup (pa_cons (pv 4) (pa_cons (pv 5) pa_nil))) pa_nil)))
        (pss_one (ps_set (i := 3) sc13.nd rfl (Or.inl rfl) (pe_call GF hr rfl DF.at_ DF.fn.kp DF.bd .nil passE (pa_cons (pv 0) (pa_cons (pe_fld (pv 3) rfl) pa_nil))))))))))
      ) (pss_one (ps_ret (pv 2))))), ?_⟩
    -- modifiers = []
    refine ⟨Nat.zero_le _, fun l hl => ?_⟩
    have s0 : Same H (upd H l (.lst [])) := Same.upd (Same.refl H) hl
    -- token = token_from(text, place)
    refine ⟨_, rfl, _, rfl, a, t, i, rfl, s0.seq hS, hi, fun H1 x0 s1 nx0 tk0 => ?_⟩
    have s01 := s0.trans s1
    -- the loop
    refine ⟨fun m σ H' => ∃ (ms : List Mod) (as : List Addr) (x : Addr) (j : Nat) (v4 v5 : Option V), m = 8 - ms.length ∧ σ = [some (.ref a), some (.int (i : Int)), some (.ref l), some (.ref x), v4, v5] ∧ H' l = some (.lst (as.map V.ref)) ∧ ModsOf H' as ms ∧ ms.length ≤ 8 ∧ j ≤ t.length ∧
      TokAt z.CT H' x (tokB t j) (spell t j) (tokE t j) ∧ Same H H' ∧ readMods t.length 8 (toks t i) = (readMods t.length (8 - ms.length) (toks t j)).map fun r => ms ++ r,
      ⟨_, [], [], x0, i, none, none, rfl, rfl, s1 _ _ upd_same, .nil, Nat.zero_le _, hi, tk0, s01, ?_⟩, ?_⟩
    · show readMods t.length 8 (toks t i) = (readMods t.length 8 (toks t i)).map fun r => [] ++ r
      cases readMods t.length 8 (toks t i) <;> rfl
    rintro m σ H' ⟨ms, as, x, j, v4, v5, rfl, rfl, hl', hm, hm8, hj, tk, s2, hR⟩
    obtain ⟨dx, sl, tk1, tk2⟩ := id tk
    have hb := tokB_le hj
    refine ⟨_, rfl, x, z.CT, dx, _, .int (tokB t j : Int), rfl, tk1, T.cT, T.tb, tokF_b _ _ _, _, rfl, a, tv t, rfl, .inl (s2.seq hS), _, _, rfl, rfl, _, rfl, ite2 (fun c => ?_) fun c => ?_⟩
    · have c' : tokB t j ≠ t.length := by have := of_decide_eq_true c; rw [tv_len] at this; omega
      refine ⟨fun σ' H'' => ∃ (ms' : List Mod) (as' : List Addr) (x' : Addr) (j' : Nat) (v4' v5' : Option V), ms'.length = ms.length + 1 ∧ σ' = [some (.ref a), some (.int (i : Int)), some (.ref l), some (.ref x'), v4', v5'] ∧ H'' l = some (.lst (as'.map V.ref)) ∧ ModsOf H'' as' ms' ∧ ms'.length ≤ 8 ∧ j' ≤ t.length ∧
        TokAt z.CT H'' x' (tokB t j') (spell t j') (tokE t j') ∧ Same H H'' ∧ readMods t.length 8 (toks t i) = (readMods t.length (8 - ms'.length) (toks t j')).map fun r => ms' ++ r,
        fun σ' H'' ⟨ms', as', x', j', v4', v5', g1, g2, g3, g4, g5, g6, g7, g8, g9⟩ => ⟨8 - ms'.length, by omega, ms', as', x', j', v4', v5', rfl, g2, g3, g4, g5, g6, g7, g8, g9⟩, ?_⟩
      -- if len(modifiers) == 8
      refine ⟨_, rfl, l, _, rfl, .inl (SqL.of hl'), rfl, _, rfl, ite2 (fun d => ?_) fun d => ?_⟩
      · have d' : ms.length = 8 := by
          have := V.int.inj (of_decide_eq_true d)
          rw [List.length_map, hm.len] at this
          omega
        have er : readMods t.length 8 (toks t i) = .error (tokB t j) := by
          rw [hR, d', Nat.sub_self, mods_full hj c']
          rfl
        exact ⟨_, rfl, x, z.CT, dx, _, .int (tokB t j : Int), rfl, tk1, T.cT, T.tb, tokF_b _ _ _, fun e he => raise_reads (qe _ er) s2 e he⟩
      have d' : ms.length < 8 := by
        have : ¬ ms.length = 8 := fun y => d (decide_eq_true (by rw [List.length_map, hm.len, y]; rfl))
        omega
      obtain ⟨k, hk⟩ : ∃ k, 8 - ms.length = k + 1 := ⟨8 - ms.length - 1, by omega⟩
      rw [hk] at hR
      -- word = name_among(MODIFIER_WORDS, token)
      refine ⟨_, rfl, z.aM, x, modS, _, _, _, rfl, T.vM _, modS_short, tk, fun hin H2 s3 => ?gA, fun hout => ?gB⟩
      case gB =>
        have er : readMods t.length 8 (toks t i) = .error (tokB t j) := by
          rw [hR, mods_no hj c' (by rw [← modS_tl]; exact hout)]
          rfl
        exact (qe _ er).same s2
      rw [modS_tl] at hin
      have l2 := s3 _ _ hl'
      have m2 : ModsOf H2 as ms := hm.to fun _ _ y => s3 _ _ y
      have tk1' := s3 _ _ tk1
      have s23 := s2.trans s3
      -- the rest of the turn, behind the rank
      have rest : ∀ (H3 : Hp) (mo : Mod) (x3 : Addr) (dx3 sl3 : Addr) (b3 e3 : Nat), Same H2 H3 → modWord mo = spell t j → H3 x3 = some (.ins z.CT dx3 (tokF b3 sl3 e3)) → e3 ≤ t.length →
          readMods t.length 8 (toks t i) = (readMods t.length k (toks t e3)).map (fun r => (ms ++ [mo]) ++ r) →
          tSeq (tDrop (tBM K "list" rAppend (tVar 2) (tCons (tTup (tCons (tVar 4) (tCons (tVar 5) tNil))) tNil)))
            (tAsg (tCall (spFrom z.CT K) [] E0 (tCons (tVar 0) (tCons (tFld K (tVar 3) "end") tNil))) (gName 3))
            { nx := fun σ' H'' => ∃ (ms' : List Mod) (as' : List Addr) (x' : Addr) (j' : Nat) (v4' v5' : Option V), ms'.length = ms.length + 1 ∧ σ' = [some (.ref a), some (.int (i : Int)), some (.ref l), some (.ref x'), v4', v5'] ∧ H'' l = some (.lst (as'.map V.ref)) ∧ ModsOf H'' as' ms' ∧ ms'.length ≤ 8 ∧ j' ≤ t.length ∧
                TokAt z.CT H'' x' (tokB t j') (spell t j') (tokE t j') ∧ Same H H'' ∧ readMods t.length 8 (toks t i) = (readMods t.length (8 - ms'.length) (toks t j')).map fun r => ms' ++ r, rt := Q }
            [some (.ref a), some (.int (i : Int)), some (.ref l), some (.ref x3), some (.str ⟨(spell t j).toArray⟩), some (modRank mo)] H3 := by
        intro H3 mo x3 dx3 sl3 b3 e3 s4 hw hx3 he3 hR3
        have l3 := s4 _ _ l2
        have m3 : ModsOf H3 as ms := m2.to fun _ _ y => s4 _ _ y
        have s24 := s23.trans s4
        refine ⟨_, rfl, .inl ⟨rfl, _, SqL.of l3⟩, _, rfl, _, rfl, (by show 2 ≤ sizeLine; decide), fun p hp => ?_⟩
        have nlp : l ≠ p := ne_of_none l3 hp
        refine ⟨l, _, _, rfl, rfl, by rw [upd_ne nlp]; exact l3, ?_, ?_⟩
        · rw [List.length_map, m3.len]; exact small1000 (by omega)
        have nl : H l = none := hl
        have s5 : Same H (upd (upd H3 p (.tup [V.str ⟨(spell t j).toArray⟩, modRank mo])) l (.lst (as.map V.ref ++ [V.ref p]))) := fun b o e => by
          have e' := s24 b o e
          rw [upd_ne (ne_of_none e nl), upd_ne (ne_of_none e' hp)]
          exact e'
        have nx3l : x3 ≠ l := ne_of hx3 l3 (by intro y; cases y)
        have nx3p : x3 ≠ p := ne_of_none hx3 hp
        refine ⟨_, rfl, _, rfl, x3, z.CT, dx3, _, .int (e3 : Int), rfl, by rw [upd_ne nx3l, upd_ne nx3p]; exact hx3, T.cT, T.te, tokF_e _ _ _, a, t, e3, rfl, s5.seq hS, he3, fun H5 x5 s6 _ tk5 => ?_⟩
        refine ⟨ms ++ [mo], as ++ [p], x5, e3, _, _, by simp, rfl, ?_, ?_, by simp; omega, he3, tk5, s5.trans s6, ?_⟩
        · rw [List.map_append]
          exact s6 _ _ upd_same
        · refine ModsOf.snoc (s6 _ _ ?_) (m3.to fun b m' y => s6 _ _ ?_)
          · rw [upd_ne nlp.symm, upd_same]
            show some (HO.tup [V.str ⟨(spell t j).toArray⟩, modRank mo]) = some (HO.tup (modV mo))
            rw [← hw]
          · rw [upd_ne (ne_of y l3 (by intro q; cases q)), upd_ne (ne_of_none y hp)]
            exact y
        · rw [hR3]
          have : 8 - (ms ++ [mo]).length = k := by simp; omega
          rw [this]
      -- if word == AT
      refine ⟨_, rfl, rfl, _, rfl, ite2 (fun e => ?_) fun e => ?_⟩
      · have e' : spell t j = Vaarrc.str ":at" := by
          have y := V.str.inj (of_decide_eq_true e)
          rw [atS] at y
          have y2 := congrArg cp y
          exact y2
        have hR2 := hR
        rw [mods_at hj c' e'] at hR2
        have he := tokE_le hj
        refine ⟨_, rfl, _, rfl, x, z.CT, dx, _, .int (tokE t j : Int), rfl, tk1', T.cT, T.te, tokF_e _ _ _, a, t, tokE t j, rfl, s23.seq hS, he, fun H3 x3 s4 _ tk3 => ?_⟩
        refine ⟨_, rfl, z.aR, x3, rankS, _, _, _, rfl, T.vR _, rankS_short, tk3, fun hin3 H4 s5 => ?gC, fun hout3 => ?gD⟩
        case gD =>
          rw [rankS_tl] at hout3
          rw [if_neg hout3] at hR2
          have er : readMods t.length 8 (toks t i) = .error (tokB t (tokE t j)) := by rw [hR2]; rfl
          exact (qe _ er).same (s23.trans s4)
        rw [rankS_tl] at hin3
        rw [if_pos hin3, map_cons] at hR2
        obtain ⟨r1, r2⟩ := rank_int hin3
        refine ⟨_, _, rfl, r1, ?_, ?_⟩
        · show ((spell t (tokE t j)).toArray.size) ≤ 640
          rw [List.size_toArray, r2]; decide
        obtain ⟨dx3, sl3, t31, t32⟩ := tk3
        exact rest H4 (.at_ ((spell t (tokE t j)).headD 0 - 48)) x3 dx3 sl3 _ _ (s4.trans s5) e'.symm (s5 _ _ t31) (tokE_le he) hR2
      · have e' : spell t j ≠ Vaarrc.str ":at" := fun y => e (decide_eq_true (by rw [atS, y]))
        have hR2 := hR
        rw [mods_one hj c' hin e', map_cons] at hR2
        obtain ⟨w1, w2⟩ := mod4_word hin e'
        have r := rest H2 (mod4 (spell t j)) x dx sl _ _ (Same.refl H2) w1 tk1' (tokE_le hj) hR2
        rw [w2] at r
        exact r
    · have c' : tokB t j = t.length := by
        have : ¬ ((tokB t j : Nat) : Int) < ((t.length : Nat) : Int) := fun y => c (decide_eq_true (by rw [tv_len]; exact y))
        omega
      rw [mods_end hj c'] at hR
      have er : readMods t.length 8 (toks t i) = .ok ms := by rw [hR]; show Except.ok (ms ++ []) = _; rw [List.append_nil]
      exact ⟨_, rfl, q ms er H' l as s2 hl hl' hm⟩
end
end Rk

set_option Elab.async false
set_option linter.all false
set_option maxRecDepth 100000
namespace Rk
open PySem PySem.Spec PyProof.Rows L2 Rx
open Vaarrc (Mod readMods readFun)
section
variable {P : Program} {w : World} {K : PySem.W.Frag} {mg : Str → Option Value} {base : Heap} {z : Adr}
/-! ### Function -/
def funF (b : List Nat) (l : Addr) : List (Str × V) := putF "modifiers" (.ref l) (putF "base" (.str ⟨b.toArray⟩) [])
theorem funF_b (b : List Nat) (l : Addr) : (funF b l).lookup ("base" : Str) = some (.str ⟨b.toArray⟩) := by
  unfold funF
  rw [lookup_putF, if_neg (by decide +kernel), lookup_putF, if_pos rfl]
theorem funF_m (b : List Nat) (l : Addr) : (funF b l).lookup ("modifiers" : Str) = some (.ref l) := by
  unfold funF
  rw [lookup_putF, if_pos rfl]
def spFI (C : Addr) : Sp := fun vs H Q _ => ∃ (x dx l : Addr) (b : List Nat), vs = [.ref x, .str ⟨b.toArray⟩, .ref l] ∧ H x = some (.ins C dx []) ∧ ∀ H', H' x = some (.ins C dx (funF b l)) → (∀ c o, H c = some o → c ≠ x → H' c = some o) → Q .non H'
theorem sc14 : FnScope ["self", "base", "modifiers"] ["self", "base", "modifiers"] (defScope sFInit) := ⟨rfl, rfl, rfl, by decide +kernel, rfl, by decide +kernel, by decide +kernel⟩
theorem ok_finit {f : Addr} {fd : FuncData} (F : Fun K "__init__" "Function.__init__" sFInit f fd) (T : Txt K mg z) : FnOk P w K mg base (CXE P w) 1 f fd ["self", "base", "modifiers"] (spFI z.CF) := by
  refine F.okX sc14 (fun vs H Q E h => ?_) (fun cdv A outer s H vs Q E hr h => ?_)
  · obtain ⟨x, dx, l, b, rfl, _⟩ := h; rfl
  · obtain ⟨x, dx, l, b, rfl, hx, k⟩ := h
    refine ⟨_, pss_cons (ps_fld (pv 0) (pv 1) rfl) (pss_one (ps_fld (pv 0) (pv 2) rfl)), ?_⟩
    refine ⟨_, rfl, _, rfl, x, z.CF, dx, [], rfl, hx, T.cF, T.fb, (by show 0 < 1000; decide), ?_⟩
    refine ⟨_, rfl, _, rfl, x, z.CF, dx, _, rfl, upd_same, T.cF, T.fm, (by show 1 < 1000; decide), ?_⟩
    exact k _ upd_same fun c o e nc => by rw [upd_ne nc, upd_ne nc]; exact e
/-- a function object -/
def FunAt (C : Addr) (H : Hp) (x : Addr) (f : Vaarrc.Fun) : Prop := ∃ dx l as, H x = some (.ins C dx (funF f.base l)) ∧ H l = some (.lst (as.map V.ref)) ∧ ModsOf H as f.mods.reverse
/-! ### read_function -/
def spRead (z : Adr) (K : PySem.W.Frag) : Sp := fun vs H Q E => ∃ (a : Addr) (t : List Nat), vs = [.ref a] ∧ SqL K H a (tv t) ∧ (256 < t.length → ∀ H', Same H H' → E (.ref z.CL) none H') ∧
  (t.length ≤ 256 → ∀ f, readFun t = .ok f → ∀ H' x, Same H H' → FunAt z.CF H' x f → Q (.ref x) H') ∧ (t.length ≤ 256 → ∀ p, readFun t = .error p → Raised z.CN E H p)
theorem sc15 : FnScope ["text", "token", "base"] ["text"] (defScope sRead) := ⟨rfl, rfl, rfl, by decide +kernel, rfl, by decide +kernel, by decide +kernel⟩
theorem ok_read {f fF fN fM fI : Addr} {fd fdF fdN fdM fdI : FuncData} (F : Fun K "read_function" "read_function" sRead f fd) (T : Txt K mg z) (DF : Df K mg "token_from" sFrom ["text", "place"] fF fdF) (GF : FnOk P w K mg base (CXE P w) 5 fF fdF ["text", "place"] (spFrom z.CT K))
    (DN : Df K mg "name_among" sName ["names", "token"] fN fdN) (GN : FnOk P w K mg base (CXE P w) 3 fN fdN ["names", "token"] (spName z K)) (DM : Df K mg "read_modifiers" sMods ["text", "place"] fM fdM) (GM : FnOk P w K mg base (CXE P w) 6 fM fdM ["text", "place"] (spMods z K))
    (M : Mk K z.CF fI) (FI : Fun K "__init__" "Function.__init__" sFInit fI fdI) (bI : Binds K fdI ["self", "base", "modifiers"] []) : FnOk P w K mg base (CXE P w) 7 f fd ["text"] (spRead z K) := by
  have GI : FnOk P w K mg base (CXE P w) 1 fI fdI _ _ := ok_finit FI T
  obtain ⟨tb, kb⟩ := T.kMb
  refine F.okX sc15 (fun vs H Q E h => ?_) (fun cdv A outer s H vs Q E hr h => ?_)
  · obtain ⟨a, t, rfl, _⟩ := h; rfl
  · obtain ⟨a, t, rfl, hS, ql, q, qe⟩ := h
    have hr5 : Room 5 _ := hr.mono (by decide)
    have hr3 : Room 3 _ := hr.mono (by decide)
    have hr2 : Room 2 _ := hr.mono (by decide)
    refine ⟨_, pss_cons (ps_if (pt_cmpR op_gt (pe_callB call_len_seq (by rfl) T.len PySem.boot_len (pa_cons (pv 0) pa_nil)) (pe_glob (v := .int 256) rfl kb ⟨_, rfl⟩) (nomark _)) (pss_one (ps_raise0 rfl rfl T.xl T.li rfl T.mL throwX)) pss_nil)
      (pss_cons (ps_set (i := 1) sc15.nd rfl (Or.inl rfl) (pe_call GF hr5 rfl DF.at_ DF.fn.kp DF.bd .nil passE (pa_cons (pv 0) (pa_cons pe_int pa_nil))))
      (pss_cons (ps_set (i := 2) sc15.nd rfl (Or.inl rfl) (pe_call GN hr3 rfl DN.at_ DN.fn.kp DN.bd .nil passX (pa_cons (pe_op op_catT (pe_op op_catT (pe_glob (v := .ref z.aS) rfl T.mS rfl) (pe_glob (v := .ref z.aW) rfl T.mW rfl)) (pe_glob (v := .ref z.aV) rfl T.mV rfl)) (pa_cons (pv 1) pa_nil))))
      (pss_one (ps_ret (pe_make M GI hr2 rfl T.mF bI .nil passE (pa_cons (pv 2) (pa_cons (pe_call GM hr rfl DM.at_ DM.fn.kp DM.bd .nil passX (pa_cons (pv 0) (pa_cons (pe_fld (pv 1) rfl) pa_nil))) pa_nil))))))), ?_⟩
    refine ⟨_, rfl, a, tv t, rfl, .inl hS, _, _, rfl, rfl, _, rfl, ite2 (fun c => ?_) fun c => ?_⟩
    · have c' : 256 < t.length := by have := of_decide_eq_true c; rw [tv_len] at this; omega
      exact ql c' H (Same.refl H)
    have c' : t.length ≤ 256 := by
      have : ¬ (256 : Int) < ((t.length : Nat) : Int) := fun y => c (decide_eq_true (by rw [tv_len]; exact y))
      omega
    -- token = token_from(text, 0)
    refine ⟨_, rfl, a, t, 0, rfl, hS, Nat.zero_le _, fun H1 x s1 _ tk => ?_⟩
    -- base = name_among(SIGNS + BASE_WORDS, token)
    refine ⟨z.aS, z.aW, _, _, rfl, rfl, T.vS _, T.vW _, by simp [signS], by show (signS.map V.str).length + (oneS.map V.str).length ≤ sizeLine; exact Nat.le_of_lt (small1000 (by simp [signS, oneS])), ?_⟩
    refine ⟨fun e => absurd e (by simp [oneS]), fun _ p0 hp0 => ?_⟩
    refine ⟨p0, z.aV, _, _, rfl, rfl, SqT.of upd_same, T.vV _, by simp [signS], by show (signS.map V.str ++ oneS.map V.str).length + (twoS.map V.str).length ≤ sizeLine; exact Nat.le_of_lt (small1000 (by simp [signS, oneS, twoS])), ?_⟩
    refine ⟨fun e => absurd e (by simp [twoS]), fun _ p hp => ?_⟩
    have s20 : Same H1 (upd (upd H1 p0 (.tup (signS.map V.str ++ oneS.map V.str))) p (.tup (signS.map V.str ++ oneS.map V.str ++ twoS.map V.str))) := Same.upd (Same.upd (Same.refl H1) hp0) hp
    have s2 := s1.trans s20
    have tk2 := tk.same s20
    refine ⟨_, rfl, p, x, signS ++ baseS, _, _, _, rfl, SqT.of (by rw [upd_same]; simp [baseS]), baseS_short, tk2, fun hin H2 s3 => ?gA, fun hout => ?gB⟩
    case gB =>
      rw [baseS_tl] at hout
      exact (qe c' _ (fun_no hout)).same s2
    rw [baseS_tl] at hin
    have s23 := s2.trans s3
    obtain ⟨dx, sl, t1, t2⟩ := tk2.same s3
    have he := tokE_le (t := t) (i := 0) (Nat.zero_le _)
    refine ⟨_, rfl, _, rfl, _, rfl, x, z.CT, dx, _, .int (tokE t 0 : Int), rfl, t1, T.cT, T.te, tokF_e _ _ _, a, t, tokE t 0, rfl, s23.seq hS, he, fun ms er H3 l as s4 nl hl hm => ?gC, fun p' er => ?gD⟩
    case gD =>
      refine Raised.same (qe c' p' ?_) s23
      rw [fun_base hin]
      show (readMods t.length 8 (toks t (tokE t 0))).map _ = _
      rw [er]; rfl
    have ok : readFun t = .ok { base := spell t 0, mods := ms.reverse } := by
      rw [fun_base hin]
      show (readMods t.length 8 (toks t (tokE t 0))).map _ = _
      rw [er]; rfl
    intro y dy ny nd ne
    have s34 := s23.trans s4
    refine ⟨y, dy, l, spell t 0, rfl, upd_same, fun H5 h1 h2 => ⟨rfl, ?_⟩⟩
    have s5 : Same H3 H5 := Same.made ny nd h2
    refine q c' _ ok H5 y (s34.trans s5) ⟨dy, l, as, h1, s5 _ _ hl, ?_⟩
    show ModsOf H5 as ms.reverse.reverse
    rw [List.reverse_reverse]
    exact hm.to fun _ _ w => s5 _ _ w
end
end Rk

set_option Elab.async false
set_option linter.all false
set_option maxRecDepth 100000
namespace L2
open PySem PySem.Spec PyProof.Rows
open PySem.W (WData Codec OpenSpec)
theorem absV_rel : ∀ {u : Value} {x : V}, absV u = some x → RelV x u := by
  intro u x h
  cases u <;> first | (cases h; first | exact rfl | exact ⟨_, rfl⟩) | cases h
theorem vals_abs : ∀ (us : List Value) (xs : List V), us.map absV = xs.map some → Vals xs us
  | [], [], _ => .nil
  | [], _ :: _, h => by cases h
  | _ :: _, [], h => by cases h
  | u :: us, x :: xs, h => by
    injection h with h1 h2
    exact .cons (absV_rel h1) (vals_abs us xs h2)
theorem cxe_none {P : Program} {w : World} (H : Hp) (s : Shared) (e : Value) (s' : Shared) (h : CXE P w [] H s (fun _ _ _ => False) e s') : False := by
  obtain ⟨_, _, _, _, _, _, _, _, _, _, _, _, _, _, _, q⟩ := h
  exact q
end L2
namespace Rk
open PySem PySem.Spec PyProof.Rows L2 Rx
theorem df_mk {K : PySem.W.Frag} {h : Heap} {mg : Str → Option Value} {x : Str} {st : Stmt} {ps : List Str} {f : Addr} {oc : Value} {od an : Option Addr} {osl : Array (Option Value)} {kV doc pm cdv ct : Value} (X : K.In h) (G : h.Ns mainGlobals mg)
    (a : PySem.W.nsIn K mainGlobals x = some (some (.ref f))) (l : K.lookup f = some ⟨oc, od, .func (PySem.W.fnOf x x (defArgs st) (defBody st) (defScope st) .none kV doc pm an cdv ct), osl⟩) (c : PySem.W.codeIn K cdv x = true) (k : PySem.W.keepIn K (.ref f) = true)
    (hb : ∀ (kV doc pm : Value) (an : Option Addr) (cdv ct : Value) (us : List Value), us.length = ps.length → bindArgs (PySem.W.fnOf x x (defArgs st) (defBody st) (defScope st) .none kV doc pm an cdv ct) ⟨us, []⟩ = pure (ps.zip us)) :
    Df K mg x st ps f (PySem.W.fnOf x x (defArgs st) (defBody st) (defScope st) .none kV doc pm an cdv ct) := ⟨fun_mk l c k, (fun_mk l c k).binds hb, PySem.W.mg_of X G a⟩
theorem sq_mk {K : PySem.W.Frag} {a : Addr} {xs : List V} {od : Option Addr} {its : Array Value} {n : Nat} {sl : Array (Option Value)} (l : K.lookup a = some ⟨.type "tuple", od, .seq its n, sl⟩) (hz : its.size ≤ 1000) (h : its.toList.map absV = xs.map some) : ∀ H, SqT K H a xs :=
  fun H => .inr ⟨_, its, n, l, rfl, rfl, Nat.le_of_lt (small1000 hz), vals_abs _ _ h⟩
/-! ### the answer -/
theorem bytes_ok {ns : List Int} (h : ∀ x ∈ ns, 0 ≤ x ∧ x ≤ 255) : VaarrcNeutral.text ns = some (ns.map fun b => b.toNat) := by
  unfold VaarrcNeutral.text
  have e : NeutralIO.bytes ns = true := by
    unfold NeutralIO.bytes
    rw [List.all_eq_true]
    intro x hx
    rw [Bool.and_eq_true]
    exact ⟨decide_eq_true (h x hx).1, decide_eq_true (h x hx).2⟩
  rw [if_pos e]
theorem tv_ints {ns : List Int} (h : ∀ x ∈ ns, 0 ≤ x ∧ x ≤ 255) : tv (ns.map fun b => b.toNat) = ns.map V.int := by
  show ((ns.map fun b => b.toNat).map fun (n : Nat) => V.int (n : Int)) = _
  rw [List.map_map]
  refine List.map_congr_left fun x hx => ?_
  show V.int ((x.toNat : Nat) : Int) = V.int x
  rw [Int.toNat_of_nonneg (h x hx).1]
/-! ### what the top has written -/
/-- the reader stands -/
def Reads (K : PySem.W.Frag) (mg : Str → Option Value) : Prop := ∃ (z : Adr) (fR : Addr) (fdR : FuncData) (fY : Addr) (fdY : FuncData), Txt K mg z ∧ Df K mg "read_function" sRead ["text"] fR fdR ∧ Df K mg "bytes_of" sBytes ["name"] fY fdY ∧
  ∀ (P : Program) (w : World) (base : Heap), FnOk P w K mg base (CXE P w) 7 fR fdR ["text"] (spRead z K)
set_option maxHeartbeats 2000000 in
theorem read_mk {K : PySem.W.Frag} {h : Heap} {mg : Str → Option Value} (X : K.In h) (G : h.Ns mainGlobals mg)
    {CL NL CN NN CT CF aB aS aW aV aM aR : Addr}
    {nmL qL nmN qN : Str} {bsL bsN : List Value} {snL snN : List Str} {subL subN : List Value} {abL abN : Bool} {colL colN : Option Bool} {ddL ddN : Option Addr} {k0L k1L k2L k3L k5L k0N k1N k2N k3N k5N : Option Value}
    (eL : PySem.W.nsIn K mainGlobals "TooLong" = some (some (.ref CL))) (lL : K.lookup CL = some (excClassObj nmL qL CL NL bsL bmE true snL subL abL colL ddL k0L k1L k2L k3L k5L "Exception.__new__")) (oL : PySem.W.nsOkIn K NL = true) (pL : PySem.W.keepIn K (.ref CL) = true) (iL : PySem.W.nsIn K NL "__init__" = some none)
    (eN : PySem.W.nsIn K mainGlobals "NoFunction" = some (some (.ref CN))) (lN : K.lookup CN = some (excClassObj nmN qN CN NN bsN bmE true snN subN abN colN ddN k0N k1N k2N k3N k5N "Exception.__new__")) (oN : PySem.W.nsOkIn K NN = true) (pN : PySem.W.keepIn K (.ref CN) = true)
    (n1 : PySem.W.nsIn K NN "place" = some none) (n2 : PySem.W.nsIn K NN "__setattr__" = some none) (n3 : PySem.W.nsIn K NN "__getattribute__" = some none) (n4 : PySem.W.nsIn K NN "__getattr__" = some none) (ne : CL ≠ CN)
    {fX : Addr} {odX anX : Option Addr} {slX : Array (Option Value)} {kVX dcX pmX cdX ctX : Value}
    (aX : PySem.W.nsIn K NN "__init__" = some (some (.ref fX))) (lX : K.lookup fX = some ⟨.type "function", odX, .func (PySem.W.fnOf "__init__" "NoFunction.__init__" (defArgs sXInit) (defBody sXInit) (defScope sXInit) .none kVX dcX pmX anX cdX ctX), slX⟩) (cX : PySem.W.codeIn K cdX "NoFunction.__init__" = true) (kX : PySem.W.keepIn K (.ref fX) = true)
    (eT : PySem.W.nsIn K mainGlobals "Token" = some (some (.ref CT))) (pgT : PySem.W.plainGet K CT Str.empty = true) (hdT : PySem.W.hasDictIn K CT = true) (poT : PySem.W.plainOver K CT = true) (saT : PySem.W.findIn K (.ref CT) "__setattr__" = some (some (.builtin "object.__setattr__"))) (mkT : PySem.W.makesIn K CT = true) (kcT : PySem.W.keepIn K (.ref CT) = true)
    (t1 : PySem.W.findIn K (.ref CT) "begin" = some none) (t2 : PySem.W.findIn K (.ref CT) "spelling" = some none) (t3 : PySem.W.findIn K (.ref CT) "end" = some none)
    {fI : Addr} {ocI : Value} {odI anI : Option Addr} {slI : Array (Option Value)} {kVI dcI pmI cdI ctI : Value}
    (aI : PySem.W.findIn K (.ref CT) "__init__" = some (some (.ref fI))) (iI : PySem.W.isFn K (.ref fI) = true) (lI : K.lookup fI = some ⟨ocI, odI, .func (PySem.W.fnOf "__init__" "Token.__init__" (defArgs sTInit) (defBody sTInit) (defScope sTInit) .none kVI dcI pmI anI cdI ctI), slI⟩) (cI : PySem.W.codeIn K cdI "Token.__init__" = true) (kI : PySem.W.keepIn K (.ref fI) = true)
    (eF : PySem.W.nsIn K mainGlobals "Function" = some (some (.ref CF))) (pgF : PySem.W.plainGet K CF Str.empty = true) (hdF : PySem.W.hasDictIn K CF = true) (poF : PySem.W.plainOver K CF = true) (saF : PySem.W.findIn K (.ref CF) "__setattr__" = some (some (.builtin "object.__setattr__"))) (mkF : PySem.W.makesIn K CF = true) (kcF : PySem.W.keepIn K (.ref CF) = true)
    (f1 : PySem.W.findIn K (.ref CF) "base" = some none) (f2 : PySem.W.findIn K (.ref CF) "modifiers" = some none)
    {fJ : Addr} {ocJ : Value} {odJ anJ : Option Addr} {slJ : Array (Option Value)} {kVJ dcJ pmJ cdJ ctJ : Value}
    (aJ : PySem.W.findIn K (.ref CF) "__init__" = some (some (.ref fJ))) (iJ : PySem.W.isFn K (.ref fJ) = true) (lJ : K.lookup fJ = some ⟨ocJ, odJ, .func (PySem.W.fnOf "__init__" "Function.__init__" (defArgs sFInit) (defBody sFInit) (defScope sFInit) .none kVJ dcJ pmJ anJ cdJ ctJ), slJ⟩) (cJ : PySem.W.codeIn K cdJ "Function.__init__" = true) (kJ : PySem.W.keepIn K (.ref fJ) = true)
    {tLo tCo tMb tMm tAt : Tok} (v1 : PySem.W.nsIn K mainGlobals "LONG" = some (some (.int (-21) tLo))) (v2 : PySem.W.nsIn K mainGlobals "COLON" = some (some (.int 58 tCo))) (v3 : PySem.W.nsIn K mainGlobals "MOST_BYTES" = some (some (.int 256 tMb))) (v4 : PySem.W.nsIn K mainGlobals "MOST_MODIFIERS" = some (some (.int 8 tMm))) (v5 : PySem.W.nsIn K mainGlobals "AT" = some (some (.str ":at" tAt)))
    {od1 od2 od3 od4 od5 od6 : Option Addr} {it1 it2 it3 it4 it5 it6 : Array Value} {n1' n2' n3' n4' n5' n6' : Nat} {sl1 sl2 sl3 sl4 sl5 sl6 : Array (Option Value)}
    (q1 : PySem.W.nsIn K mainGlobals "BLANKS" = some (some (.ref aB))) (r1 : K.lookup aB = some ⟨.type "tuple", od1, .seq it1 n1', sl1⟩) (z1 : it1.size ≤ 1000) (y1 : it1.toList.map absV = (tv [32, 9, 10, 13]).map some)
    (q2 : PySem.W.nsIn K mainGlobals "SIGNS" = some (some (.ref aS))) (r2 : K.lookup aS = some ⟨.type "tuple", od2, .seq it2 n2', sl2⟩) (z2 : it2.size ≤ 1000) (y2 : it2.toList.map absV = (signS.map V.str).map some)
    (q6 : PySem.W.nsIn K mainGlobals "WORDS_OF_TWO" = some (some (.ref aV))) (r6 : K.lookup aV = some ⟨.type "tuple", od6, .seq it6 n6', sl6⟩) (z6 : it6.size ≤ 1000) (y6 : it6.toList.map absV = (twoS.map V.str).map some)
    (q3 : PySem.W.nsIn K mainGlobals "WORDS_OF_ONE" = some (some (.ref aW))) (r3 : K.lookup aW = some ⟨.type "tuple", od3, .seq it3 n3', sl3⟩) (z3 : it3.size ≤ 1000) (y3 : it3.toList.map absV = (oneS.map V.str).map some)
    (q4 : PySem.W.nsIn K mainGlobals "MODIFIER_WORDS" = some (some (.ref aM))) (r4 : K.lookup aM = some ⟨.type "tuple", od4, .seq it4 n4', sl4⟩) (z4 : it4.size ≤ 1000) (y4 : it4.toList.map absV = (modS.map V.str).map some)
    (q5 : PySem.W.nsIn K mainGlobals "RANK_DIGITS" = some (some (.ref aR))) (r5 : K.lookup aR = some ⟨.type "tuple", od5, .seq it5 n5', sl5⟩) (z5 : it5.size ≤ 1000) (y5 : it5.toList.map absV = (rankS.map V.str).map some)
    (g1 : PySem.W.nsIn K mainGlobals "len" = some none) (g2 : PySem.W.nsIn K mainGlobals "ord" = some none) (g3 : PySem.W.nsIn K mainGlobals "int" = some none) (g4 : PySem.W.nsIn K mainGlobals "Exception" = some none)
    {p1 p2 p3 p4 p5 p6 p7 p8 p9 pa pb pc : Addr} {oc1 oc2 oc3 oc4 oc5 oc6 oc7 oc8 oc9 oca ocb occ : Value} {oda1 oda2 oda3 oda4 oda5 oda6 oda7 oda8 oda9 odaa odab odac an1 an2 an3 an4 an5 an6 an7 an8 an9 ana anb anc : Option Addr}
    {s1 s2 s3 s4 s5 s6 s7 s8 s9 sa sb sc : Array (Option Value)} {kV1 dc1 pm1 cd1 ct1 kV2 dc2 pm2 cd2 ct2 kV3 dc3 pm3 cd3 ct3 kV4 dc4 pm4 cd4 ct4 kV5 dc5 pm5 cd5 ct5 kV6 dc6 pm6 cd6 ct6 kV7 dc7 pm7 cd7 ct7 kV8 dc8 pm8 cd8 ct8 kV9 dc9 pm9 cd9 ct9 kVa dca pma cda cta kVb dcb pmb cdb ctb kVc dcc pmc cdc ctc : Value}
    (m1 : PySem.W.nsIn K mainGlobals "bytes_of" = some (some (.ref p1))) (j1 : K.lookup p1 = some ⟨oc1, oda1, .func (PySem.W.fnOf "bytes_of" "bytes_of" (defArgs sBytes) (defBody sBytes) (defScope sBytes) .none kV1 dc1 pm1 an1 cd1 ct1), s1⟩) (c1 : PySem.W.codeIn K cd1 "bytes_of" = true) (w1 : PySem.W.keepIn K (.ref p1) = true)
    (m2 : PySem.W.nsIn K mainGlobals "is_blank" = some (some (.ref p2))) (j2 : K.lookup p2 = some ⟨oc2, oda2, .func (PySem.W.fnOf "is_blank" "is_blank" (defArgs sBlank) (defBody sBlank) (defScope sBlank) .none kV2 dc2 pm2 an2 cd2 ct2), s2⟩) (c2 : PySem.W.codeIn K cd2 "is_blank" = true) (w2 : PySem.W.keepIn K (.ref p2) = true)
    (m3 : PySem.W.nsIn K mainGlobals "is_letter" = some (some (.ref p3))) (j3 : K.lookup p3 = some ⟨oc3, oda3, .func (PySem.W.fnOf "is_letter" "is_letter" (defArgs sLetter) (defBody sLetter) (defScope sLetter) .none kV3 dc3 pm3 an3 cd3 ct3), s3⟩) (c3 : PySem.W.codeIn K cd3 "is_letter" = true) (w3 : PySem.W.keepIn K (.ref p3) = true)
    (m4 : PySem.W.nsIn K mainGlobals "is_digit" = some (some (.ref p4))) (j4 : K.lookup p4 = some ⟨oc4, oda4, .func (PySem.W.fnOf "is_digit" "is_digit" (defArgs sDigit) (defBody sDigit) (defScope sDigit) .none kV4 dc4 pm4 an4 cd4 ct4), s4⟩) (c4 : PySem.W.codeIn K cd4 "is_digit" = true) (w4 : PySem.W.keepIn K (.ref p4) = true)
    (m5 : PySem.W.nsIn K mainGlobals "past_run" = some (some (.ref p5))) (j5 : K.lookup p5 = some ⟨oc5, oda5, .func (PySem.W.fnOf "past_run" "past_run" (defArgs sRun) (defBody sRun) (defScope sRun) .none kV5 dc5 pm5 an5 cd5 ct5), s5⟩) (c5 : PySem.W.codeIn K cd5 "past_run" = true) (w5 : PySem.W.keepIn K (.ref p5) = true)
    (m6 : PySem.W.nsIn K mainGlobals "past_modifier_word" = some (some (.ref p6))) (j6 : K.lookup p6 = some ⟨oc6, oda6, .func (PySem.W.fnOf "past_modifier_word" "past_modifier_word" (defArgs sModW) (defBody sModW) (defScope sModW) .none kV6 dc6 pm6 an6 cd6 ct6), s6⟩) (c6 : PySem.W.codeIn K cd6 "past_modifier_word" = true) (w6 : PySem.W.keepIn K (.ref p6) = true)
    (m7 : PySem.W.nsIn K mainGlobals "past_sign" = some (some (.ref p7))) (j7 : K.lookup p7 = some ⟨oc7, oda7, .func (PySem.W.fnOf "past_sign" "past_sign" (defArgs sSign) (defBody sSign) (defScope sSign) .none kV7 dc7 pm7 an7 cd7 ct7), s7⟩) (c7 : PySem.W.codeIn K cd7 "past_sign" = true) (w7 : PySem.W.keepIn K (.ref p7) = true)
    (m8 : PySem.W.nsIn K mainGlobals "past_token" = some (some (.ref p8))) (j8 : K.lookup p8 = some ⟨oc8, oda8, .func (PySem.W.fnOf "past_token" "past_token" (defArgs sTok) (defBody sTok) (defScope sTok) .none kV8 dc8 pm8 an8 cd8 ct8), s8⟩) (c8 : PySem.W.codeIn K cd8 "past_token" = true) (w8 : PySem.W.keepIn K (.ref p8) = true)
    (m9 : PySem.W.nsIn K mainGlobals "token_from" = some (some (.ref p9))) (j9 : K.lookup p9 = some ⟨oc9, oda9, .func (PySem.W.fnOf "token_from" "token_from" (defArgs sFrom) (defBody sFrom) (defScope sFrom) .none kV9 dc9 pm9 an9 cd9 ct9), s9⟩) (c9 : PySem.W.codeIn K cd9 "token_from" = true) (w9 : PySem.W.keepIn K (.ref p9) = true)
    (ma : PySem.W.nsIn K mainGlobals "name_among" = some (some (.ref pa))) (ja : K.lookup pa = some ⟨oca, odaa, .func (PySem.W.fnOf "name_among" "name_among" (defArgs sName) (defBody sName) (defScope sName) .none kVa dca pma ana cda cta), sa⟩) (ca : PySem.W.codeIn K cda "name_among" = true) (wa : PySem.W.keepIn K (.ref pa) = true)
    (mb : PySem.W.nsIn K mainGlobals "read_modifiers" = some (some (.ref pb))) (jb : K.lookup pb = some ⟨ocb, odab, .func (PySem.W.fnOf "read_modifiers" "read_modifiers" (defArgs sMods) (defBody sMods) (defScope sMods) .none kVb dcb pmb anb cdb ctb), sb⟩) (cb : PySem.W.codeIn K cdb "read_modifiers" = true) (wb : PySem.W.keepIn K (.ref pb) = true)
    (mc : PySem.W.nsIn K mainGlobals "read_function" = some (some (.ref pc))) (jc : K.lookup pc = some ⟨occ, odac, .func (PySem.W.fnOf "read_function" "read_function" (defArgs sRead) (defBody sRead) (defScope sRead) .none kVc dcc pmc anc cdc ctc), sc⟩) (cc : PySem.W.codeIn K cdc "read_function" = true) (wc : PySem.W.keepIn K (.ref pc) = true) :
    Reads K mg := by
  have T : Txt K mg ⟨CL, NL, CN, NN, CT, CF, aB, aS, aW, aV, aM, aR⟩ := ⟨⟨⟨_, _, _, _, _, _, _, _, _, _, _, _, _, lL⟩, oL, pL⟩, ⟨⟨_, _, _, _, _, _, _, _, _, _, _, _, _, lN⟩, oN, pN⟩, ne, iL, n1, n2, n3, n4, PySem.W.mg_of X G eL, PySem.W.mg_of X G eN, PySem.W.mg_none_of X G g4,
    PySem.W.mg_of X G eT, ⟨pgT, hdT, poT, saT⟩, t1, t2, t3, PySem.W.mg_of X G eF, ⟨pgF, hdF, poF, saF⟩, f1, f2, ⟨_, PySem.W.mg_of X G v1⟩, ⟨_, PySem.W.mg_of X G v2⟩, ⟨_, PySem.W.mg_of X G v3⟩, ⟨_, PySem.W.mg_of X G v4⟩, ⟨_, PySem.W.mg_of X G v5⟩,
    PySem.W.mg_of X G q1, sq_mk r1 z1 y1, PySem.W.mg_of X G q2, sq_mk r2 z2 y2, PySem.W.mg_of X G q3, sq_mk r3 z3 y3, PySem.W.mg_of X G q6, sq_mk r6 z6 y6, PySem.W.mg_of X G q4, sq_mk r4 z4 y4, PySem.W.mg_of X G q5, sq_mk r5 z5 y5, PySem.W.mg_none_of X G g1, PySem.W.mg_none_of X G g2, PySem.W.mg_none_of X G g3⟩
  have D1 := df_mk (st := sBytes) (ps := ["name"]) X G m1 j1 c1 w1 fun _ _ _ _ _ _ us hl => match us, hl with | [_], _ => rfl
  have D2 := df_mk (st := sBlank) (ps := ["byte"]) X G m2 j2 c2 w2 fun _ _ _ _ _ _ us hl => match us, hl with | [_], _ => rfl
  have D3 := df_mk (st := sLetter) (ps := ["byte"]) X G m3 j3 c3 w3 fun _ _ _ _ _ _ us hl => match us, hl with | [_], _ => rfl
  have D4 := df_mk (st := sDigit) (ps := ["byte"]) X G m4 j4 c4 w4 fun _ _ _ _ _ _ us hl => match us, hl with | [_], _ => rfl
  have D5 := df_mk (st := sRun) (ps := ["text", "place", "belongs"]) X G m5 j5 c5 w5 fun _ _ _ _ _ _ us hl => match us, hl with | [_, _, _], _ => rfl
  have D6 := df_mk (st := sModW) (ps := ["text", "place"]) X G m6 j6 c6 w6 fun _ _ _ _ _ _ us hl => match us, hl with | [_, _], _ => rfl
  have D7 := df_mk (st := sSign) (ps := ["text", "place"]) X G m7 j7 c7 w7 fun _ _ _ _ _ _ us hl => match us, hl with | [_, _], _ => rfl
  have D8 := df_mk (st := sTok) (ps := ["text", "place"]) X G m8 j8 c8 w8 fun _ _ _ _ _ _ us hl => match us, hl with | [_, _], _ => rfl
  have D9 := df_mk (st := sFrom) (ps := ["text", "place"]) X G m9 j9 c9 w9 fun _ _ _ _ _ _ us hl => match us, hl with | [_, _], _ => rfl
  have Da := df_mk (st := sName) (ps := ["names", "token"]) X G ma ja ca wa fun _ _ _ _ _ _ us hl => match us, hl with | [_, _], _ => rfl
  have Db := df_mk (st := sMods) (ps := ["text", "place"]) X G mb jb cb wb fun _ _ _ _ _ _ us hl => match us, hl with | [_, _], _ => rfl
  have Dc := df_mk (st := sRead) (ps := ["text"]) X G mc jc cc wc fun _ _ _ _ _ _ us hl => match us, hl with | [_], _ => rfl
  have FX := fun_mk (st := sXInit) lX cX kX
  have bX := FX.binds (ps := ["self", "place"]) fun _ _ _ _ _ _ us hl => match us, hl with | [_, _], _ => rfl
  have FI := fun_mk (st := sTInit) lI cI kI
  have bI := FI.binds (ps := ["self", "begin", "spelling"]) fun _ _ _ _ _ _ us hl => match us, hl with | [_, _, _], _ => rfl
  have FJ := fun_mk (st := sFInit) lJ cJ kJ
  have bJ := FJ.binds (ps := ["self", "base", "modifiers"]) fun _ _ _ _ _ _ us hl => match us, hl with | [_, _, _], _ => rfl
  have DXX : DX K ⟨CL, NL, CN, NN, CT, CF, aB, aS, aW, aV, aM, aR⟩ fX _ := ⟨FX, bX, aX, ⟨_, lX, rfl⟩⟩
  refine ⟨⟨CL, NL, CN, NN, CT, CF, aB, aS, aW, aV, aM, aR⟩, pc, _, p1, _, T, Dc, D1, fun P w base => ?_⟩
  have GF := ok_from (P := P) (w := w) (base := base) D9.fn T D5 D2 D8 ⟨mkT, aI, iI, kcT⟩ FI bI D3 D4 D6 D7 D1
  have GN := ok_name (P := P) (w := w) (base := base) Da.fn T D1 DXX
  have GM := ok_mods (P := P) (w := w) (base := base) Db.fn T D9 GF Da GN DXX
  exact ok_read Dc.fn T D9 GF Da GN Db GM ⟨mkF, aJ, iJ, kcF⟩ FJ bJ
end Rk

set_option Elab.async false
set_option linter.all false
set_option maxRecDepth 100000
namespace Rk
open PySem PySem.Spec PyProof.Rows L2 Rx
open Vaarrc (Mod readMods readFun modText plainText)
/-! ### sizes of what is read -/
def okMod : Mod → Bool
  | .at_ k => decide (k ≤ 5)
  | _ => true
theorem mods_small (whole : Nat) : ∀ (n : Nat) (ts : Vaarrc.Toks) (ms : List Mod), readMods whole n ts = .ok ms → ms.length ≤ n ∧ ∀ m ∈ ms, okMod m = true
  | 0, ts, ms, h => by
    unfold readMods at h
    split at h
    · cases h; exact ⟨Nat.le_refl _, fun m hm => by cases hm⟩
    · cases h
  | n + 1, ts, ms, h => by
    have one : ∀ (m : Mod) (r : Vaarrc.Toks), okMod m = true → ((readMods whole n r).map fun l => m :: l) = .ok ms → ms.length ≤ n + 1 ∧ ∀ m ∈ ms, okMod m = true := fun m r hm e => by
      cases q : readMods whole n r with
      | error p => rw [q] at e; cases e
      | ok l =>
        rw [q] at e
        have e' : m :: l = ms := Except.ok.inj e
        subst e'
        obtain ⟨h1, h2⟩ := mods_small whole n r l q
        exact ⟨Nat.succ_le_succ h1, fun x hx => (List.mem_cons.mp hx).elim (fun y => by rw [y]; exact hm) (h2 x)⟩
    unfold readMods at h
    split at h
    · cases h; exact ⟨Nat.zero_le _, fun m hm => by cases hm⟩
    · split at h
      · rename_i n1 p w r x1 x2
        have en : n1 = n := by first | omega | exact (Nat.succ.inj x1).symm | exact Nat.succ.inj x1
        subst en
        split at h
        · exact one _ _ rfl h
        · split at h
          · exact one _ _ rfl h
          · split at h
            · exact one _ _ rfl h
            · split at h
              · exact one _ _ rfl h
              · split at h
                · split at h
                  · split at h
                    · rename_i d q hd
                      exact one (.at_ (d - 48)) q (decide_eq_true (show d - 48 ≤ 5 by omega)) h
                    · cases h
                  · cases h
                · cases h
      · cases h
theorem fun_small {t : List Nat} {f : Vaarrc.Fun} (h : readFun t = .ok f) : f.base ∈ baseNames ∧ f.mods.length ≤ 8 ∧ ∀ m ∈ f.mods, okMod m = true := by
  by_cases hs : spell t 0 ∈ baseNames
  · rw [fun_base hs] at h
    cases q : readMods t.length Vaarrc.MODS (toks t (tokE t 0)) with
    | error p => rw [q] at h; cases h
    | ok l =>
      rw [q] at h
      have e : ({ base := spell t 0, mods := l.reverse } : Vaarrc.Fun) = f := Except.ok.inj h
      subst e
      obtain ⟨h1, h2⟩ := mods_small _ _ _ _ q
      exact ⟨hs, by rw [List.length_reverse]; exact h1, fun m hm => h2 m (List.mem_reverse.mp hm)⟩
  · rw [fun_no hs] at h; cases h
end Rk

set_option Elab.async false
set_option linter.all false
set_option maxRecDepth 100000
namespace Rk
open PySem PySem.Spec PyProof.Rows L2 Rx
open PySem.W (CodeHd tabObj kla_obj kla_fn FnAt envX)
open Vaarrc (Mod readMods readFun usesOf)
/-! ### answer_of -/
/-- a refusal's class and number -/
structure XT (K : PySem.W.Frag) (mg : Str → Option Value) (x c : Str) (n : Int) (a : Addr × Addr) : Prop where
  xc : XC K a.1 a.2
  at_ : mg x = some (.ref a.1)
  num : ∃ t, mg c = some (.int n t)
structure AnsT (K : PySem.W.Frag) (mg : Str → Option Value) (q : Nat → Addr × Addr) : Prop where
  t0 : XT K mg "TooLong" "LONG" (-21) (q 0)
  t1 : XT K mg "NoFunction" "FUNCTION" (-22) (q 1)
  t2 : XT K mg "NoArray" "FORM" (-20) (q 2)
  t3 : XT K mg "NoSuchUse" "USE" (-11) (q 3)
  t4 : XT K mg "WrongShape" "SHAPE" (-1) (q 4)
  t5 : XT K mg "WrongRank" "RANK" (-2) (q 5)
  t6 : XT K mg "NoSuchCell" "INDEX" (-3) (q 6)
  t7 : XT K mg "ByZero" "ZERO" (-4) (q 7)
  t8 : XT K mg "NumberTooBig" "BIG" (-5) (q 8)
  t9 : XT K mg "NoShape" "SIZE" (-6) (q 9)
  ta : XT K mg "OutsideDomain" "DOMAIN" (-7) (q 10)
  tb : XT K mg "NothingToFold" "EMPTY" (-8) (q 11)
  nd : ((List.range 12).map fun i => (q i).1).Nodup
def ansTab (q : Nat → Addr × Addr) : List (Addr × Int) := [((q 0).1, -21), ((q 1).1, -22), ((q 2).1, -20), ((q 3).1, -11), ((q 4).1, -1), ((q 5).1, -2), ((q 6).1, -3), ((q 7).1, -4), ((q 8).1, -5), ((q 9).1, -6), ((q 10).1, -7), ((q 11).1, -8)]
/-- what a call answers of an exception -/
def ansEx (q : Nat → Addr × Addr) (Q : VK) : XK := fun C _ H => ∃ p ∈ ansTab q, C = .ref p.1 ∧ ∀ l, H l = none → Q (.ref l) (upd H l (.lst [.int p.2]))
def spAns (q : Nat → Addr × Addr) (g : Addr) (spg : Sp) : Sp := fun vs H Q _ => vs = [.ref g] ∧ ∀ E' : XK, (∀ C dx H', ansEx q Q C dx H' → E' C dx H') → spg [] H Q E'
def ansTS (n : Int) : TS := tRet (tLst (tCons (tC (.int n)) tNil))
theorem exTryL_of {n : Nat} {D : Ends} {C : Value} {dx : Option Addr} {H : Hp} : ∀ {cs : List Kz}, (cs.map fun c => c.C).Nodup → (∃ c ∈ cs, C = .ref c.C ∧ c.t (trEnds D) (none_of n) H) → exTryL n D cs C dx H
  | [], _, ⟨_, h, _⟩ => by cases h
  | d :: r, nd, ⟨c, hc, e, h⟩ => by
    rw [List.map_cons, List.nodup_cons] at nd
    rcases List.mem_cons.mp hc with z | z
    · subst z; exact .inl ⟨e, h⟩
    · refine .inr ⟨fun y => ?_, exTryL_of nd.2 ⟨c, z, e, h⟩⟩
      rw [e] at y
      have : c.C = d.C := Value.ref.inj y
      exact nd.1 (by rw [← this]; exact List.mem_map_of_mem z)
theorem kz_at {cs : List Kz} {i : Nat} {c : Kz} {F : Kz → Prop} (h : cs[i]? = some c) (f : F c) : ∃ c ∈ cs, F c := ⟨c, List.mem_of_getElem? h, f⟩
theorem kz_mk {X : Cx} {x : Str} {C N : Addr} {p q : Pos} {b : Stmt} {r : List Stmt} {t : TS} (xc : XC X.K C N) (gl : Gl X x) (mg : X.mg x = some (.ref C)) (db : (x == ("__debug__" : Str)) = false)
    (ps : ∀ (e : Addr) (pn : List (Addr × Obj)), PSs (X.hd e pn) (b :: r) t) : KzOk X ⟨x, C, N, p, q, b, r, t⟩ := ⟨xc, gl, mg, db, ps⟩
section
variable {P : Program} {w : World} {K : PySem.W.Frag} {mg : Str → Option Value} {base : Heap} {z : Adr} {q : Nat → Addr × Addr}
theorem scAn : FnScope ["call"] ["call"] (defScope sAns) := ⟨rfl, rfl, rfl, by decide +kernel, rfl, by decide +kernel, by decide +kernel⟩
theorem ok_ans {f g : Addr} {fd fdg : FuncData} {spg : Sp} {k : Nat} (F : Fun K "answer_of" "answer_of" sAns f fd) (T : AnsT K mg q) (G : FnOk P w K mg base (CXE P w) k g fdg [] spg) (bg : Binds K fdg [] []) (ag : FnAt g base) :
    FnOk P w K mg base (CXE P w) (k + 1) f fd ["call"] (spAns q g spg) := by
  refine F.okX scAn (fun vs H Q E h => ?_) (fun cdv A outer s H vs Q E hr h => ?_)
  · obtain ⟨rfl, _⟩ := h; rfl
  · obtain ⟨rfl, h⟩ := h
    obtain ⟨k0, e0⟩ := T.t0.num
    obtain ⟨k1, e1⟩ := T.t1.num
    obtain ⟨k2, e2⟩ := T.t2.num
    obtain ⟨k3, e3⟩ := T.t3.num
    obtain ⟨k4, e4⟩ := T.t4.num
    obtain ⟨k5, e5⟩ := T.t5.num
    obtain ⟨k6, e6⟩ := T.t6.num
    obtain ⟨k7, e7⟩ := T.t7.num
    obtain ⟨k8, e8⟩ := T.t8.num
    obtain ⟨k9, e9⟩ := T.t9.num
    obtain ⟨ka, ea⟩ := T.ta.num
    obtain ⟨kb, eb⟩ := T.tb.num
    refine ⟨_, pss_one (ps_tryL (tb := fun Ex => tRet (tCallW P w K mg base (CXE P w) k [] Ex 0 tNil))
      (c0 := ⟨"TooLong", (q 0).1, (q 0).2, _, _, _, _, ansTS (-21)⟩) (cr := [⟨"NoFunction", (q 1).1, (q 1).2, _, _, _, _, ansTS (-22)⟩, ⟨"NoArray", (q 2).1, (q 2).2, _, _, _, _, ansTS (-20)⟩, ⟨"NoSuchUse", (q 3).1, (q 3).2, _, _, _, _, ansTS (-11)⟩,
        ⟨"WrongShape", (q 4).1, (q 4).2, _, _, _, _, ansTS (-1)⟩, ⟨"WrongRank", (q 5).1, (q 5).2, _, _, _, _, ansTS (-2)⟩, ⟨"NoSuchCell", (q 6).1, (q 6).2, _, _, _, _, ansTS (-3)⟩, ⟨"ByZero", (q 7).1, (q 7).2, _, _, _, _, ansTS (-4)⟩,
        ⟨"NumberTooBig", (q 8).1, (q 8).2, _, _, _, _, ansTS (-5)⟩, ⟨"NoShape", (q 9).1, (q 9).2, _, _, _, _, ansTS (-6)⟩, ⟨"OutsideDomain", (q 10).1, (q 10).2, _, _, _, _, ansTS (-7)⟩, ⟨"NothingToFold", (q 11).1, (q 11).2, _, _, _, _, ansTS (-8)⟩])
      rfl rfl ?hc (fun pn Ev Ex hp => pss_one (ps_ret (pe_callW0 hr rfl (Or.inl rfl) hp)))), ?_⟩
    case hc =>
      refine List.forall_mem_cons.mpr ⟨kz_mk T.t0.xc rfl T.t0.at_ (by decide) (fun e pn => pss_one (ps_ret (pe_lst (pa_cons (pe_glob (v := .int (-21)) rfl e0 ⟨_, rfl⟩) pa_nil)))), ?_⟩
      refine List.forall_mem_cons.mpr ⟨kz_mk T.t1.xc rfl T.t1.at_ (by decide) (fun e pn => pss_one (ps_ret (pe_lst (pa_cons (pe_glob (v := .int (-22)) rfl e1 ⟨_, rfl⟩) pa_nil)))), ?_⟩
      refine List.forall_mem_cons.mpr ⟨kz_mk T.t2.xc rfl T.t2.at_ (by decide) (fun e pn => pss_one (ps_ret (pe_lst (pa_cons (pe_glob (v := .int (-20)) rfl e2 ⟨_, rfl⟩) pa_nil)))), ?_⟩
      refine List.forall_mem_cons.mpr ⟨kz_mk T.t3.xc rfl T.t3.at_ (by decide) (fun e pn => pss_one (ps_ret (pe_lst (pa_cons (pe_glob (v := .int (-11)) rfl e3 ⟨_, rfl⟩) pa_nil)))), ?_⟩
      refine List.forall_mem_cons.mpr ⟨kz_mk T.t4.xc rfl T.t4.at_ (by decide) (fun e pn => pss_one (ps_ret (pe_lst (pa_cons (pe_glob (v := .int (-1)) rfl e4 ⟨_, rfl⟩) pa_nil)))), ?_⟩
      refine List.forall_mem_cons.mpr ⟨kz_mk T.t5.xc rfl T.t5.at_ (by decide) (fun e pn => pss_one (ps_ret (pe_lst (pa_cons (pe_glob (v := .int (-2)) rfl e5 ⟨_, rfl⟩) pa_nil)))), ?_⟩
      refine List.forall_mem_cons.mpr ⟨kz_mk T.t6.xc rfl T.t6.at_ (by decide) (fun e pn => pss_one (ps_ret (pe_lst (pa_cons (pe_glob (v := .int (-3)) rfl e6 ⟨_, rfl⟩) pa_nil)))), ?_⟩
      refine List.forall_mem_cons.mpr ⟨kz_mk T.t7.xc rfl T.t7.at_ (by decide) (fun e pn => pss_one (ps_ret (pe_lst (pa_cons (pe_glob (v := .int (-4)) rfl e7 ⟨_, rfl⟩) pa_nil)))), ?_⟩
      refine List.forall_mem_cons.mpr ⟨kz_mk T.t8.xc rfl T.t8.at_ (by decide) (fun e pn => pss_one (ps_ret (pe_lst (pa_cons (pe_glob (v := .int (-5)) rfl e8 ⟨_, rfl⟩) pa_nil)))), ?_⟩
      refine List.forall_mem_cons.mpr ⟨kz_mk T.t9.xc rfl T.t9.at_ (by decide) (fun e pn => pss_one (ps_ret (pe_lst (pa_cons (pe_glob (v := .int (-6)) rfl e9 ⟨_, rfl⟩) pa_nil)))), ?_⟩
      refine List.forall_mem_cons.mpr ⟨kz_mk T.ta.xc rfl T.ta.at_ (by decide) (fun e pn => pss_one (ps_ret (pe_lst (pa_cons (pe_glob (v := .int (-7)) rfl ea ⟨_, rfl⟩) pa_nil)))), ?_⟩
      refine List.forall_mem_cons.mpr ⟨kz_mk T.tb.xc rfl T.tb.at_ (by decide) (fun e pn => pss_one (ps_ret (pe_lst (pa_cons (pe_glob (v := .int (-8)) rfl eb ⟨_, rfl⟩) pa_nil)))), ?_⟩
      exact fun c hc => by cases hc
    refine ⟨g, spg, fdg, rfl, G, bg, ag, h _ fun C dx H' hx => exTryL_of T.nd ?_⟩
    obtain ⟨p, hp, eC, hq⟩ := hx
    have fin : ∀ n : Int, (∀ l, H' l = none → Q (.ref l) (upd H' l (.lst [.int n]))) → ansTS n (trEnds { nx := fun _ H' => Q .non H', rt := Q }) (none_of 1) H' := fun n hn => ⟨by show 1 ≤ sizeLine; decide, fun l hl => hn l hl⟩
    simp only [ansTab, List.mem_cons, List.not_mem_nil, or_false] at hp
    rcases hp with y | y | y | y | y | y | y | y | y | y | y | y <;> subst y
    · exact kz_at (i := 0) rfl ⟨eC, fin _ hq⟩
    · exact kz_at (i := 1) rfl ⟨eC, fin _ hq⟩
    · exact kz_at (i := 2) rfl ⟨eC, fin _ hq⟩
    · exact kz_at (i := 3) rfl ⟨eC, fin _ hq⟩
    · exact kz_at (i := 4) rfl ⟨eC, fin _ hq⟩
    · exact kz_at (i := 5) rfl ⟨eC, fin _ hq⟩
    · exact kz_at (i := 6) rfl ⟨eC, fin _ hq⟩
    · exact kz_at (i := 7) rfl ⟨eC, fin _ hq⟩
    · exact kz_at (i := 8) rfl ⟨eC, fin _ hq⟩
    · exact kz_at (i := 9) rfl ⟨eC, fin _ hq⟩
    · exact kz_at (i := 10) rfl ⟨eC, fin _ hq⟩
    · exact kz_at (i := 11) rfl ⟨eC, fin _ hq⟩
end
/-! ### return f(lambda: ..) -/
def retArg (s : Stmt) : Expr := match defBody s with
  | [.Return (some (.Call _ [e] _ _)) _] => e
  | _ => .Constant .none 0 ⟨0, 0, 0, 0⟩
def lamParams (e : Expr) : Arguments := match e with
  | .Lambda a _ _ _ => a
  | _ => { posonlyargs := [], args := [], vararg := none, kwonlyargs := [], kw_defaults := [], kwarg := none, defaults := [] }
def lamBody (e : Expr) : Expr := match e with
  | .Lambda _ b _ _ => b
  | _ => .Constant .none 0 ⟨0, 0, 0, 0⟩
def lamScope (e : Expr) : Scope := match e with
  | .Lambda _ _ s _ => s
  | _ => { kind := .function, names := [], isGenerator := false, isCoroutine := false }
theorem free_in {sc : Scope} {fr : List Str} (h : ∀ p ∈ sc.names, p.2 = NameKind.free → p.1 ∈ fr) : ∀ y, sc.names.lookup y = some .free → y ∈ fr := fun y e => h _ (PySem.mem_of_lookup e) rfl
theorem sqL_tbl {K : PySem.W.Frag} {H : Hp} {a Pt : Addr} {xs : List V} {ps qs : Array Value} (h : SqL K H a xs) (hP : H Pt = some (.tbl ps)) : SqL K (upd H Pt (.tbl qs)) a xs := by
  have ne : ∀ o, H a = some o → o ≠ .tbl ps → a ≠ Pt := fun o e d z => by rw [z, hP] at e; exact d (Option.some.inj e).symm
  rcases h with (h | ⟨ob, h⟩) | h
  · exact .inl (.inl (by rw [upd_ne (ne _ h (fun z => nomatch z))]; exact h))
  · exact .inl (.inr ⟨ob, by rw [upd_ne (ne _ h (fun z => nomatch z))]; exact h⟩)
  · exact .inr h
theorem xt_mk {K : PySem.W.Frag} {h : Heap} {mg : Str → Option Value} {x c : Str} {n : Int} {C N : Addr} {nm q : Str} {bs : List Value} {sn : List Str} {sub : List Value} {ab : Bool} {col : Option Bool} {dd : Option Addr} {k0 k1 k2 k3 k5 : Option Value} {t : Tok}
    (X : K.In h) (G : h.Ns mainGlobals mg) (e : PySem.W.nsIn K mainGlobals x = some (some (.ref C))) (l : K.lookup C = some (excClassObj nm q C N bs bmE true sn sub ab col dd k0 k1 k2 k3 k5 "Exception.__new__")) (o : PySem.W.nsOkIn K N = true) (p : PySem.W.keepIn K (.ref C) = true)
    (v : PySem.W.nsIn K mainGlobals c = some (some (.int n t))) : XT K mg x c n (C, N) := ⟨⟨⟨_, _, _, _, _, _, _, _, _, _, _, _, _, l⟩, o, p⟩, PySem.W.mg_of X G e, ⟨_, PySem.W.mg_of X G v⟩⟩
theorem ans_mk {K : PySem.W.Frag} {mg : Str → Option Value} {a0 a1 a2 a3 a4 a5 a6 a7 a8 a9 aa ab : Addr × Addr} (t0 : XT K mg "TooLong" "LONG" (-21) a0) (t1 : XT K mg "NoFunction" "FUNCTION" (-22) a1) (t2 : XT K mg "NoArray" "FORM" (-20) a2) (t3 : XT K mg "NoSuchUse" "USE" (-11) a3)
    (t4 : XT K mg "WrongShape" "SHAPE" (-1) a4) (t5 : XT K mg "WrongRank" "RANK" (-2) a5) (t6 : XT K mg "NoSuchCell" "INDEX" (-3) a6) (t7 : XT K mg "ByZero" "ZERO" (-4) a7) (t8 : XT K mg "NumberTooBig" "BIG" (-5) a8) (t9 : XT K mg "NoShape" "SIZE" (-6) a9)
    (ta : XT K mg "OutsideDomain" "DOMAIN" (-7) aa) (tb : XT K mg "NothingToFold" "EMPTY" (-8) ab) (nd : ([a0, a1, a2, a3, a4, a5, a6, a7, a8, a9, aa, ab].map (·.1)).Nodup) :
    AnsT K mg (fun i => [a0, a1, a2, a3, a4, a5, a6, a7, a8, a9, aa, ab].getD i (0, 0)) := ⟨t0, t1, t2, t3, t4, t5, t6, t7, t8, t9, ta, tb, nd⟩
end Rk

set_option Elab.async false
set_option linter.all false
set_option maxRecDepth 100000
namespace Rk
open PySem PySem.Spec PyProof.Rows L2 Rx
open PySem.W (CodeHd tabObj kla_obj kla_fn FnAt envX TabsAt)
open Vaarrc (Mod readMods readFun usesOf)
section
variable {P : Program} {w : World} {K : PySem.W.Frag} {mg : Str → Option Value} {base : Heap} {z : Adr} {q : Nat → Addr × Addr}
/-! ### uses_of -/
def uB (b : List Nat) : Int := if b = Vaarrc.str "-" then 3 else if b ∈ oneS.map cp then 1 else 2
def uN (u : Bool × Bool) : Int := ((u.1.toNat + 2 * u.2.toNat : Nat) : Int)
theorem uB_eq : ∀ b ∈ baseNames, uB b = uN (usesOf b []) := by decide +kernel
def stepU (u : Bool × Bool) (m : Mod) : Bool × Bool := match m with
  | .fold => (u.2, u.2)
  | .scan => (u.2, u.2)
  | .swap => (u.2, u.2)
  | .table => u
  | .at_ _ => u
theorem uses_fold (b : List Nat) (ms : List Mod) : usesOf b ms = ms.reverse.foldl stepU (usesOf b []) := by
  induction ms with
  | nil => rfl
  | cons m r ih =>
    rw [List.reverse_cons, List.foldl_append, ← ih]
    cases m <;> rfl
theorem scUB : FnScope ["base"] ["base"] (defScope sUBase) := ⟨rfl, rfl, rfl, by decide +kernel, rfl, by decide +kernel, by decide +kernel⟩
def spUB : Sp := fun vs H Q _ => ∃ b : List Nat, vs = [.str ⟨b.toArray⟩] ∧ Q (.int (uB b)) H
structure UsT (mg : Str → Option Value) : Prop where
  k1 : ∃ t, mg "WITH_ONE" = some (.int 1 t)
  k2 : ∃ t, mg "WITH_TWO" = some (.int 2 t)
theorem str_eq (b : List Nat) (c : Str) : decide (V.str ⟨b.toArray⟩ = V.str c) = decide (b = cp c) := by
  by_cases h : b = cp c
  · subst h
    simp
  · rw [decide_eq_false h, decide_eq_false]
    intro e
    apply h
    have : (⟨b.toArray⟩ : Str) = c := by injection e
    rw [← this]
theorem in_strs (b : List Nat) : ∀ l : List Str, inV (.str ⟨b.toArray⟩) (l.map V.str) = decide (b ∈ l.map cp)
  | [] => by simp [inV]
  | c :: r => by
    have ih := in_strs b r
    unfold inV at ih ⊢
    rw [List.map_cons, List.any_cons, ih, List.map_cons]
    have e : eqV (V.str c) (V.str ⟨b.toArray⟩) = decide (b = cp c) := by
      show (c == (⟨b.toArray⟩ : Str)) = _
      by_cases h : b = cp c
      · subst h; simp
      · rw [decide_eq_false h, beq_eq_false_iff_ne]
        intro e; apply h; rw [e]
    rw [e, ← Bool.decide_or]
    congr 1
    simp [List.mem_cons]
theorem ok_ubase {f : Addr} {fd : FuncData} (F : Fun K "uses_of_base" "uses_of_base" sUBase f fd) (T : Txt K mg z) (U : UsT mg) : FnOk P w K mg base (CXE P w) 1 f fd ["base"] spUB := by
  obtain ⟨t1, k1⟩ := U.k1
  obtain ⟨t2, k2⟩ := U.k2
  refine F.okX scUB (fun vs H Q E h => ?_) (fun cdv A outer s H vs Q E hr h => ?_)
  · obtain ⟨b, rfl, _⟩ := h; rfl
  · obtain ⟨b, rfl, hq⟩ := h
    refine ⟨_, pss_cons (ps_if (pt_cmpR op_eq (pv 0) pe_str (nomark _)) (pss_one (ps_ret (pe_op op_add (pe_glob (v := .int 1) rfl k1 ⟨_, rfl⟩) (pe_glob (v := .int 2) rfl k2 ⟨_, rfl⟩)))) pss_nil)
      (pss_cons (ps_if (pt_cmpR op_in_seq (pv 0) (pe_glob (v := .ref z.aW) rfl T.mW rfl) (by with_unfolding_all rfl)) (pss_one (ps_ret (pe_glob (v := .int 1) rfl k1 ⟨_, rfl⟩))) pss_nil)
      (pss_one (ps_ret (pe_glob (v := .int 2) rfl k2 ⟨_, rfl⟩)))), ?_⟩
    refine ⟨_, rfl, rfl, _, rfl, ite2 (fun c => ?_) fun c => ?_⟩
    · have c' : b = Vaarrc.str "-" := by
        have := str_eq b "-"
        rw [c] at this
        exact of_decide_eq_true this.symm
      refine ⟨_, _, rfl, rfl, ?_⟩
      have e : uB b = 3 := if_pos c'
      rw [e] at hq
      exact hq
    have c' : b ≠ Vaarrc.str "-" := fun y => c (by rw [str_eq b "-"]; exact decide_eq_true y)
    refine ⟨_, rfl, z.aW, _, rfl, .inr (T.vW _), rfl, by decide +kernel, _, rfl, ite2 (fun d => ?_) fun d => ?_⟩
    · have d' : b ∈ oneS.map cp := by
        have d1 : inV (.str ⟨b.toArray⟩) (oneS.map V.str) = true := d
        rw [in_strs] at d1
        exact of_decide_eq_true d1
      have e : uB b = 1 := by unfold uB; rw [if_neg c', if_pos d']
      rw [e] at hq
      exact hq
    · have d' : ¬ b ∈ oneS.map cp := fun y => d (by
        show inV (.str ⟨b.toArray⟩) (oneS.map V.str) = true
        rw [in_strs]; exact decide_eq_true y)
      have e : uB b = 2 := by unfold uB; rw [if_neg c', if_neg d']
      rw [e] at hq
      exact hq
theorem scMT : FnScope ["uses"] ["uses"] (defScope sMay2) := ⟨rfl, rfl, rfl, by decide +kernel, rfl, by decide +kernel, by decide +kernel⟩
def spM2 : Sp := fun vs H Q _ => ∃ u : Bool × Bool, vs = [.int (uN u)] ∧ Q (.bl u.2) H
theorem may2_eq : ∀ u : Bool × Bool, (!decide (V.int (Builtin.bitAnd (uN u) 2) = V.int 0)) = u.2 := by
  rintro ⟨a, b⟩
  cases a <;> cases b <;> decide +kernel
theorem ok_may2 {f : Addr} {fd : FuncData} (F : Fun K "may_with_two" "may_with_two" sMay2 f fd) (U : UsT mg) : FnOk P w K mg base (CXE P w) 1 f fd ["uses"] spM2 := by
  obtain ⟨t2, k2⟩ := U.k2
  refine F.okX scMT (fun vs H Q E h => ?_) (fun cdv A outer s H vs Q E hr h => ?_)
  · obtain ⟨u, rfl, _⟩ := h; rfl
  · obtain ⟨u, rfl, hq⟩ := h
    refine ⟨_, pss_one (ps_ret (pe_cmpR op_ne (pe_op op_and (pv 0) (pe_glob (v := .int 2) rfl k2 ⟨_, rfl⟩)) pe_int (nomark _))), ?_⟩
    refine ⟨_, rfl, _, _, rfl, rfl, rfl, ?_⟩
    rw [may2_eq u]
    exact hq
theorem scUO : FnScope ["function", "uses", "modifier"] ["function"] (defScope sUses0) := ⟨rfl, rfl, rfl, by decide +kernel, rfl, by decide +kernel, by decide +kernel⟩
def spUO (z : Adr) : Sp := fun vs H Q _ => ∃ (x : Addr) (f : Vaarrc.Fun), vs = [.ref x] ∧ FunAt z.CF H x f ∧ f.base ∈ baseNames ∧ f.mods.length ≤ 8 ∧ ∀ H', Same H H' → Q (.int (uN (usesOf f.base f.mods))) H'
theorem paired_at' {α β : Type} {G : α → β → Prop} : ∀ {l₁ : List α} {l₂ : List β}, Paired G l₁ l₂ → ∀ {i : Nat} {a : α}, l₁[i]? = some a → ∃ b, l₂[i]? = some b ∧ G a b
  | _, _, .nil, i, a, h => by simp at h
  | _, _, .cons r t, 0, a, h => by
    have e := Option.some.inj h
    subst e
    exact ⟨_, rfl, r⟩
  | _, _, .cons r t, i + 1, a, h => paired_at' t (i := i) h
structure MwT (mg : Str → Option Value) : Prop where
  kf : ∃ t, mg "FOLD" = some (.str ":fold" t)
  ks : ∃ t, mg "SCAN" = some (.str ":scan" t)
  kw : ∃ t, mg "SWAP" = some (.str ":swap" t)
def isFSW : Mod → Bool
  | .fold => true
  | .scan => true
  | .swap => true
  | _ => false
theorem word_in (m : Mod) : inV (.str ⟨(modWord m).toArray⟩) [V.str ":fold", V.str ":scan", V.str ":swap"] = isFSW m := by
  cases m <;> first | decide +kernel | (show inV (.str ⟨(Vaarrc.str ":at").toArray⟩) _ = false; decide +kernel)
theorem ok_uses0 {f fB fM : Addr} {fd fdB fdM : FuncData} (F : Fun K "uses_of" "uses_of" sUses0 f fd) (T : Txt K mg z) (U : UsT mg) (W : MwT mg) (DB : Df K mg "uses_of_base" sUBase ["base"] fB fdB) (DM : Df K mg "may_with_two" sMay2 ["uses"] fM fdM) :
    FnOk P w K mg base (CXE P w) 2 f fd ["function"] (spUO z) := by
  obtain ⟨t1, k1⟩ := U.k1
  obtain ⟨t2, k2⟩ := U.k2
  obtain ⟨tf, kf⟩ := W.kf
  obtain ⟨ts, ks⟩ := W.ks
  obtain ⟨tw, kw⟩ := W.kw
  have GB : FnOk P w K mg base (CXE P w) 1 fB fdB _ _ := ok_ubase DB.fn T U
  have GM : FnOk P w K mg base (CXE P w) 1 fM fdM _ _ := ok_may2 DM.fn U
  refine F.okX scUO (fun vs H Q E h => ?_) (fun cdv A outer s H vs Q E hr h => ?_)
  · obtain ⟨x, fu, rfl, _⟩ := h; rfl
  · obtain ⟨x, fu, rfl, ⟨dx, l, as, hx, hl, hm⟩, hb, h8, hq⟩ := h
    refine ⟨_, pss_cons (ps_set (i := 1) scUO.nd rfl (Or.inl rfl) (pe_call GB hr rfl DB.at_ DB.fn.kp DB.bd .nil passE (pa_cons (pe_fld (pv 0) rfl) pa_nil)))
      (pss_cons (ps_for ownX rfl (pi_list (pe_fld (pv 0) rfl)) (pg_name (i := 2) scUO.nd rfl (Or.inl rfl))
        (pss_one (ps_if (pt_cmpR op_in_seq (pe_ix ix_tup (pv 2) pe_int (fun _ _ => rfl)) (pe_tup (pa_cons (pe_glob (v := .str ":fold") rfl kf ⟨_, rfl⟩) (pa_cons (pe_glob (v := .str ":scan") rfl ks ⟨_, rfl⟩) (pa_cons (pe_glob (v := .str ":swap") rfl kw ⟨_, rfl⟩) pa_nil)))) (by with_unfolding_all rfl))
          (pss_one (ps_set (i := 1) scUO.nd rfl (Or.inl rfl) (pe_ifExp (pt_val (pe_call GM hr rfl DM.at_ DM.fn.kp DM.bd .nil passE (pa_cons (pv 1) pa_nil))) (pe_op op_add (pe_glob (v := .int 1) rfl k1 ⟨_, rfl⟩) (pe_glob (v := .int 2) rfl k2 ⟨_, rfl⟩)) pe_int))) pss_nil)))
      (pss_one (ps_ret (pv 1)))), ?_⟩
    refine ⟨_, rfl, x, z.CF, dx, _, .str ⟨fu.base.toArray⟩, rfl, hx, T.cF, T.fb, funF_b _ _, fu.base, rfl, ?_⟩
    refine ⟨_, rfl, x, z.CF, dx, _, .ref l, rfl, hx, T.cF, T.fm, funF_m _ _, l, rfl, ⟨_, SqL.of hl⟩,
      for_list (K := K) (a := l) (xs := as.map V.ref) (fun i σ H' => ∃ v2 : Option V, σ = [some (.ref x), some (.int (uN ((fu.mods.reverse.take i).foldl stepU (usesOf fu.base [])))), v2] ∧ Same H H')
        ⟨none, by rw [uB_eq _ hb]; rfl, Same.refl H⟩ (fun i σ H' _ ⟨_, _, s1⟩ => SqL.of (s1 _ _ hl)) ?_ ?_⟩
    · rintro i y σ H' hi ⟨v2, rfl, s1⟩
      obtain ⟨b, hb', rfl⟩ : ∃ b, as[i]? = some b ∧ y = V.ref b := by
        rw [List.getElem?_map] at hi
        cases e : as[i]? with
        | none => rw [e] at hi; cases hi
        | some b => rw [e] at hi; exact ⟨b, rfl, (Option.some.inj hi).symm⟩
      obtain ⟨m, hm', tb⟩ := paired_at' hm hb'
      have tb1 := s1 _ _ tb
      have nx : (fu.mods.reverse.take (i + 1)).foldl stepU (usesOf fu.base []) = stepU ((fu.mods.reverse.take i).foldl stepU (usesOf fu.base [])) m := by
        rw [List.take_succ, hm', List.foldl_append]; rfl
      generalize (fu.mods.reverse.take i).foldl stepU (usesOf fu.base []) = u at nx ⊢
      refine ⟨_, rfl, b, _, 0, .str ⟨(modWord m).toArray⟩, rfl, rfl, SqT.of tb1, rfl, (by show 3 ≤ sizeLine; decide), fun p hp => ?_⟩
      have s2 : Same H (upd H' p (.tup [.str ":fold", .str ":scan", .str ":swap"])) := Same.upd s1 hp
      refine ⟨p, _, rfl, .inr (SqT.of upd_same), rfl, by decide +kernel, _, rfl, ite2 (fun c => ?_) fun c => ?_⟩
      · have c' : isFSW m = true := by rw [← word_in m]; exact c
        have e2 : stepU u m = (u.2, u.2) := by cases m <;> first | rfl | cases c'
        refine ⟨_, rfl, u, rfl, _, rfl, ?_⟩
        cases hu : u.2 with
        | true =>
          refine ⟨_, _, rfl, rfl, some (.ref b), ?_, s2⟩
          rw [nx, e2, hu]; rfl
        | false =>
          refine ⟨some (.ref b), ?_, s2⟩
          rw [nx, e2, hu]; rfl
      · have c' : ¬ isFSW m = true := by rw [← word_in m]; exact c
        have e2 : stepU u m = u := by cases m <;> first | rfl | exact absurd rfl c'
        refine ⟨some (.ref b), ?_, s2⟩
        rw [nx, e2]; rfl
    · rintro σ H' ⟨v2, rfl, s1⟩
      refine ⟨_, rfl, ?_⟩
      have el : (as.map V.ref).length = fu.mods.reverse.length := by rw [List.length_map]; exact hm.len
      rw [el, List.take_length, ← uses_fold]
      exact hq _ s1
end
end Rk

set_option Elab.async false
set_option linter.all false
set_option maxRecDepth 100000
namespace Rk
open PySem PySem.Spec PyProof.Rows L2 Rx
open PySem.W (CodeHd tabObj kla_obj kla_fn FnAt envX TabsAt)
open Vaarrc (Mod readMods readFun usesOf)
section
variable {P : Program} {w : World} {K : PySem.W.Frag} {mg : Str → Option Value} {base : Heap} {z : Adr} {q : Nat → Addr × Addr}
/-! ### uses -/
def ansU (t : List Nat) : List Int := if 256 < t.length then [-21] else match readFun t with
  | .ok f => [uN (usesOf f.base f.mods)]
  | .error _ => [-22]
def spLU (z : Adr) (K : PySem.W.Frag) (a : Addr) (t : List Nat) : Sp := fun vs H Q E => vs = [] ∧ SqL K H a (tv t) ∧ (256 < t.length → ∀ H', Same H H' → E (.ref z.CL) none H') ∧ (t.length ≤ 256 → ∀ p, readFun t = .error p → Raised z.CN E H p) ∧
  (t.length ≤ 256 → ∀ f, readFun t = .ok f → ∀ H' l, Same H H' → H' l = some (.lst [.int (uN (usesOf f.base f.mods))]) → Q (.ref l) H')
theorem scLU : CloSc ["f"] [] ["f"] (lamScope (retArg sUses)) := ⟨rfl, rfl, rfl, by decide +kernel, rfl, rfl, (fun x h => by cases h), by decide +kernel, free_in (by decide +kernel), by decide +kernel⟩
theorem scUs : FnScope ["f"] ["f"] (defScope sUses) := ⟨rfl, rfl, rfl, by decide +kernel, rfl, by decide +kernel, by decide +kernel⟩
def spUses (Pt : Addr) (K : PySem.W.Frag) : Sp := fun vs H Q _ => ∃ (a : Addr) (t : List Nat), vs = [.ref a] ∧ SqL K H a (tv t) ∧ H Pt = some (.tbl #[]) ∧ ∀ H' l, H' l = some (.lst ((ansU t).map V.int)) → Q (.ref l) H'
theorem ok_lamU {g c' fR fU : Addr} {pm ctv : Value} {cl : List (Str × Addr)} {fdR fdU : FuncData} {name qual : Str} {a : Addr} {t : List Nat}
    (ho : base.get? g = some (kla_obj name qual (lamParams (retArg sUses)) (lamBody (retArg sUses)) (lamScope (retArg sUses)) cl pm c' ctv)) (hcr : base.CodeRec (.ref c') qual) (C : CloC base cl ["f"] [.ref a])
    (T : Txt K mg z) (DR : Df K mg "read_function" sRead ["text"] fR fdR) (GR : FnOk P w K mg base (CXE P w) 7 fR fdR ["text"] (spRead z K)) (DU : Df K mg "uses_of" sUses0 ["function"] fU fdU) (GU : FnOk P w K mg base (CXE P w) 2 fU fdU ["function"] (spUO z)) :
    FnOk P w K mg base (CXE P w) 8 g (kla_fn name qual (lamParams (retArg sUses)) (lamBody (retArg sUses)) (lamScope (retArg sUses)) cl pm (.ref c') ctv) [] (spLU z K a t) := by
  refine lam_fn ho hcr scLU C (fun vs H Q E h => by obtain ⟨rfl, _⟩ := h; rfl) fun A outer s H vs Q E hr h => ?_
  obtain ⟨rfl, hS, h1, h2, h3⟩ := h
  have hr2 : Room 2 _ := hr.mono (by decide)
  refine ⟨_, pe_lst (pa_cons (pe_call GU hr2 rfl DU.at_ DU.fn.kp DU.bd .nil passE (pa_cons (pe_call GR hr rfl DR.at_ DR.fn.kp DR.bd .nil (passG rfl) (pa_cons (pv 0) pa_nil)) pa_nil)) pa_nil), ?_⟩
  refine ⟨_, rfl, a, t, rfl, hS, h1, fun c f er H' x s1 hf => ?_, h2⟩
  obtain ⟨g1, g2, g3⟩ := fun_small er
  refine ⟨x, f, rfl, hf, g1, g2, fun H2 s2 => ⟨by show 1 ≤ sizeLine; decide, fun l hl => ?_⟩⟩
  exact h3 c f er _ l (Same.upd (s1.trans s2) hl) upd_same
theorem ok_usesF {f c Pt fA fR fU : Addr} {oc : Value} {od an : Option Addr} {osl : Array (Option Value)} {kV doc pm ct : Value} {fdA fdR fdU : FuncData}
    (lk : K.lookup f = some ⟨oc, od, .func (PySem.W.fnOf "uses" "uses" (defArgs sUses) (defBody sUses) (defScope sUses) .none kV doc pm an (.ref c) ct), osl⟩) (hcd : PySem.W.codeIn K (.ref c) "uses" = true)
    (C : CodeHd base c Pt) (B : L2.BMain base mg) (T : Txt K mg z) (X : AnsT K mg q) (DA : Df K mg "answer_of" sAns ["call"] fA fdA)
    (DR : Df K mg "read_function" sRead ["text"] fR fdR) (GR : ∀ b', FnOk P w K mg b' (CXE P w) 7 fR fdR ["text"] (spRead z K)) (DU : Df K mg "uses_of" sUses0 ["function"] fU fdU) (GU : ∀ b', FnOk P w K mg b' (CXE P w) 2 fU fdU ["function"] (spUO z)) :
    FnOk P w K mg base (CXE P w) 10 f (PySem.W.fnOf "uses" "uses" (defArgs sUses) (defBody sUses) (defScope sUses) .none kV doc pm an (.ref c) ct) ["f"] (spUses Pt K) := by
  have e0 : z.CL = (q 0).1 := by
    have := T.mL.symm.trans X.t0.at_
    injection this with this; injection this
  have e1 : z.CN = (q 1).1 := by
    have := T.mN.symm.trans X.t1.at_
    injection this with this; injection this
  refine fn_of lk hcd scUs (fun vs H Q E h => by obtain ⟨a, t, rfl, _⟩ := h; rfl) fun A outer s H vs Q E hr h => ?_
  obtain ⟨a, t, rfl, hS, hP, hq⟩ := h
  refine ⟨_, pss_one (ps_ret (pe_callLam (CX := CXE P w) (c := c) (P := Pt) (E := E0) (y := "call") rfl C B rfl (fun _ => rfl) hr rfl DA.at_ DA.fn.kp DA.bd passE ?hf)), ?_⟩
  case hf =>
    intro y hy e
    have : y.1 ∈ (["f"] : List Str) := (by decide +kernel : ∀ p ∈ (lamScope (retArg sUses)).names, p.2 = NameKind.free → p.1 ∈ (["f"] : List Str)) y hy e
    rw [List.mem_singleton.mp this]
    exact cell_has rfl
  refine ⟨#[], hP, trivial, rfl, fun b' g c' pm ctv L => ?_⟩
  have CC := L.clo (fr := ["f"]) (fvs := [.ref a]) rfl (by decide +kernel) (fun x hx => (by decide +kernel : ∀ p ∈ (lamScope (retArg sUses)).names, p.2 = NameKind.free → p.1 ∈ (["f"] : List Str)) _ hx rfl) (fun j x hj => by
    match j, hj with
    | 0, hj => cases hj; exact ⟨0, .ref a, rfl, rfl, rfl, .inl rfl⟩
    | j + 1, hj => simp at hj)
  have GL := ok_lamU (P := P) (w := w) (t := t) L.obj L.code CC T DR (GR b') DU (GU b')
  refine ⟨_, ok_ans DA.fn X GL (.all fun us hl => match us, hl with | [], _ => rfl) ⟨_, _, _, _, L.obj⟩, rfl, fun E' hE => ⟨rfl, sqL_tbl hS hP, fun c1 H' s1 => hE _ _ _ ⟨((q 0).1, -21), by simp [ansTab], by rw [e0], fun l hl => ?_⟩, fun c1 p er H' dx s1 hd => hE _ _ _ ⟨((q 1).1, -22), by simp [ansTab], by rw [e1], fun l hl => ?_⟩, fun c1 f er H' l s1 hl => ?_⟩⟩
  · refine hq _ l ?_
    rw [upd_same, show ansU t = [-21] from if_pos c1]; rfl
  · refine hq _ l ?_
    have e : ansU t = [-22] := by unfold ansU; rw [if_neg (by omega), er]
    rw [upd_same, e]; rfl
  · refine hq _ l ?_
    have e : ansU t = [uN (usesOf f.base f.mods)] := by unfold ansU; rw [if_neg (by omega), er]
    rw [hl, e]; rfl
end
theorem uses_eq {ns : List Int} (h : ∀ x ∈ ns, 0 ≤ x ∧ x ≤ 255) : PyVaarrc.uses ns = ansU (ns.map fun b => b.toNat) := by
  unfold PyVaarrc.uses VaarrcNeutral.step
  have e : VaarrcNeutral.callOf [[2], ns] = some (.uses (ns.map fun b => b.toNat)) := by
    show (VaarrcNeutral.text ns).map Vaarrc.Call.uses = _
    rw [bytes_ok h]; rfl
  rw [e]
  show VaarrcNeutral.encode (Vaarrc.answer (.uses (ns.map fun b => b.toNat))) = _
  unfold Vaarrc.answer ansU Vaarrc.withFun
  dsimp only
  by_cases c : 256 < (ns.map fun b => b.toNat).length
  · rw [if_pos c, if_pos c]; rfl
  · rw [if_neg c, if_neg c]
    cases Vaarrc.readFun (ns.map fun b => b.toNat) <;> rfl
end Rk

set_option Elab.async false
set_option linter.all false
set_option maxRecDepth 100000
namespace Rk
open PySem PySem.Spec PyProof.Rows L2 Rx
open PySem.W (CodeHd tabObj TabsAt)
/-- the promise of uses, its table as the head gives it -/
def spUsesT (tabs : List (Addr × Addr)) (K : PySem.W.Frag) : Sp := fun vs H Q _ => ∃ (a : Addr) (t : List Nat), vs = [.ref a] ∧ SqL K H a (tv t) ∧ (∀ q ∈ tabs, H q.2 = some (.tbl #[])) ∧ ∀ H' l, H' l = some (.lst ((ansU t).map V.int)) → Q (.ref l) H'
theorem uses_mk {P : Program} {w : World} {K : PySem.W.Frag} {h : Heap} {mg : Str → Option Value} {fa f c Pt : Addr} {oc : Value} {od an : Option Addr} {osl : Array (Option Value)} {kV doc pm ct : Value} {q : Nat → Addr × Addr} {fA fB fM fU : Addr} {fdA fdB fdM fdU : FuncData} {k1 k2 kf ks kw : Tok}
    (X : K.In h) (G : h.Ns mainGlobals mg) (hfa : mg "uses" = some (.ref fa)) (e : PySem.W.nsIn K mainGlobals "uses" = some (some (.ref f)))
    (lk : K.lookup f = some ⟨oc, od, .func (PySem.W.fnOf "uses" "uses" (defArgs sUses) (defBody sUses) (defScope sUses) .none kV doc pm an (.ref c) ct), osl⟩) (hcd : PySem.W.codeIn K (.ref c) "uses" = true)
    (hT : TabsAt [(c, Pt)] h) (hK : PySem.W.noTabs K = true) (R : Reads K mg) (A : AnsT K mg q)
    (v1 : PySem.W.nsIn K mainGlobals "WITH_ONE" = some (some (.int 1 k1))) (v2 : PySem.W.nsIn K mainGlobals "WITH_TWO" = some (some (.int 2 k2))) (v3 : PySem.W.nsIn K mainGlobals "FOLD" = some (some (.str ":fold" kf))) (v4 : PySem.W.nsIn K mainGlobals "SCAN" = some (some (.str ":scan" ks))) (v5 : PySem.W.nsIn K mainGlobals "SWAP" = some (some (.str ":swap" kw)))
    (DA : Df K mg "answer_of" sAns ["call"] fA fdA) (DB : Df K mg "uses_of_base" sUBase ["base"] fB fdB) (DM : Df K mg "may_with_two" sMay2 ["uses"] fM fdM) (DU : Df K mg "uses_of" sUses0 ["function"] fU fdU) :
    ∃ (tabs : List (Addr × Addr)) (fd : FuncData), TabsAt tabs h ∧ PySem.W.noTabs K = true ∧ (∀ (s : Shared) (us : List Value), us.length = (["f"] : List Str).length → BindsTo s fd ⟨us, []⟩ ((["f"] : List Str).zip us)) ∧
      ∀ base : Heap, K.In base → base.Ns mainGlobals mg → (∀ q ∈ tabs, CodeHd base q.1 q.2) → L2.BMain base mg → FnOk P w K mg base (CXE P w) 10 fa fd ["f"] (spUsesT tabs K) := by
  have e2 := hfa.symm.trans (PySem.W.mg_of X G e)
  cases e2
  obtain ⟨z, fR, fdR, fY, fdY, T, DR, DY, GR⟩ := R
  have U : UsT mg := ⟨⟨_, PySem.W.mg_of X G v1⟩, ⟨_, PySem.W.mg_of X G v2⟩⟩
  have W : MwT mg := ⟨⟨_, PySem.W.mg_of X G v3⟩, ⟨_, PySem.W.mg_of X G v4⟩, ⟨_, PySem.W.mg_of X G v5⟩⟩
  refine ⟨[(c, Pt)], PySem.W.fnOf "uses" "uses" (defArgs sUses) (defBody sUses) (defScope sUses) .none kV doc pm an (.ref c) ct, hT, hK, fun s us hu => match us, hu with | [_], _ => .of_eq rfl, fun base _ _ hC B => ?_⟩
  refine FnOk.imp (ok_usesF lk hcd (hC _ List.mem_cons_self) B T A DA DR (GR P w) DU fun b' => ok_uses0 DU.fn T U W DB DM) fun vs H Q E hx => ?_
  obtain ⟨a, t, h1, h2, h3, h4⟩ := hx
  exact ⟨a, t, h1, h2, h3 _ List.mem_cons_self, h4⟩
end Rk

set_option Elab.async false
open PySem PySem.W PyProof.Rows
/-! ### the part of the heap that is written out, and the names that the top binds -/
namespace Rk
open PySem PySem.Spec PyProof.Rows L2 Rx
set_option maxRecDepth 100000
noncomputable def heapK (P : Params) : PySem.W.Frag :=
  (nat_lit 2, ⟨.none, none, (.dict #[Hx.ent P "type.__subclasses__.Exception.0" 241 (.int (24) 0), Hx.ent P "type.__subclasses__.Exception.n" 242 (.int (12) 0), Hx.ent P "type.__subclasses__.Exception.1" 261 (.int (37) 0), Hx.ent P "type.__subclasses__.Exception.2" 281 (.int (50) 0), Hx.ent P "type.__subclasses__.Exception.3" 301 (.int (63) 0), Hx.ent P "type.__subclasses__.Exception.4" 321 (.int (76) 0), Hx.ent P "type.__subclasses__.Exception.5" 341 (.int (89) 0), Hx.ent P "type.__subclasses__.Exception.6" 361 (.int (102) 0), Hx.ent P "type.__subclasses__.Exception.7" 381 (.int (115) 0), Hx.ent P "type.__subclasses__.Exception.8" 401 (.int (128) 0), Hx.ent P "type.__subclasses__.Exception.9" 421 (.int (141) 0), Hx.ent P "type.__subclasses__.Exception.10" 441 (.int (154) 0), Hx.ent P "type.__subclasses__.Exception.11" 470 (.int (174) 0)] 13), #[]⟩) ::
  (nat_lit 3, ⟨(.type "dict"), none, (.dict (List.toArray (Hx.ent P "__name__" 165 (.str (Str.ofString "rankedfunctions.ranks") 747) :: Hx.ent P "__doc__" 166 .none :: Hx.ent P "__package__" 167 .none :: Hx.ent P "__loader__" 168 (.builtin "__main__.__loader__#opaque") :: Hx.ent P "__spec__" 169 .none :: Hx.ent P "__annotations__" 170 (.ref 6) :: Hx.ent P "__builtins__" 171 (.ref 4) :: Hx.ent P "__file__" 173 (.str (Str.ofString "/claim/cut.py") 172) :: Hx.ent P "__cached__" 174 .none :: Hx.ent P "SHAPE" 191 (.int (-1) 190) :: Hx.ent P "RANK" 194 (.int (-2) 193) :: Hx.ent P "INDEX" 197 (.int (-3) 196) :: Hx.ent P "ZERO" 200 (.int (-4) 199) :: Hx.ent P "BIG" 203 (.int (-5) 202) :: Hx.ent P "SIZE" 206 (.int (-6) 205) :: Hx.ent P "DOMAIN" 209 (.int (-7) 208) :: Hx.ent P "EMPTY" 212 (.int (-8) 211) :: Hx.ent P "USE" 215 (.int (-11) 214) :: Hx.ent P "FORM" 218 (.int (-20) 217) :: Hx.ent P "LONG" 221 (.int (-21) 220) :: Hx.ent P "FUNCTION" 224 (.int (-22) 223) :: Hx.ent P "WrongShape" 244 (.ref 24) :: Hx.ent P "WrongRank" 264 (.ref 37) :: Hx.ent P "NoSuchCell" 284 (.ref 50) :: Hx.ent P "ByZero" 304 (.ref 63) :: Hx.ent P "NumberTooBig" 324 (.ref 76) :: Hx.ent P "NoShape" 344 (.ref 89) :: Hx.ent P "OutsideDomain" 364 (.ref 102) :: Hx.ent P "NothingToFold" 384 (.ref 115) :: Hx.ent P "NoSuchUse" 404 (.ref 128) :: Hx.ent P "NoArray" 424 (.ref 141) :: Hx.ent P "TooLong" 444 (.ref 154) :: Hx.ent P "NoFunction" 473 (.ref 174) :: Hx.ent P "answer_of" 480 (.ref 184) :: Hx.ent P "BLANKS" 487 (.ref 185) :: Hx.ent P "COLON" 489 (.int (58) 488) :: Hx.ent P "SIGNS" 497 (.ref 186) :: Hx.ent P "Token" 529 (.ref 203) :: Hx.ent P "bytes_of" 535 (.ref 212) :: Hx.ent P "is_blank" 542 (.ref 219) :: Hx.ent P "is_letter" 549 (.ref 226) :: Hx.ent P "is_digit" 556 (.ref 233) :: Hx.ent P "past_run" 565 (.ref 240) :: Hx.ent P "past_modifier_word" 574 (.ref 247) :: Hx.ent P "past_sign" 584 (.ref 254) :: Hx.ent P "past_token" 593 (.ref 261) :: Hx.ent P "token_from" 602 (.ref 268) :: Hx.ent P "MOST_BYTES" 606 (.int (256) 605) :: Hx.ent P "MOST_MODIFIERS" 608 (.int (8) 607) :: Hx.ent P "WORDS_OF_ONE" 621 (.ref 269) :: Hx.ent P "WORDS_OF_TWO" 637 (.ref 270) :: Hx.ent P "FOLD" 639 (.str (Str.ofString ":fold") 638) :: Hx.ent P "SCAN" 641 (.str (Str.ofString ":scan") 640) :: Hx.ent P "SWAP" 643 (.str (Str.ofString ":swap") 642) :: Hx.ent P "AT" 645 (.str (Str.ofString ":at") 644) :: Hx.ent P "MODIFIER_WORDS" 651 (.ref 271) :: Hx.ent P "RANK_DIGITS" 658 (.ref 272) :: Hx.ent P "WITH_ONE" 660 (.int (1) 659) :: Hx.ent P "WITH_TWO" 662 (.int (2) 661) :: Hx.ent P "Function" 693 (.ref 289) :: Hx.ent P "name_among" 702 (.ref 300) :: Hx.ent P "read_modifiers" 714 (.ref 307) :: Hx.ent P "read_function" 723 (.ref 314) :: Hx.ent P "uses_of_base" 730 (.ref 321) :: Hx.ent P "may_with_two" 737 (.ref 328) :: Hx.ent P "uses_of" 746 (.ref 335) :: Hx.ent P "uses" 756 (.ref 342) :: [])) 67), #[]⟩) ::
  (nat_lit 15, ⟨(.type "tuple"), none, (.seq #[(.type "Exception")] 0), #[]⟩) ::
  (nat_lit 22, ⟨(.type "tuple"), none, (.seq #[] 0), #[]⟩) ::
  (nat_lit 23, ⟨(.type "dict"), none, (.dict #[Hx.ent P "__module__" 232 (.str (Str.ofString "rankedfunctions.refusals") 187), Hx.ent P "__firstlineno__" 236 (.int (14) 235), Hx.ent P "__static_attributes__" 237 (.ref 22), Hx.ent P "__weakref__" 239 (.ref 25), Hx.ent P "__doc__" 240 .none] 3), #[]⟩) ::
  (nat_lit 24, ⟨(.type "type"), none, (.cls ⟨(Str.ofString "WrongShape"), [(.type "Exception")], [(.ref 24), (.type "Exception"), (.type "BaseException"), (.type "object")], 23, (Str.ofString "WrongShape"), true, [], [], false, none, false⟩), #[(some (.ref 15)), none, (some (.str (Str.ofString "WrongShape") 225)), (some (.str (Str.ofString "WrongShape") 233)), (some (.builtin "Exception.__new__")), (some (.bool true))]⟩) ::
  (nat_lit 25, ⟨(.type "getset_descriptor"), none, (.fields #[(.str (Str.ofString "__weakref__") 238), (.ref 24), (.builtin "ExceptionGroup.__weakref__"), .none]), #[]⟩) ::
  (nat_lit 28, ⟨(.type "tuple"), none, (.seq #[(.type "Exception")] 0), #[]⟩) ::
  (nat_lit 35, ⟨(.type "tuple"), none, (.seq #[] 0), #[]⟩) ::
  (nat_lit 36, ⟨(.type "dict"), none, (.dict #[Hx.ent P "__module__" 252 (.str (Str.ofString "rankedfunctions.refusals") 187), Hx.ent P "__firstlineno__" 256 (.int (16) 255), Hx.ent P "__static_attributes__" 257 (.ref 35), Hx.ent P "__weakref__" 259 (.ref 38), Hx.ent P "__doc__" 260 .none] 3), #[]⟩) ::
  (nat_lit 37, ⟨(.type "type"), none, (.cls ⟨(Str.ofString "WrongRank"), [(.type "Exception")], [(.ref 37), (.type "Exception"), (.type "BaseException"), (.type "object")], 36, (Str.ofString "WrongRank"), true, [], [], false, none, false⟩), #[(some (.ref 28)), none, (some (.str (Str.ofString "WrongRank") 245)), (some (.str (Str.ofString "WrongRank") 253)), (some (.builtin "Exception.__new__")), (some (.bool true))]⟩) ::
  (nat_lit 38, ⟨(.type "getset_descriptor"), none, (.fields #[(.str (Str.ofString "__weakref__") 258), (.ref 37), (.builtin "ExceptionGroup.__weakref__"), .none]), #[]⟩) ::
  (nat_lit 41, ⟨(.type "tuple"), none, (.seq #[(.type "Exception")] 0), #[]⟩) ::
  (nat_lit 48, ⟨(.type "tuple"), none, (.seq #[] 0), #[]⟩) ::
  (nat_lit 49, ⟨(.type "dict"), none, (.dict #[Hx.ent P "__module__" 272 (.str (Str.ofString "rankedfunctions.refusals") 187), Hx.ent P "__firstlineno__" 276 (.int (18) 275), Hx.ent P "__static_attributes__" 277 (.ref 48), Hx.ent P "__weakref__" 279 (.ref 51), Hx.ent P "__doc__" 280 .none] 3), #[]⟩) ::
  (nat_lit 50, ⟨(.type "type"), none, (.cls ⟨(Str.ofString "NoSuchCell"), [(.type "Exception")], [(.ref 50), (.type "Exception"), (.type "BaseException"), (.type "object")], 49, (Str.ofString "NoSuchCell"), true, [], [], false, none, false⟩), #[(some (.ref 41)), none, (some (.str (Str.ofString "NoSuchCell") 265)), (some (.str (Str.ofString "NoSuchCell") 273)), (some (.builtin "Exception.__new__")), (some (.bool true))]⟩) ::
  (nat_lit 51, ⟨(.type "getset_descriptor"), none, (.fields #[(.str (Str.ofString "__weakref__") 278), (.ref 50), (.builtin "ExceptionGroup.__weakref__"), .none]), #[]⟩) ::
  (nat_lit 54, ⟨(.type "tuple"), none, (.seq #[(.type "Exception")] 0), #[]⟩) ::
  (nat_lit 61, ⟨(.type "tuple"), none, (.seq #[] 0), #[]⟩) ::
  (nat_lit 62, ⟨(.type "dict"), none, (.dict #[Hx.ent P "__module__" 292 (.str (Str.ofString "rankedfunctions.refusals") 187), Hx.ent P "__firstlineno__" 296 (.int (20) 295), Hx.ent P "__static_attributes__" 297 (.ref 61), Hx.ent P "__weakref__" 299 (.ref 64), Hx.ent P "__doc__" 300 .none] 3), #[]⟩) ::
  (nat_lit 63, ⟨(.type "type"), none, (.cls ⟨(Str.ofString "ByZero"), [(.type "Exception")], [(.ref 63), (.type "Exception"), (.type "BaseException"), (.type "object")], 62, (Str.ofString "ByZero"), true, [], [], false, none, false⟩), #[(some (.ref 54)), none, (some (.str (Str.ofString "ByZero") 285)), (some (.str (Str.ofString "ByZero") 293)), (some (.builtin "Exception.__new__")), (some (.bool true))]⟩) ::
  (nat_lit 64, ⟨(.type "getset_descriptor"), none, (.fields #[(.str (Str.ofString "__weakref__") 298), (.ref 63), (.builtin "ExceptionGroup.__weakref__"), .none]), #[]⟩) ::
  (nat_lit 67, ⟨(.type "tuple"), none, (.seq #[(.type "Exception")] 0), #[]⟩) ::
  (nat_lit 74, ⟨(.type "tuple"), none, (.seq #[] 0), #[]⟩) ::
  (nat_lit 75, ⟨(.type "dict"), none, (.dict #[Hx.ent P "__module__" 312 (.str (Str.ofString "rankedfunctions.refusals") 187), Hx.ent P "__firstlineno__" 316 (.int (22) 315), Hx.ent P "__static_attributes__" 317 (.ref 74), Hx.ent P "__weakref__" 319 (.ref 77), Hx.ent P "__doc__" 320 .none] 3), #[]⟩) ::
  (nat_lit 76, ⟨(.type "type"), none, (.cls ⟨(Str.ofString "NumberTooBig"), [(.type "Exception")], [(.ref 76), (.type "Exception"), (.type "BaseException"), (.type "object")], 75, (Str.ofString "NumberTooBig"), true, [], [], false, none, false⟩), #[(some (.ref 67)), none, (some (.str (Str.ofString "NumberTooBig") 305)), (some (.str (Str.ofString "NumberTooBig") 313)), (some (.builtin "Exception.__new__")), (some (.bool true))]⟩) ::
  (nat_lit 77, ⟨(.type "getset_descriptor"), none, (.fields #[(.str (Str.ofString "__weakref__") 318), (.ref 76), (.builtin "ExceptionGroup.__weakref__"), .none]), #[]⟩) ::
  (nat_lit 80, ⟨(.type "tuple"), none, (.seq #[(.type "Exception")] 0), #[]⟩) ::
  (nat_lit 87, ⟨(.type "tuple"), none, (.seq #[] 0), #[]⟩) ::
  (nat_lit 88, ⟨(.type "dict"), none, (.dict #[Hx.ent P "__module__" 332 (.str (Str.ofString "rankedfunctions.refusals") 187), Hx.ent P "__firstlineno__" 336 (.int (24) 335), Hx.ent P "__static_attributes__" 337 (.ref 87), Hx.ent P "__weakref__" 339 (.ref 90), Hx.ent P "__doc__" 340 .none] 3), #[]⟩) ::
  (nat_lit 89, ⟨(.type "type"), none, (.cls ⟨(Str.ofString "NoShape"), [(.type "Exception")], [(.ref 89), (.type "Exception"), (.type "BaseException"), (.type "object")], 88, (Str.ofString "NoShape"), true, [], [], false, none, false⟩), #[(some (.ref 80)), none, (some (.str (Str.ofString "NoShape") 325)), (some (.str (Str.ofString "NoShape") 333)), (some (.builtin "Exception.__new__")), (some (.bool true))]⟩) ::
  (nat_lit 90, ⟨(.type "getset_descriptor"), none, (.fields #[(.str (Str.ofString "__weakref__") 338), (.ref 89), (.builtin "ExceptionGroup.__weakref__"), .none]), #[]⟩) ::
  (nat_lit 93, ⟨(.type "tuple"), none, (.seq #[(.type "Exception")] 0), #[]⟩) ::
  (nat_lit 100, ⟨(.type "tuple"), none, (.seq #[] 0), #[]⟩) ::
  (nat_lit 101, ⟨(.type "dict"), none, (.dict #[Hx.ent P "__module__" 352 (.str (Str.ofString "rankedfunctions.refusals") 187), Hx.ent P "__firstlineno__" 356 (.int (26) 355), Hx.ent P "__static_attributes__" 357 (.ref 100), Hx.ent P "__weakref__" 359 (.ref 103), Hx.ent P "__doc__" 360 .none] 3), #[]⟩) ::
  (nat_lit 102, ⟨(.type "type"), none, (.cls ⟨(Str.ofString "OutsideDomain"), [(.type "Exception")], [(.ref 102), (.type "Exception"), (.type "BaseException"), (.type "object")], 101, (Str.ofString "OutsideDomain"), true, [], [], false, none, false⟩), #[(some (.ref 93)), none, (some (.str (Str.ofString "OutsideDomain") 345)), (some (.str (Str.ofString "OutsideDomain") 353)), (some (.builtin "Exception.__new__")), (some (.bool true))]⟩) ::
  (nat_lit 103, ⟨(.type "getset_descriptor"), none, (.fields #[(.str (Str.ofString "__weakref__") 358), (.ref 102), (.builtin "ExceptionGroup.__weakref__"), .none]), #[]⟩) ::
  (nat_lit 106, ⟨(.type "tuple"), none, (.seq #[(.type "Exception")] 0), #[]⟩) ::
  (nat_lit 113, ⟨(.type "tuple"), none, (.seq #[] 0), #[]⟩) ::
  (nat_lit 114, ⟨(.type "dict"), none, (.dict #[Hx.ent P "__module__" 372 (.str (Str.ofString "rankedfunctions.refusals") 187), Hx.ent P "__firstlineno__" 376 (.int (28) 375), Hx.ent P "__static_attributes__" 377 (.ref 113), Hx.ent P "__weakref__" 379 (.ref 116), Hx.ent P "__doc__" 380 .none] 3), #[]⟩) ::
  (nat_lit 115, ⟨(.type "type"), none, (.cls ⟨(Str.ofString "NothingToFold"), [(.type "Exception")], [(.ref 115), (.type "Exception"), (.type "BaseException"), (.type "object")], 114, (Str.ofString "NothingToFold"), true, [], [], false, none, false⟩), #[(some (.ref 106)), none, (some (.str (Str.ofString "NothingToFold") 365)), (some (.str (Str.ofString "NothingToFold") 373)), (some (.builtin "Exception.__new__")), (some (.bool true))]⟩) ::
  (nat_lit 116, ⟨(.type "getset_descriptor"), none, (.fields #[(.str (Str.ofString "__weakref__") 378), (.ref 115), (.builtin "ExceptionGroup.__weakref__"), .none]), #[]⟩) ::
  (nat_lit 119, ⟨(.type "tuple"), none, (.seq #[(.type "Exception")] 0), #[]⟩) ::
  (nat_lit 126, ⟨(.type "tuple"), none, (.seq #[] 0), #[]⟩) ::
  (nat_lit 127, ⟨(.type "dict"), none, (.dict #[Hx.ent P "__module__" 392 (.str (Str.ofString "rankedfunctions.refusals") 187), Hx.ent P "__firstlineno__" 396 (.int (30) 395), Hx.ent P "__static_attributes__" 397 (.ref 126), Hx.ent P "__weakref__" 399 (.ref 129), Hx.ent P "__doc__" 400 .none] 3), #[]⟩) ::
  (nat_lit 128, ⟨(.type "type"), none, (.cls ⟨(Str.ofString "NoSuchUse"), [(.type "Exception")], [(.ref 128), (.type "Exception"), (.type "BaseException"), (.type "object")], 127, (Str.ofString "NoSuchUse"), true, [], [], false, none, false⟩), #[(some (.ref 119)), none, (some (.str (Str.ofString "NoSuchUse") 385)), (some (.str (Str.ofString "NoSuchUse") 393)), (some (.builtin "Exception.__new__")), (some (.bool true))]⟩) ::
  (nat_lit 129, ⟨(.type "getset_descriptor"), none, (.fields #[(.str (Str.ofString "__weakref__") 398), (.ref 128), (.builtin "ExceptionGroup.__weakref__"), .none]), #[]⟩) ::
  (nat_lit 132, ⟨(.type "tuple"), none, (.seq #[(.type "Exception")] 0), #[]⟩) ::
  (nat_lit 139, ⟨(.type "tuple"), none, (.seq #[] 0), #[]⟩) ::
  (nat_lit 140, ⟨(.type "dict"), none, (.dict #[Hx.ent P "__module__" 412 (.str (Str.ofString "rankedfunctions.refusals") 187), Hx.ent P "__firstlineno__" 416 (.int (32) 415), Hx.ent P "__static_attributes__" 417 (.ref 139), Hx.ent P "__weakref__" 419 (.ref 142), Hx.ent P "__doc__" 420 .none] 3), #[]⟩) ::
  (nat_lit 141, ⟨(.type "type"), none, (.cls ⟨(Str.ofString "NoArray"), [(.type "Exception")], [(.ref 141), (.type "Exception"), (.type "BaseException"), (.type "object")], 140, (Str.ofString "NoArray"), true, [], [], false, none, false⟩), #[(some (.ref 132)), none, (some (.str (Str.ofString "NoArray") 405)), (some (.str (Str.ofString "NoArray") 413)), (some (.builtin "Exception.__new__")), (some (.bool true))]⟩) ::
  (nat_lit 142, ⟨(.type "getset_descriptor"), none, (.fields #[(.str (Str.ofString "__weakref__") 418), (.ref 141), (.builtin "ExceptionGroup.__weakref__"), .none]), #[]⟩) ::
  (nat_lit 145, ⟨(.type "tuple"), none, (.seq #[(.type "Exception")] 0), #[]⟩) ::
  (nat_lit 152, ⟨(.type "tuple"), none, (.seq #[] 0), #[]⟩) ::
  (nat_lit 153, ⟨(.type "dict"), none, (.dict #[Hx.ent P "__module__" 432 (.str (Str.ofString "rankedfunctions.refusals") 187), Hx.ent P "__firstlineno__" 436 (.int (34) 435), Hx.ent P "__static_attributes__" 437 (.ref 152), Hx.ent P "__weakref__" 439 (.ref 155), Hx.ent P "__doc__" 440 .none] 3), #[]⟩) ::
  (nat_lit 154, ⟨(.type "type"), none, (.cls ⟨(Str.ofString "TooLong"), [(.type "Exception")], [(.ref 154), (.type "Exception"), (.type "BaseException"), (.type "object")], 153, (Str.ofString "TooLong"), true, [], [], false, none, false⟩), #[(some (.ref 145)), none, (some (.str (Str.ofString "TooLong") 425)), (some (.str (Str.ofString "TooLong") 433)), (some (.builtin "Exception.__new__")), (some (.bool true))]⟩) ::
  (nat_lit 155, ⟨(.type "getset_descriptor"), none, (.fields #[(.str (Str.ofString "__weakref__") 438), (.ref 154), (.builtin "ExceptionGroup.__weakref__"), .none]), #[]⟩) ::
  (nat_lit 158, ⟨(.type "tuple"), none, (.seq #[(.type "Exception")] 0), #[]⟩) ::
  (nat_lit 165, ⟨(.type "tuple"), none, (.seq #[] 0), #[]⟩) ::
  (nat_lit 167, ⟨(.type "tuple"), none, (.seq #[(.str (Str.ofString "self") 460), (.str (Str.ofString "place") 461)] 0), #[]⟩) ::
  (nat_lit 168, ⟨(.type "tuple"), none, (.seq #[] 0), #[]⟩) ::
  (nat_lit 170, ⟨(.type "code"), none, (.fields #[(.str (Str.ofString "__init__") 457), (.str (Str.ofString "NoFunction.__init__") 458), (.str (Str.ofString "/claim/cut.py") 459), (.int (38) 0), (.int (2) 0), (.int (0) 0), (.int (0) 0), (.int (3) 0), (.ref 165), (.bool true), (.int (181) 0), (.ref 166), .none, (.ref 167), (.ref 168), (.ref 169), (.int (462) 0), (.int (38) 0), (.str (Str.ofString "/claim/cut.py") 463)]), #[]⟩) ::
  (nat_lit 171, ⟨(.type "function"), none, (.func (PySem.W.fnOf (Str.ofString "__init__") (Str.ofString "NoFunction.__init__") (defArgs (inClass (top 24) 0)) (defBody (inClass (top 24) 0)) (defScope (inClass (top 24) 0)) .none .none .none (.str (Str.ofString "rankedfunctions.refusals") 187) none (.ref 170) .none)), #[]⟩) ::
  (nat_lit 172, ⟨(.type "tuple"), none, (.seq #[(.str (Str.ofString "place") 465)] 0), #[]⟩) ::
  (nat_lit 173, ⟨(.type "dict"), none, (.dict #[Hx.ent P "__module__" 452 (.str (Str.ofString "rankedfunctions.refusals") 187), Hx.ent P "__firstlineno__" 456 (.int (36) 455), Hx.ent P "__init__" 464 (.ref 171), Hx.ent P "__static_attributes__" 466 (.ref 172), Hx.ent P "__weakref__" 468 (.ref 175), Hx.ent P "__doc__" 469 .none] 3), #[]⟩) ::
  (nat_lit 174, ⟨(.type "type"), none, (.cls ⟨(Str.ofString "NoFunction"), [(.type "Exception")], [(.ref 174), (.type "Exception"), (.type "BaseException"), (.type "object")], 173, (Str.ofString "NoFunction"), true, [], [], false, none, false⟩), #[(some (.ref 158)), none, (some (.str (Str.ofString "NoFunction") 445)), (some (.str (Str.ofString "NoFunction") 453)), (some (.builtin "Exception.__new__")), (some (.bool true))]⟩) ::
  (nat_lit 175, ⟨(.type "getset_descriptor"), none, (.fields #[(.str (Str.ofString "__weakref__") 467), (.ref 174), (.builtin "ExceptionGroup.__weakref__"), .none]), #[]⟩) ::
  (nat_lit 178, ⟨(.type "tuple"), none, (.seq #[] 0), #[]⟩) ::
  (nat_lit 180, ⟨(.type "tuple"), none, (.seq #[(.str (Str.ofString "call") 477)] 0), #[]⟩) ::
  (nat_lit 181, ⟨(.type "tuple"), none, (.seq #[] 0), #[]⟩) ::
  (nat_lit 183, ⟨(.type "code"), none, (.fields #[(.str (Str.ofString "answer_of") 474), (.str (Str.ofString "answer_of") 475), (.str (Str.ofString "/claim/cut.py") 476), (.int (41) 0), (.int (1) 0), (.int (0) 0), (.int (0) 0), (.int (3) 0), (.ref 178), (.bool true), (.int (181) 0), (.ref 179), .none, (.ref 180), (.ref 181), (.ref 182), (.int (478) 0), (.int (41) 0), (.str (Str.ofString "/claim/cut.py") 479)]), #[]⟩) ::
  (nat_lit 184, ⟨(.type "function"), none, (.func (PySem.W.fnOf (Str.ofString "answer_of") (Str.ofString "answer_of") (defArgs (top 25)) (defBody (top 25)) (defScope (top 25)) .none .none .none (.str (Str.ofString "rankedfunctions.refusals") 187) none (.ref 183) .none)), #[]⟩) ::
  (nat_lit 185, ⟨(.type "tuple"), none, (.seq #[(.int (32) 483), (.int (9) 484), (.int (10) 485), (.int (13) 486)] 0), #[]⟩) ::
  (nat_lit 186, ⟨(.type "tuple"), none, (.seq #[(.str (Str.ofString "<=") 490), (.str (Str.ofString "/=") 491), (.str (Str.ofString "+") 492), (.str (Str.ofString "-") 493), (.str (Str.ofString "*") 494), (.str (Str.ofString "<") 495), (.str (Str.ofString "=") 496)] 0), #[]⟩) ::
  (nat_lit 194, ⟨(.type "tuple"), none, (.seq #[] 0), #[]⟩) ::
  (nat_lit 196, ⟨(.type "tuple"), none, (.seq #[(.str (Str.ofString "self") 513), (.str (Str.ofString "begin") 514), (.str (Str.ofString "spelling") 515)] 0), #[]⟩) ::
  (nat_lit 197, ⟨(.type "tuple"), none, (.seq #[] 0), #[]⟩) ::
  (nat_lit 199, ⟨(.type "code"), none, (.fields #[(.str (Str.ofString "__init__") 510), (.str (Str.ofString "Token.__init__") 511), (.str (Str.ofString "/claim/cut.py") 512), (.int (74) 0), (.int (3) 0), (.int (0) 0), (.int (0) 0), (.int (3) 0), (.ref 194), (.bool true), (.int (181) 0), (.ref 195), .none, (.ref 196), (.ref 197), (.ref 198), (.int (516) 0), (.int (74) 0), (.str (Str.ofString "/claim/cut.py") 517)]), #[]⟩) ::
  (nat_lit 200, ⟨(.type "function"), none, (.func (PySem.W.fnOf (Str.ofString "__init__") (Str.ofString "Token.__init__") (defArgs (inClass (top 30) 0)) (defBody (inClass (top 30) 0)) (defScope (inClass (top 30) 0)) .none .none .none (.str (Str.ofString "rankedfunctions.tokens") 481) none (.ref 199) .none)), #[]⟩) ::
  (nat_lit 201, ⟨(.type "tuple"), none, (.seq #[(.str (Str.ofString "begin") 519), (.str (Str.ofString "end") 520), (.str (Str.ofString "spelling") 521)] 0), #[]⟩) ::
  (nat_lit 202, ⟨(.type "dict"), none, (.dict #[Hx.ent P "__module__" 505 (.str (Str.ofString "rankedfunctions.tokens") 481), Hx.ent P "__firstlineno__" 509 (.int (72) 508), Hx.ent P "__init__" 518 (.ref 200), Hx.ent P "__static_attributes__" 522 (.ref 201), Hx.ent P "__dict__" 524 (.ref 204), Hx.ent P "__weakref__" 526 (.ref 205), Hx.ent P "__doc__" 527 .none] 4), #[]⟩) ::
  (nat_lit 203, ⟨(.type "type"), none, (.cls ⟨(Str.ofString "Token"), [(.type "object")], [(.ref 203), (.type "object")], 202, (Str.ofString "Token"), true, [], [], false, none, false⟩), #[none, none, (some (.str (Str.ofString "Token") 498)), (some (.str (Str.ofString "Token") 506)), (some (.builtin "object.__new__")), (some (.bool true))]⟩) ::
  (nat_lit 204, ⟨(.type "getset_descriptor"), none, (.fields #[(.str (Str.ofString "__dict__") 523), (.ref 203), (.builtin "function.__dict__"), (.builtin "function.__dict__#set")]), #[]⟩) ::
  (nat_lit 205, ⟨(.type "getset_descriptor"), none, (.fields #[(.str (Str.ofString "__weakref__") 525), (.ref 203), (.builtin "ExceptionGroup.__weakref__"), .none]), #[]⟩) ::
  (nat_lit 208, ⟨(.type "tuple"), none, (.seq #[] 0), #[]⟩) ::
  (nat_lit 211, ⟨(.type "code"), none, (.fields #[(.str (Str.ofString "bytes_of") 530), (.str (Str.ofString "bytes_of") 531), (.str (Str.ofString "/claim/cut.py") 532), (.int (78) 0), (.int (1) 0), (.int (0) 0), (.int (0) 0), (.int (3) 0), (.ref 208), (.bool true), (.int (181) 0), (.ref 209), .none, .none, .none, (.ref 210), (.int (533) 0), (.int (78) 0), (.str (Str.ofString "/claim/cut.py") 534)]), #[]⟩) ::
  (nat_lit 212, ⟨(.type "function"), none, (.func (PySem.W.fnOf (Str.ofString "bytes_of") (Str.ofString "bytes_of") (defArgs (top 31)) (defBody (top 31)) (defScope (top 31)) .none .none .none (.str (Str.ofString "rankedfunctions.tokens") 481) none (.ref 211) .none)), #[]⟩) ::
  (nat_lit 213, ⟨(.type "tuple"), none, (.seq #[] 0), #[]⟩) ::
  (nat_lit 215, ⟨(.type "tuple"), none, (.seq #[(.str (Str.ofString "byte") 539)] 0), #[]⟩) ::
  (nat_lit 216, ⟨(.type "tuple"), none, (.seq #[] 0), #[]⟩) ::
  (nat_lit 218, ⟨(.type "code"), none, (.fields #[(.str (Str.ofString "is_blank") 536), (.str (Str.ofString "is_blank") 537), (.str (Str.ofString "/claim/cut.py") 538), (.int (80) 0), (.int (1) 0), (.int (0) 0), (.int (0) 0), (.int (3) 0), (.ref 213), (.bool true), (.int (181) 0), (.ref 214), .none, (.ref 215), (.ref 216), (.ref 217), (.int (540) 0), (.int (80) 0), (.str (Str.ofString "/claim/cut.py") 541)]), #[]⟩) ::
  (nat_lit 219, ⟨(.type "function"), none, (.func (PySem.W.fnOf (Str.ofString "is_blank") (Str.ofString "is_blank") (defArgs (top 32)) (defBody (top 32)) (defScope (top 32)) .none .none .none (.str (Str.ofString "rankedfunctions.tokens") 481) none (.ref 218) .none)), #[]⟩) ::
  (nat_lit 220, ⟨(.type "tuple"), none, (.seq #[] 0), #[]⟩) ::
  (nat_lit 222, ⟨(.type "tuple"), none, (.seq #[(.str (Str.ofString "byte") 546)] 0), #[]⟩) ::
  (nat_lit 223, ⟨(.type "tuple"), none, (.seq #[] 0), #[]⟩) ::
  (nat_lit 225, ⟨(.type "code"), none, (.fields #[(.str (Str.ofString "is_letter") 543), (.str (Str.ofString "is_letter") 544), (.str (Str.ofString "/claim/cut.py") 545), (.int (82) 0), (.int (1) 0), (.int (0) 0), (.int (0) 0), (.int (3) 0), (.ref 220), (.bool true), (.int (181) 0), (.ref 221), .none, (.ref 222), (.ref 223), (.ref 224), (.int (547) 0), (.int (82) 0), (.str (Str.ofString "/claim/cut.py") 548)]), #[]⟩) ::
  (nat_lit 226, ⟨(.type "function"), none, (.func (PySem.W.fnOf (Str.ofString "is_letter") (Str.ofString "is_letter") (defArgs (top 33)) (defBody (top 33)) (defScope (top 33)) .none .none .none (.str (Str.ofString "rankedfunctions.tokens") 481) none (.ref 225) .none)), #[]⟩) ::
  (nat_lit 227, ⟨(.type "tuple"), none, (.seq #[] 0), #[]⟩) ::
  (nat_lit 229, ⟨(.type "tuple"), none, (.seq #[(.str (Str.ofString "byte") 553)] 0), #[]⟩) ::
  (nat_lit 230, ⟨(.type "tuple"), none, (.seq #[] 0), #[]⟩) ::
  (nat_lit 232, ⟨(.type "code"), none, (.fields #[(.str (Str.ofString "is_digit") 550), (.str (Str.ofString "is_digit") 551), (.str (Str.ofString "/claim/cut.py") 552), (.int (84) 0), (.int (1) 0), (.int (0) 0), (.int (0) 0), (.int (3) 0), (.ref 227), (.bool true), (.int (181) 0), (.ref 228), .none, (.ref 229), (.ref 230), (.ref 231), (.int (554) 0), (.int (84) 0), (.str (Str.ofString "/claim/cut.py") 555)]), #[]⟩) ::
  (nat_lit 233, ⟨(.type "function"), none, (.func (PySem.W.fnOf (Str.ofString "is_digit") (Str.ofString "is_digit") (defArgs (top 34)) (defBody (top 34)) (defScope (top 34)) .none .none .none (.str (Str.ofString "rankedfunctions.tokens") 481) none (.ref 232) .none)), #[]⟩) ::
  (nat_lit 234, ⟨(.type "tuple"), none, (.seq #[] 0), #[]⟩) ::
  (nat_lit 236, ⟨(.type "tuple"), none, (.seq #[(.str (Str.ofString "text") 560), (.str (Str.ofString "place") 561), (.str (Str.ofString "belongs") 562)] 0), #[]⟩) ::
  (nat_lit 237, ⟨(.type "tuple"), none, (.seq #[] 0), #[]⟩) ::
  (nat_lit 239, ⟨(.type "code"), none, (.fields #[(.str (Str.ofString "past_run") 557), (.str (Str.ofString "past_run") 558), (.str (Str.ofString "/claim/cut.py") 559), (.int (86) 0), (.int (3) 0), (.int (0) 0), (.int (0) 0), (.int (3) 0), (.ref 234), (.bool true), (.int (181) 0), (.ref 235), .none, (.ref 236), (.ref 237), (.ref 238), (.int (563) 0), (.int (86) 0), (.str (Str.ofString "/claim/cut.py") 564)]), #[]⟩) ::
  (nat_lit 240, ⟨(.type "function"), none, (.func (PySem.W.fnOf (Str.ofString "past_run") (Str.ofString "past_run") (defArgs (top 35)) (defBody (top 35)) (defScope (top 35)) .none .none .none (.str (Str.ofString "rankedfunctions.tokens") 481) none (.ref 239) .none)), #[]⟩) ::
  (nat_lit 241, ⟨(.type "tuple"), none, (.seq #[] 0), #[]⟩) ::
  (nat_lit 243, ⟨(.type "tuple"), none, (.seq #[(.str (Str.ofString "text") 569), (.str (Str.ofString "place") 570), (.str (Str.ofString "end") 571)] 0), #[]⟩) ::
  (nat_lit 244, ⟨(.type "tuple"), none, (.seq #[] 0), #[]⟩) ::
  (nat_lit 246, ⟨(.type "code"), none, (.fields #[(.str (Str.ofString "past_modifier_word") 566), (.str (Str.ofString "past_modifier_word") 567), (.str (Str.ofString "/claim/cut.py") 568), (.int (90) 0), (.int (2) 0), (.int (0) 0), (.int (0) 0), (.int (3) 0), (.ref 241), (.bool true), (.int (181) 0), (.ref 242), .none, (.ref 243), (.ref 244), (.ref 245), (.int (572) 0), (.int (90) 0), (.str (Str.ofString "/claim/cut.py") 573)]), #[]⟩) ::
  (nat_lit 247, ⟨(.type "function"), none, (.func (PySem.W.fnOf (Str.ofString "past_modifier_word") (Str.ofString "past_modifier_word") (defArgs (top 36)) (defBody (top 36)) (defScope (top 36)) .none .none .none (.str (Str.ofString "rankedfunctions.tokens") 481) none (.ref 246) .none)), #[]⟩) ::
  (nat_lit 248, ⟨(.type "tuple"), none, (.seq #[] 0), #[]⟩) ::
  (nat_lit 250, ⟨(.type "tuple"), none, (.seq #[(.str (Str.ofString "text") 578), (.str (Str.ofString "place") 579), (.str (Str.ofString "sign") 580), (.str (Str.ofString "end") 581)] 0), #[]⟩) ::
  (nat_lit 251, ⟨(.type "tuple"), none, (.seq #[] 0), #[]⟩) ::
  (nat_lit 253, ⟨(.type "code"), none, (.fields #[(.str (Str.ofString "past_sign") 575), (.str (Str.ofString "past_sign") 576), (.str (Str.ofString "/claim/cut.py") 577), (.int (95) 0), (.int (2) 0), (.int (0) 0), (.int (0) 0), (.int (3) 0), (.ref 248), (.bool true), (.int (181) 0), (.ref 249), .none, (.ref 250), (.ref 251), (.ref 252), (.int (582) 0), (.int (95) 0), (.str (Str.ofString "/claim/cut.py") 583)]), #[]⟩) ::
  (nat_lit 254, ⟨(.type "function"), none, (.func (PySem.W.fnOf (Str.ofString "past_sign") (Str.ofString "past_sign") (defArgs (top 37)) (defBody (top 37)) (defScope (top 37)) .none .none .none (.str (Str.ofString "rankedfunctions.tokens") 481) none (.ref 253) .none)), #[]⟩) ::
  (nat_lit 255, ⟨(.type "tuple"), none, (.seq #[] 0), #[]⟩) ::
  (nat_lit 257, ⟨(.type "tuple"), none, (.seq #[(.str (Str.ofString "text") 588), (.str (Str.ofString "place") 589), (.str (Str.ofString "byte") 590)] 0), #[]⟩) ::
  (nat_lit 258, ⟨(.type "tuple"), none, (.seq #[] 0), #[]⟩) ::
  (nat_lit 260, ⟨(.type "code"), none, (.fields #[(.str (Str.ofString "past_token") 585), (.str (Str.ofString "past_token") 586), (.str (Str.ofString "/claim/cut.py") 587), (.int (101) 0), (.int (2) 0), (.int (0) 0), (.int (0) 0), (.int (3) 0), (.ref 255), (.bool true), (.int (181) 0), (.ref 256), .none, (.ref 257), (.ref 258), (.ref 259), (.int (591) 0), (.int (101) 0), (.str (Str.ofString "/claim/cut.py") 592)]), #[]⟩) ::
  (nat_lit 261, ⟨(.type "function"), none, (.func (PySem.W.fnOf (Str.ofString "past_token") (Str.ofString "past_token") (defArgs (top 38)) (defBody (top 38)) (defScope (top 38)) .none .none .none (.str (Str.ofString "rankedfunctions.tokens") 481) none (.ref 260) .none)), #[]⟩) ::
  (nat_lit 262, ⟨(.type "tuple"), none, (.seq #[] 0), #[]⟩) ::
  (nat_lit 264, ⟨(.type "tuple"), none, (.seq #[(.str (Str.ofString "text") 597), (.str (Str.ofString "place") 598), (.str (Str.ofString "begin") 599)] 0), #[]⟩) ::
  (nat_lit 265, ⟨(.type "tuple"), none, (.seq #[] 0), #[]⟩) ::
  (nat_lit 267, ⟨(.type "code"), none, (.fields #[(.str (Str.ofString "token_from") 594), (.str (Str.ofString "token_from") 595), (.str (Str.ofString "/claim/cut.py") 596), (.int (112) 0), (.int (2) 0), (.int (0) 0), (.int (0) 0), (.int (3) 0), (.ref 262), (.bool true), (.int (181) 0), (.ref 263), .none, (.ref 264), (.ref 265), (.ref 266), (.int (600) 0), (.int (112) 0), (.str (Str.ofString "/claim/cut.py") 601)]), #[]⟩) ::
  (nat_lit 268, ⟨(.type "function"), none, (.func (PySem.W.fnOf (Str.ofString "token_from") (Str.ofString "token_from") (defArgs (top 39)) (defBody (top 39)) (defScope (top 39)) .none .none .none (.str (Str.ofString "rankedfunctions.tokens") 481) none (.ref 267) .none)), #[]⟩) ::
  (nat_lit 269, ⟨(.type "tuple"), none, (.seq #[(.str (Str.ofString "Shape") 609), (.str (Str.ofString "Count") 610), (.str (Str.ofString "Ravel") 611), (.str (Str.ofString "Iota") 612), (.str (Str.ofString "Flip") 613), (.str (Str.ofString "Turn") 614), (.str (Str.ofString "Grade") 615), (.str (Str.ofString "Where") 616), (.str (Str.ofString "First") 617), (.str (Str.ofString "Abs") 618), (.str (Str.ofString "Sign") 619), (.str (Str.ofString "Not") 620)] 0), #[]⟩) ::
  (nat_lit 270, ⟨(.type "tuple"), none, (.seq #[(.str (Str.ofString "Reshape") 622), (.str (Str.ofString "Take") 623), (.str (Str.ofString "Drop") 624), (.str (Str.ofString "Rotate") 625), (.str (Str.ofString "Join") 626), (.str (Str.ofString "Pick") 627), (.str (Str.ofString "Find") 628), (.str (Str.ofString "Same") 629), (.str (Str.ofString "Keep") 630), (.str (Str.ofString "Div") 631), (.str (Str.ofString "Mod") 632), (.str (Str.ofString "Min") 633), (.str (Str.ofString "Max") 634), (.str (Str.ofString "And") 635), (.str (Str.ofString "Or") 636)] 0), #[]⟩) ::
  (nat_lit 271, ⟨(.type "tuple"), none, (.seq #[(.str (Str.ofString ":fold") 646), (.str (Str.ofString ":scan") 647), (.str (Str.ofString ":table") 648), (.str (Str.ofString ":swap") 649), (.str (Str.ofString ":at") 650)] 0), #[]⟩) ::
  (nat_lit 272, ⟨(.type "tuple"), none, (.seq #[(.str (Str.ofString "0") 652), (.str (Str.ofString "1") 653), (.str (Str.ofString "2") 654), (.str (Str.ofString "3") 655), (.str (Str.ofString "4") 656), (.str (Str.ofString "5") 657)] 0), #[]⟩) ::
  (nat_lit 280, ⟨(.type "tuple"), none, (.seq #[] 0), #[]⟩) ::
  (nat_lit 282, ⟨(.type "tuple"), none, (.seq #[(.str (Str.ofString "self") 678), (.str (Str.ofString "base") 679), (.str (Str.ofString "modifiers") 680)] 0), #[]⟩) ::
  (nat_lit 283, ⟨(.type "tuple"), none, (.seq #[] 0), #[]⟩) ::
  (nat_lit 285, ⟨(.type "code"), none, (.fields #[(.str (Str.ofString "__init__") 675), (.str (Str.ofString "Function.__init__") 676), (.str (Str.ofString "/claim/cut.py") 677), (.int (130) 0), (.int (3) 0), (.int (0) 0), (.int (0) 0), (.int (3) 0), (.ref 280), (.bool true), (.int (181) 0), (.ref 281), .none, (.ref 282), (.ref 283), (.ref 284), (.int (681) 0), (.int (130) 0), (.str (Str.ofString "/claim/cut.py") 682)]), #[]⟩) ::
  (nat_lit 286, ⟨(.type "function"), none, (.func (PySem.W.fnOf (Str.ofString "__init__") (Str.ofString "Function.__init__") (defArgs (inClass (top 53) 0)) (defBody (inClass (top 53) 0)) (defScope (inClass (top 53) 0)) .none .none .none (.str (Str.ofString "rankedfunctions.functions") 603) none (.ref 285) .none)), #[]⟩) ::
  (nat_lit 287, ⟨(.type "tuple"), none, (.seq #[(.str (Str.ofString "base") 684), (.str (Str.ofString "modifiers") 685)] 0), #[]⟩) ::
  (nat_lit 288, ⟨(.type "dict"), none, (.dict #[Hx.ent P "__module__" 670 (.str (Str.ofString "rankedfunctions.functions") 603), Hx.ent P "__firstlineno__" 674 (.int (128) 673), Hx.ent P "__init__" 683 (.ref 286), Hx.ent P "__static_attributes__" 686 (.ref 287), Hx.ent P "__dict__" 688 (.ref 290), Hx.ent P "__weakref__" 690 (.ref 291), Hx.ent P "__doc__" 691 .none] 4), #[]⟩) ::
  (nat_lit 289, ⟨(.type "type"), none, (.cls ⟨(Str.ofString "Function"), [(.type "object")], [(.ref 289), (.type "object")], 288, (Str.ofString "Function"), true, [], [], false, none, false⟩), #[none, none, (some (.str (Str.ofString "Function") 663)), (some (.str (Str.ofString "Function") 671)), (some (.builtin "object.__new__")), (some (.bool true))]⟩) ::
  (nat_lit 290, ⟨(.type "getset_descriptor"), none, (.fields #[(.str (Str.ofString "__dict__") 687), (.ref 289), (.builtin "function.__dict__"), (.builtin "function.__dict__#set")]), #[]⟩) ::
  (nat_lit 291, ⟨(.type "getset_descriptor"), none, (.fields #[(.str (Str.ofString "__weakref__") 689), (.ref 289), (.builtin "ExceptionGroup.__weakref__"), .none]), #[]⟩) ::
  (nat_lit 294, ⟨(.type "tuple"), none, (.seq #[] 0), #[]⟩) ::
  (nat_lit 296, ⟨(.type "tuple"), none, (.seq #[(.str (Str.ofString "names") 697), (.str (Str.ofString "token") 698), (.str (Str.ofString "name") 699)] 0), #[]⟩) ::
  (nat_lit 297, ⟨(.type "tuple"), none, (.seq #[] 0), #[]⟩) ::
  (nat_lit 299, ⟨(.type "code"), none, (.fields #[(.str (Str.ofString "name_among") 694), (.str (Str.ofString "name_among") 695), (.str (Str.ofString "/claim/cut.py") 696), (.int (133) 0), (.int (2) 0), (.int (0) 0), (.int (0) 0), (.int (3) 0), (.ref 294), (.bool true), (.int (181) 0), (.ref 295), .none, (.ref 296), (.ref 297), (.ref 298), (.int (700) 0), (.int (133) 0), (.str (Str.ofString "/claim/cut.py") 701)]), #[]⟩) ::
  (nat_lit 300, ⟨(.type "function"), none, (.func (PySem.W.fnOf (Str.ofString "name_among") (Str.ofString "name_among") (defArgs (top 54)) (defBody (top 54)) (defScope (top 54)) .none .none .none (.str (Str.ofString "rankedfunctions.functions") 603) none (.ref 299) .none)), #[]⟩) ::
  (nat_lit 301, ⟨(.type "tuple"), none, (.seq #[] 0), #[]⟩) ::
  (nat_lit 303, ⟨(.type "tuple"), none, (.seq #[(.str (Str.ofString "text") 706), (.str (Str.ofString "place") 707), (.str (Str.ofString "modifiers") 708), (.str (Str.ofString "token") 709), (.str (Str.ofString "word") 710), (.str (Str.ofString "rank") 711)] 0), #[]⟩) ::
  (nat_lit 304, ⟨(.type "tuple"), none, (.seq #[] 0), #[]⟩) ::
  (nat_lit 306, ⟨(.type "code"), none, (.fields #[(.str (Str.ofString "read_modifiers") 703), (.str (Str.ofString "read_modifiers") 704), (.str (Str.ofString "/claim/cut.py") 705), (.int (138) 0), (.int (2) 0), (.int (0) 0), (.int (0) 0), (.int (3) 0), (.ref 301), (.bool true), (.int (181) 0), (.ref 302), .none, (.ref 303), (.ref 304), (.ref 305), (.int (712) 0), (.int (138) 0), (.str (Str.ofString "/claim/cut.py") 713)]), #[]⟩) ::
  (nat_lit 307, ⟨(.type "function"), none, (.func (PySem.W.fnOf (Str.ofString "read_modifiers") (Str.ofString "read_modifiers") (defArgs (top 55)) (defBody (top 55)) (defScope (top 55)) .none .none .none (.str (Str.ofString "rankedfunctions.functions") 603) none (.ref 306) .none)), #[]⟩) ::
  (nat_lit 308, ⟨(.type "tuple"), none, (.seq #[] 0), #[]⟩) ::
  (nat_lit 310, ⟨(.type "tuple"), none, (.seq #[(.str (Str.ofString "text") 718), (.str (Str.ofString "token") 719), (.str (Str.ofString "base") 720)] 0), #[]⟩) ::
  (nat_lit 311, ⟨(.type "tuple"), none, (.seq #[] 0), #[]⟩) ::
  (nat_lit 313, ⟨(.type "code"), none, (.fields #[(.str (Str.ofString "read_function") 715), (.str (Str.ofString "read_function") 716), (.str (Str.ofString "/claim/cut.py") 717), (.int (152) 0), (.int (1) 0), (.int (0) 0), (.int (0) 0), (.int (3) 0), (.ref 308), (.bool true), (.int (181) 0), (.ref 309), .none, (.ref 310), (.ref 311), (.ref 312), (.int (721) 0), (.int (152) 0), (.str (Str.ofString "/claim/cut.py") 722)]), #[]⟩) ::
  (nat_lit 314, ⟨(.type "function"), none, (.func (PySem.W.fnOf (Str.ofString "read_function") (Str.ofString "read_function") (defArgs (top 56)) (defBody (top 56)) (defScope (top 56)) .none .none .none (.str (Str.ofString "rankedfunctions.functions") 603) none (.ref 313) .none)), #[]⟩) ::
  (nat_lit 315, ⟨(.type "tuple"), none, (.seq #[] 0), #[]⟩) ::
  (nat_lit 317, ⟨(.type "tuple"), none, (.seq #[(.str (Str.ofString "base") 727)] 0), #[]⟩) ::
  (nat_lit 318, ⟨(.type "tuple"), none, (.seq #[] 0), #[]⟩) ::
  (nat_lit 320, ⟨(.type "code"), none, (.fields #[(.str (Str.ofString "uses_of_base") 724), (.str (Str.ofString "uses_of_base") 725), (.str (Str.ofString "/claim/cut.py") 726), (.int (158) 0), (.int (1) 0), (.int (0) 0), (.int (0) 0), (.int (3) 0), (.ref 315), (.bool true), (.int (181) 0), (.ref 316), .none, (.ref 317), (.ref 318), (.ref 319), (.int (728) 0), (.int (158) 0), (.str (Str.ofString "/claim/cut.py") 729)]), #[]⟩) ::
  (nat_lit 321, ⟨(.type "function"), none, (.func (PySem.W.fnOf (Str.ofString "uses_of_base") (Str.ofString "uses_of_base") (defArgs (top 57)) (defBody (top 57)) (defScope (top 57)) .none .none .none (.str (Str.ofString "rankedfunctions.functions") 603) none (.ref 320) .none)), #[]⟩) ::
  (nat_lit 322, ⟨(.type "tuple"), none, (.seq #[] 0), #[]⟩) ::
  (nat_lit 324, ⟨(.type "tuple"), none, (.seq #[(.str (Str.ofString "uses") 734)] 0), #[]⟩) ::
  (nat_lit 325, ⟨(.type "tuple"), none, (.seq #[] 0), #[]⟩) ::
  (nat_lit 327, ⟨(.type "code"), none, (.fields #[(.str (Str.ofString "may_with_two") 731), (.str (Str.ofString "may_with_two") 732), (.str (Str.ofString "/claim/cut.py") 733), (.int (164) 0), (.int (1) 0), (.int (0) 0), (.int (0) 0), (.int (3) 0), (.ref 322), (.bool true), (.int (181) 0), (.ref 323), .none, (.ref 324), (.ref 325), (.ref 326), (.int (735) 0), (.int (164) 0), (.str (Str.ofString "/claim/cut.py") 736)]), #[]⟩) ::
  (nat_lit 328, ⟨(.type "function"), none, (.func (PySem.W.fnOf (Str.ofString "may_with_two") (Str.ofString "may_with_two") (defArgs (top 58)) (defBody (top 58)) (defScope (top 58)) .none .none .none (.str (Str.ofString "rankedfunctions.functions") 603) none (.ref 327) .none)), #[]⟩) ::
  (nat_lit 329, ⟨(.type "tuple"), none, (.seq #[] 0), #[]⟩) ::
  (nat_lit 331, ⟨(.type "tuple"), none, (.seq #[(.str (Str.ofString "function") 741), (.str (Str.ofString "uses") 742), (.str (Str.ofString "modifier") 743)] 0), #[]⟩) ::
  (nat_lit 332, ⟨(.type "tuple"), none, (.seq #[] 0), #[]⟩) ::
  (nat_lit 334, ⟨(.type "code"), none, (.fields #[(.str (Str.ofString "uses_of") 738), (.str (Str.ofString "uses_of") 739), (.str (Str.ofString "/claim/cut.py") 740), (.int (166) 0), (.int (1) 0), (.int (0) 0), (.int (0) 0), (.int (3) 0), (.ref 329), (.bool true), (.int (181) 0), (.ref 330), .none, (.ref 331), (.ref 332), (.ref 333), (.int (744) 0), (.int (166) 0), (.str (Str.ofString "/claim/cut.py") 745)]), #[]⟩) ::
  (nat_lit 335, ⟨(.type "function"), none, (.func (PySem.W.fnOf (Str.ofString "uses_of") (Str.ofString "uses_of") (defArgs (top 59)) (defBody (top 59)) (defScope (top 59)) .none .none .none (.str (Str.ofString "rankedfunctions.functions") 603) none (.ref 334) .none)), #[]⟩) ::
  (nat_lit 336, ⟨(.type "tuple"), none, (.seq #[] 0), #[]⟩) ::
  (nat_lit 338, ⟨(.type "tuple"), none, (.seq #[(.str (Str.ofString "f") 752)] 0), #[]⟩) ::
  (nat_lit 339, ⟨(.type "tuple"), none, (.seq #[(.str (Str.ofString "f") 753)] 0), #[]⟩) ::
  (nat_lit 341, ⟨(.type "code"), none, (.fields #[(.str (Str.ofString "uses") 749), (.str (Str.ofString "uses") 750), (.str (Str.ofString "/claim/cut.py") 751), (.int (173) 0), (.int (1) 0), (.int (0) 0), (.int (0) 0), (.int (3) 0), (.ref 336), (.bool true), (.int (181) 0), (.ref 337), .none, (.ref 338), (.ref 339), (.ref 340), (.int (754) 0), (.int (173) 0), (.str (Str.ofString "/claim/cut.py") 755)]), #[]⟩) ::
  (nat_lit 342, ⟨(.type "function"), none, (.func (PySem.W.fnOf (Str.ofString "uses") (Str.ofString "uses") (defArgs (top 61)) (defBody (top 61)) (defScope (top 61)) .none .none .none (.str (Str.ofString "rankedfunctions.ranks") 747) none (.ref 341) .none)), #[]⟩) :: []
def heapA : List Addr := nat_lit 2 :: nat_lit 3 :: nat_lit 15 :: nat_lit 22 :: nat_lit 23 :: nat_lit 24 :: nat_lit 25 :: nat_lit 28 :: nat_lit 35 :: nat_lit 36 :: nat_lit 37 :: nat_lit 38 :: nat_lit 41 :: nat_lit 48 :: nat_lit 49 :: nat_lit 50 :: nat_lit 51 :: nat_lit 54 :: nat_lit 61 :: nat_lit 62 :: nat_lit 63 :: nat_lit 64 :: nat_lit 67 :: nat_lit 74 :: nat_lit 75 :: nat_lit 76 :: nat_lit 77 :: nat_lit 80 :: nat_lit 87 :: nat_lit 88 :: nat_lit 89 :: nat_lit 90 :: nat_lit 93 :: nat_lit 100 :: nat_lit 101 :: nat_lit 102 :: nat_lit 103 :: nat_lit 106 :: nat_lit 113 :: nat_lit 114 :: nat_lit 115 :: nat_lit 116 :: nat_lit 119 :: nat_lit 126 :: nat_lit 127 :: nat_lit 128 :: nat_lit 129 :: nat_lit 132 :: nat_lit 139 :: nat_lit 140 :: nat_lit 141 :: nat_lit 142 :: nat_lit 145 :: nat_lit 152 :: nat_lit 153 :: nat_lit 154 :: nat_lit 155 :: nat_lit 158 :: nat_lit 165 :: nat_lit 167 :: nat_lit 168 :: nat_lit 170 :: nat_lit 171 :: nat_lit 172 :: nat_lit 173 :: nat_lit 174 :: nat_lit 175 :: nat_lit 178 :: nat_lit 180 :: nat_lit 181 :: nat_lit 183 :: nat_lit 184 :: nat_lit 185 :: nat_lit 186 :: nat_lit 194 :: nat_lit 196 :: nat_lit 197 :: nat_lit 199 :: nat_lit 200 :: nat_lit 201 :: nat_lit 202 :: nat_lit 203 :: nat_lit 204 :: nat_lit 205 :: nat_lit 208 :: nat_lit 211 :: nat_lit 212 :: nat_lit 213 :: nat_lit 215 :: nat_lit 216 :: nat_lit 218 :: nat_lit 219 :: nat_lit 220 :: nat_lit 222 :: nat_lit 223 :: nat_lit 225 :: nat_lit 226 :: nat_lit 227 :: nat_lit 229 :: nat_lit 230 :: nat_lit 232 :: nat_lit 233 :: nat_lit 234 :: nat_lit 236 :: nat_lit 237 :: nat_lit 239 :: nat_lit 240 :: nat_lit 241 :: nat_lit 243 :: nat_lit 244 :: nat_lit 246 :: nat_lit 247 :: nat_lit 248 :: nat_lit 250 :: nat_lit 251 :: nat_lit 253 :: nat_lit 254 :: nat_lit 255 :: nat_lit 257 :: nat_lit 258 :: nat_lit 260 :: nat_lit 261 :: nat_lit 262 :: nat_lit 264 :: nat_lit 265 :: nat_lit 267 :: nat_lit 268 :: nat_lit 269 :: nat_lit 270 :: nat_lit 271 :: nat_lit 272 :: nat_lit 280 :: nat_lit 282 :: nat_lit 283 :: nat_lit 285 :: nat_lit 286 :: nat_lit 287 :: nat_lit 288 :: nat_lit 289 :: nat_lit 290 :: nat_lit 291 :: nat_lit 294 :: nat_lit 296 :: nat_lit 297 :: nat_lit 299 :: nat_lit 300 :: nat_lit 301 :: nat_lit 303 :: nat_lit 304 :: nat_lit 306 :: nat_lit 307 :: nat_lit 308 :: nat_lit 310 :: nat_lit 311 :: nat_lit 313 :: nat_lit 314 :: nat_lit 315 :: nat_lit 317 :: nat_lit 318 :: nat_lit 320 :: nat_lit 321 :: nat_lit 322 :: nat_lit 324 :: nat_lit 325 :: nat_lit 327 :: nat_lit 328 :: nat_lit 329 :: nat_lit 331 :: nat_lit 332 :: nat_lit 334 :: nat_lit 335 :: nat_lit 336 :: nat_lit 338 :: nat_lit 339 :: nat_lit 341 :: nat_lit 342 :: []
def looseT : List Str := (["SHAPE", "RANK", "INDEX", "ZERO", "BIG", "SIZE", "DOMAIN", "EMPTY", "USE", "FORM", "LONG", "FUNCTION", "WrongShape", "WrongRank", "NoSuchCell", "ByZero", "NumberTooBig", "NoShape", "OutsideDomain", "NothingToFold", "NoSuchUse", "NoArray", "TooLong", "NoFunction", "answer_of", "BLANKS", "COLON", "SIGNS", "Token", "bytes_of", "is_blank", "is_letter", "is_digit", "past_run", "past_modifier_word", "past_sign", "past_token", "token_from", "MOST_BYTES", "MOST_MODIFIERS", "WORDS_OF_ONE", "WORDS_OF_TWO", "FOLD", "SCAN", "SWAP", "AT", "MODIFIER_WORDS", "RANK_DIGITS", "WITH_ONE", "WITH_TWO", "Function", "name_among", "read_modifiers", "read_function", "uses_of_base", "may_with_two", "uses_of"] : List String).map Str.ofString
def viewT : Program := PySem.W.view PySem.Challenge.pw_rankedfunctions_s03_uses [61]
end Rk

namespace Rk
open PySem PySem.W PyProof.Rows
set_option maxRecDepth 100000
theorem hd1 : opening PySem.Challenge.pw_rankedfunctions_s03_uses = plainProg (PySem.Challenge.pw_rankedfunctions_s03_uses).main.scope.names := by kernel_rfl
theorem hd2 : ∀ s, fenceModules? PySem.Challenge.pw_rankedfunctions_s03_uses s = some s := fun s => by kernel_rfl
theorem hd3 : ∀ (w : World) (os : OsState), topGo treeTable PySem.Challenge.pw_rankedfunctions_s03_uses w 11 Hx.ann 12 ⟨boot_heap w.params, Array.mk [], boot_drawn, boot_toks, os⟩ (topStub PySem.Challenge.pw_rankedfunctions_s03_uses) = some ((Hx.Sb w os).abs, ⟨denote treeTable (Hx.cE PySem.Challenge.pw_rankedfunctions_s03_uses), Hx.cE PySem.Challenge.pw_rankedfunctions_s03_uses, Hx.pos0, [topFrame Hx.pos0]⟩) := fun w os => by kernel_rfl
theorem hd4 : ∀ (w : World) (os : OsState), segRun treeTable PySem.Challenge.pw_rankedfunctions_s03_uses w 11 Hx.ann 1 1 (Hx.Sb w os).abs (blockOf (behindTheImports PySem.Challenge.pw_rankedfunctions_s03_uses) (Hx.env PySem.Challenge.pw_rankedfunctions_s03_uses) (Hx.cE PySem.Challenge.pw_rankedfunctions_s03_uses) Hx.pos0 [topFrame Hx.pos0]) = some (.next, (Hx.Sb w os).abs, Hx.cE PySem.Challenge.pw_rankedfunctions_s03_uses, Hx.pos0) := fun w os => by kernel_rfl
def seeT (s : Shared) : Bool := xlAt viewT [] s && recOk [] s
theorem runA : ∀ (w : World) (os : OsState), (Hx.runQ PySem.Challenge.pw_rankedfunctions_s03_uses w 3900 os).map (fun r => (r.1, r.2.2.1, Hx.looks PySem.Challenge.pw_rankedfunctions_s03_uses w r.2.1.abs)) = some (.next, Hx.cE PySem.Challenge.pw_rankedfunctions_s03_uses, true) := fun w os => by kernel_rfl
theorem runB : ∀ (w : World) (os : OsState), (Hx.runQ PySem.Challenge.pw_rankedfunctions_s03_uses w 3900 os).map (fun r => PySem.W.Fast.tw4187177175401517315 viewT looseT (importedModules (PySem.Challenge.pw_rankedfunctions_s03_uses).main.body) seeT true r.2.1.abs) = some (openGood viewT looseT) := fun w os => by kernel_rfl
theorem runC : ∀ (w : World) (os : OsState), (Hx.runQ PySem.Challenge.pw_rankedfunctions_s03_uses w 3900 os).map (fun r => heapA.map (Hx.getT r.2.1)) = some (((heapK (w).params).map (·.2)).map some) := fun w os => by kernel_rfl
end Rk
set_option maxRecDepth 100000 in
set_option maxHeartbeats 0 in
theorem PySem.Challenge.cw_rankedfunctions_s03_uses_holds : PySem.Challenge.rw_rankedfunctions_s03_uses.Holds := by
  w_on
  refine PySem.W.holds_os (q := Rk.viewT) (loose := Rk.looseT) (Xt := Rk.seeT) (XP := PySem.W.XL Rk.viewT []) (Yf := PySem.W.Hook.obs (PySem.W.kHook Rk.heapK Rk.heapA (fun _ => by kernel_rfl))) (Ya := PySem.W.Hook.val (PySem.W.kHook Rk.heapK Rk.heapA (fun _ => by kernel_rfl))) (YP := PySem.W.Hook.says (PySem.W.kHook Rk.heapK Rk.heapA (fun _ => by kernel_rfl))) (N := 8500) ?hl (PySem.W.Hook.of (PySem.W.kHook Rk.heapK Rk.heapA (fun _ => by kernel_rfl))) (PySem.W.Hook.keeps (PySem.W.kHook Rk.heapK Rk.heapA (fun _ => by kernel_rfl))) (fun s e => PySem.W.xl_of s (Bool.and_eq_true_iff.mp e).1) PySem.W.XL.keeps (by rfl) (by rfl) (by rfl) (fun s e => PySem.W.recFacts_of (Bool.and_eq_true_iff.mp e).2) PySem.W.os_shapes (by decide +kernel) (by decide +kernel) ⟨rfl, rfl, rfl, rfl, rfl, by decide +kernel⟩ ?hw ?hc
  (case hl => exact Hx.left_of (M := 3900) Rk.hd1 rfl Rk.hd2 Rk.hd3 Rk.hd4 rfl Rk.runA Rk.runB Rk.runC)
  (case hw => exact ⟨[.list []], by decide +kernel, by decide +kernel⟩)
  k_fillS
  refine L2.walk_specT (r := PySem.Challenge.rw_rankedfunctions_s03_uses) (k := 10) (CX := fun w => L2.CXE PySem.Challenge.rw_rankedfunctions_s03_uses.prog w) (ps := ["f"]) (sp := Rk.spUsesT) (by decide +kernel) rfl rfl ⟨rfl, by decide, by decide⟩ (fun w h Y => PySem.W.kIn_of Y) ?F ?S (fun w H s e s' z => L2.cxe_none H s e s' z)
  case F =>
    intro w mean mg mb fa h T Y KX G hmg
    have R : Rk.Reads (L2.KOf KX) mg := by
      dsimp only [L2.KOf]
      refine' Rk.read_mk KX G ?eL ?lL ?oL ?pL ?iL ?eN ?lN ?oN ?pN ?n1 ?n2 ?n3 ?n4 ?ne ?aX ?lX ?cX ?kX ?eT ?pgT ?hdT ?poT ?saT ?mkT ?kcT ?t1 ?t2 ?t3 ?aI ?iI ?lI ?cI ?kI ?eF ?pgF ?hdF ?poF ?saF ?mkF ?kcF ?f1 ?f2 ?aJ ?iJ ?lJ ?cJ ?kJ ?v1 ?v2 ?v3 ?v4 ?v5
        ?q1 ?r1 ?z1 ?y1 ?q2 ?r2 ?z2 ?y2 ?q6 ?r6 ?z6 ?y6 ?q3 ?r3 ?z3 ?y3 ?q4 ?r4 ?z4 ?y4 ?q5 ?r5 ?z5 ?y5 ?g1 ?g2 ?g3 ?g4
        ?m1 ?j1 ?c1 ?w1 ?m2 ?j2 ?c2 ?w2 ?m3 ?j3 ?c3 ?w3 ?m4 ?j4 ?c4 ?w4 ?m5 ?j5 ?c5 ?w5 ?m6 ?j6 ?c6 ?w6 ?m7 ?j7 ?c7 ?w7 ?m8 ?j8 ?c8 ?w8 ?m9 ?j9 ?c9 ?w9 ?ma ?ja ?ca ?wa ?mb ?jb ?cb ?wb ?mc ?jc ?cc ?wc
      (case eL => k_is); (case lL => k_is); (case oL => first | kernel_rfl | with_unfolding_all rfl); (case pL => k_is); (case iL => k_is)
      (case eN => k_is); (case lN => k_is); (case oN => first | kernel_rfl | with_unfolding_all rfl); (case pN => k_is); (case n1 => k_is); (case n2 => k_is); (case n3 => k_is); (case n4 => k_is); (case ne => decide)
      (case aX => k_is); (case lX => k_is); (case cX => k_is); (case kX => k_is)
      (case eT => k_is); (case pgT => k_is); (case hdT => k_is); (case poT => k_is); (case saT => k_is); (case mkT => k_is); (case kcT => k_is); (case t1 => k_is); (case t2 => k_is); (case t3 => k_is)
      (case aI => k_is); (case iI => k_is); (case lI => k_is); (case cI => k_is); (case kI => k_is)
      (case eF => k_is); (case pgF => k_is); (case hdF => k_is); (case poF => k_is); (case saF => k_is); (case mkF => k_is); (case kcF => k_is); (case f1 => k_is); (case f2 => k_is)
      (case aJ => k_is); (case iJ => k_is); (case lJ => k_is); (case cJ => k_is); (case kJ => k_is)
      (case v1 => k_is); (case v2 => k_is); (case v3 => k_is); (case v4 => k_is); (case v5 => k_is)
      (case q1 => k_is); (case r1 => k_is); (case z1 => decide); (case y1 => rfl)
      (case q2 => k_is); (case r2 => k_is); (case z2 => decide); (case y2 => rfl)
      (case q6 => k_is); (case r6 => k_is); (case z6 => decide); (case y6 => rfl)
      (case q3 => k_is); (case r3 => k_is); (case z3 => decide); (case y3 => rfl)
      (case q4 => k_is); (case r4 => k_is); (case z4 => decide); (case y4 => rfl)
      (case q5 => k_is); (case r5 => k_is); (case z5 => decide); (case y5 => rfl)
      (case g1 => k_is); (case g2 => k_is); (case g3 => k_is); (case g4 => k_is)
      (case m1 => k_is); (case j1 => k_is); (case c1 => k_is); (case w1 => k_is)
      (case m2 => k_is); (case j2 => k_is); (case c2 => k_is); (case w2 => k_is)
      (case m3 => k_is); (case j3 => k_is); (case c3 => k_is); (case w3 => k_is)
      (case m4 => k_is); (case j4 => k_is); (case c4 => k_is); (case w4 => k_is)
      (case m5 => k_is); (case j5 => k_is); (case c5 => k_is); (case w5 => k_is)
      (case m6 => k_is); (case j6 => k_is); (case c6 => k_is); (case w6 => k_is)
      (case m7 => k_is); (case j7 => k_is); (case c7 => k_is); (case w7 => k_is)
      (case m8 => k_is); (case j8 => k_is); (case c8 => k_is); (case w8 => k_is)
      (case m9 => k_is); (case j9 => k_is); (case c9 => k_is); (case w9 => k_is)
      (case ma => k_is); (case ja => k_is); (case ca => k_is); (case wa => k_is)
      (case mb => k_is); (case jb => k_is); (case cb => k_is); (case wb => k_is)
      (case mc => k_is); (case jc => k_is); (case cc => k_is); (case wc => k_is)
    have X12 : ∃ q, Rk.AnsT (L2.KOf KX) mg q := by
      dsimp only [L2.KOf]
      refine' ⟨_, Rk.ans_mk (Rk.xt_mk KX G ?e0 ?l0 ?o0 ?p0 ?v0) (Rk.xt_mk KX G ?e1 ?l1 ?o1 ?p1 ?v1) (Rk.xt_mk KX G ?e2 ?l2 ?o2 ?p2 ?v2) (Rk.xt_mk KX G ?e3 ?l3 ?o3 ?p3 ?v3) (Rk.xt_mk KX G ?e4 ?l4 ?o4 ?p4 ?v4) (Rk.xt_mk KX G ?e5 ?l5 ?o5 ?p5 ?v5) (Rk.xt_mk KX G ?e6 ?l6 ?o6 ?p6 ?v6) (Rk.xt_mk KX G ?e7 ?l7 ?o7 ?p7 ?v7) (Rk.xt_mk KX G ?e8 ?l8 ?o8 ?p8 ?v8) (Rk.xt_mk KX G ?e9 ?l9 ?o9 ?p9 ?v9) (Rk.xt_mk KX G ?ea ?la ?oa ?pa ?va) (Rk.xt_mk KX G ?eb ?lb ?ob ?pb ?vb) ?nd⟩
      (case e0 => k_is); (case l0 => k_is); (case o0 => first | kernel_rfl | with_unfolding_all rfl); (case p0 => k_is); (case v0 => k_is)
      (case e1 => k_is); (case l1 => k_is); (case o1 => first | kernel_rfl | with_unfolding_all rfl); (case p1 => k_is); (case v1 => k_is)
      (case e2 => k_is); (case l2 => k_is); (case o2 => first | kernel_rfl | with_unfolding_all rfl); (case p2 => k_is); (case v2 => k_is)
      (case e3 => k_is); (case l3 => k_is); (case o3 => first | kernel_rfl | with_unfolding_all rfl); (case p3 => k_is); (case v3 => k_is)
      (case e4 => k_is); (case l4 => k_is); (case o4 => first | kernel_rfl | with_unfolding_all rfl); (case p4 => k_is); (case v4 => k_is)
      (case e5 => k_is); (case l5 => k_is); (case o5 => first | kernel_rfl | with_unfolding_all rfl); (case p5 => k_is); (case v5 => k_is)
      (case e6 => k_is); (case l6 => k_is); (case o6 => first | kernel_rfl | with_unfolding_all rfl); (case p6 => k_is); (case v6 => k_is)
      (case e7 => k_is); (case l7 => k_is); (case o7 => first | kernel_rfl | with_unfolding_all rfl); (case p7 => k_is); (case v7 => k_is)
      (case e8 => k_is); (case l8 => k_is); (case o8 => first | kernel_rfl | with_unfolding_all rfl); (case p8 => k_is); (case v8 => k_is)
      (case e9 => k_is); (case l9 => k_is); (case o9 => first | kernel_rfl | with_unfolding_all rfl); (case p9 => k_is); (case v9 => k_is)
      (case ea => k_is); (case la => k_is); (case oa => first | kernel_rfl | with_unfolding_all rfl); (case pa => k_is); (case va => k_is)
      (case eb => k_is); (case lb => k_is); (case ob => first | kernel_rfl | with_unfolding_all rfl); (case pb => k_is); (case vb => k_is)
      (case nd => decide)
    obtain ⟨q, A⟩ := X12
    have DA : ∃ f fd, Rk.Df (L2.KOf KX) mg "answer_of" Rk.sAns ["call"] f fd := by
      dsimp only [L2.KOf]
      refine' ⟨_, _, Rk.df_mk (st := Rk.sAns) (ps := ["call"]) KX G ?a ?l ?c ?k ?b⟩
      (case a => k_is); (case l => k_is); (case c => k_is); (case k => k_is)
      (case b => exact fun _ _ _ _ _ _ us hl => match us, hl with | [_], _ => rfl)
    obtain ⟨fDA, fdDA, DA⟩ := DA
    have DB : ∃ f fd, Rk.Df (L2.KOf KX) mg "uses_of_base" Rk.sUBase ["base"] f fd := by
      dsimp only [L2.KOf]
      refine' ⟨_, _, Rk.df_mk (st := Rk.sUBase) (ps := ["base"]) KX G ?a ?l ?c ?k ?b⟩
      (case a => k_is); (case l => k_is); (case c => k_is); (case k => k_is)
      (case b => exact fun _ _ _ _ _ _ us hl => match us, hl with | [_], _ => rfl)
    obtain ⟨fDB, fdDB, DB⟩ := DB
    have DM : ∃ f fd, Rk.Df (L2.KOf KX) mg "may_with_two" Rk.sMay2 ["uses"] f fd := by
      dsimp only [L2.KOf]
      refine' ⟨_, _, Rk.df_mk (st := Rk.sMay2) (ps := ["uses"]) KX G ?a ?l ?c ?k ?b⟩
      (case a => k_is); (case l => k_is); (case c => k_is); (case k => k_is)
      (case b => exact fun _ _ _ _ _ _ us hl => match us, hl with | [_], _ => rfl)
    obtain ⟨fDM, fdDM, DM⟩ := DM
    have DU : ∃ f fd, Rk.Df (L2.KOf KX) mg "uses_of" Rk.sUses0 ["function"] f fd := by
      dsimp only [L2.KOf]
      refine' ⟨_, _, Rk.df_mk (st := Rk.sUses0) (ps := ["function"]) KX G ?a ?l ?c ?k ?b⟩
      (case a => k_is); (case l => k_is); (case c => k_is); (case k => k_is)
      (case b => exact fun _ _ _ _ _ _ us hl => match us, hl with | [_], _ => rfl)
    obtain ⟨fDU, fdDU, DU⟩ := DU
    dsimp only [L2.KOf] at R A DA DB DM DU
    refine' Rk.uses_mk KX G hmg ?e ?lk ?hcd (Pt := ?Pt) ?hT ?hK R A ?v1 ?v2 ?v3 ?v4 ?v5 DA DB DM DU
    (case e => k_is); (case lk => k_is); (case hcd => k_is)
    (case hK => kernel_rfl)
    (case v1 => k_is); (case v2 => k_is); (case v3 => k_is); (case v4 => k_is); (case v5 => k_is)
    (case hT =>
      refine' List.forall_mem_cons.mpr ⟨PySem.W.tab_of (x := "uses") T KX rfl (L2.tab_mk ?h1 ?h2 ?h3 ?h4 ?h5), fun _ h => nomatch h⟩
      (case h1 => k_is); (case h2 => k_is); (case h3 => rfl); (case h4 => k_is); (case h5 => rfl))
  case S =>
    intro tabs K H xs a hO hwi hask hx
    cases hx with
    | cons h1 h2 =>
      cases h2
      cases h1 with
      | lst hs ha =>
        have e := L2.ints_dw a.1 _ ha
        subst e
        have q : ((Codec.inLen 0 1000 a.1 && a.1.all (Codec.inInt 0 255)) && true) = true := hwi
        rw [Bool.and_eq_true, Bool.and_eq_true] at q
        have hb : ∀ x ∈ a.1, 0 ≤ x ∧ x ≤ 255 := fun x hx => Codec.inInt_iff.mp (List.all_eq_true.mp q.1.2 x hx)
        refine ⟨_, a.1.map fun b => b.toNat, rfl, ?_, hO.tab, fun H' p hp => ?_⟩
        · rw [Rk.tv_ints hb]; exact hs
        · show L2.Dw K H' (.ref p) (.list ((PyVaarrc.uses a.1).map WData.int))
          rw [Rk.uses_eq hb]
          exact .lst (L2.SqL.of hp) (L2.dw_ints (Rk.ansU (a.1.map fun b => b.toNat)))
#print axioms PySem.Challenge.cw_rankedfunctions_s03_uses_holds


