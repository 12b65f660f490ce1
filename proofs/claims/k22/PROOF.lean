import PyProof.Rows.All
import Wide.All
import OpenK.AllK
import Wide.FinOn
import Lean
import PyProof.EqAt
import PyProof.EqKinds
import PyProof.TupleCall
import PySem.Challenge.RW_sumshare_k22_ladders_settled
set_option Elab.async false
set_option linter.all false
set_option maxRecDepth 100000
/-! THE HAND LAYER, for ints, bools, texts, own classes, LISTS and tuples (index, slices, in, append, pop ..), calls, loops. Paste it whole ahead of your own text; what your proof does not reach may be deleted. -/
namespace L2
open PySem PySem.Spec PyProof.Rows

/-- a key: an int or a str -/
abbrev Key := Sum Int Str
def keyIs : Key → Value → Bool
  | .inl k, v => Value.isInt k v
  | .inr x, v => Value.isStrOf x v
def keyH (w : World) : Key → Int
  | .inl k => hashInt k
  | .inr x => hashStr w x
theorem keyIs_shape : ∀ {k : Key} {v : Value}, keyIs k v = true → (∃ i t, k = Sum.inl i ∧ v = Value.int i t) ∨ (∃ x t, k = Sum.inr x ∧ v = Value.str x t)
  | .inl i, v, h => by
    obtain ⟨t, e⟩ := Value.isInt_shape (k := i) (v := v) h
    exact .inl ⟨i, t, rfl, e⟩
  | .inr x, v, h => by
    obtain ⟨t, e⟩ := Value.isStrOf_shape (x := x) (v := v) h
    exact .inr ⟨x, t, rfl, e⟩
theorem keyIs_int (i : Int) (t : Tok) : keyIs (.inl i) (.int i t) = true := by simp [keyIs, Value.isInt]
theorem keyIs_str (x : Str) (t : Tok) : keyIs (.inr x) (.str x t) = true := by simp [keyIs, Value.isStrOf]
theorem key_ll (a b : Int) : decide ((Sum.inl a : Key) = Sum.inl b) = (a == b) := by
  by_cases e : a = b
  · subst e; simp
  · have h : ¬ (Sum.inl a : Key) = Sum.inl b := fun q => e (Sum.inl.inj q)
    rw [decide_eq_false h]
    exact (beq_eq_false_iff_ne.mpr e).symm
theorem key_rr (a b : Str) : decide ((Sum.inr a : Key) = Sum.inr b) = decide (a = b) := by
  by_cases e : a = b
  · subst e; simp
  · have h : ¬ (Sum.inr a : Key) = Sum.inr b := fun q => e (Sum.inr.inj q)
    rw [decide_eq_false h, decide_eq_false e]
theorem key_lr (a : Int) (b : Str) : decide ((Sum.inl a : Key) = Sum.inr b) = false := decide_eq_false (fun q => nomatch q)
theorem key_rl (a : Str) (b : Int) : decide ((Sum.inr a : Key) = Sum.inl b) = false := decide_eq_false (fun q => nomatch q)

def mixKind (prog : Program) (w : World) : PySem.KeyKind prog w Key where
  is := keyIs
  hash := keyH w
  inj := fun v a b ha hb => by
    rcases keyIs_shape ha with ⟨i, t, rfl, rfl⟩ | ⟨x, t, rfl, rfl⟩
    · rcases keyIs_shape hb with ⟨j, u, rfl, e⟩ | ⟨y, u, rfl, e⟩
      · injection e with e1 _; rw [e1]
      · exact nomatch e
    · rcases keyIs_shape hb with ⟨j, u, rfl, e⟩ | ⟨y, u, rfl, e⟩
      · exact nomatch e
      · injection e with e1 _; rw [e1]
  byValue := fun k v h => by
    rcases keyIs_shape h with ⟨i, t, rfl, rfl⟩ | ⟨x, t, rfl, rfl⟩ <;> rfl
  pyHash := fun hv h => by
    rcases keyIs_shape hv with ⟨i, t, rfl, rfl⟩ | ⟨x, t, rfl, rfl⟩
    · exact wpAny_pyHash_int h
    · exact wpAny_pyHash_str h
  eqBool := fun hu hv h => by
    rcases keyIs_shape hu with ⟨i, t, rfl, rfl⟩ | ⟨x, t, rfl, rfl⟩
    · rcases keyIs_shape hv with ⟨j, u, rfl, rfl⟩ | ⟨y, u, rfl, rfl⟩
      · rw [key_ll] at h; exact wpAny_eqBool_int h
      · rw [key_lr] at h; exact SeqAt.EqAt.int_str i t y u _ _ _ _ h
    · rcases keyIs_shape hv with ⟨j, u, rfl, rfl⟩ | ⟨y, u, rfl, rfl⟩
      · rw [key_rl] at h; exact SeqAt.EqAt.str_int x t j u _ _ _ _ h
      · rw [key_rr] at h; exact wpAny_eqBool_str h
  «strs» := fun k x t v h => by
    rcases keyIs_shape h with ⟨i, u, rfl, e⟩ | ⟨y, u, rfl, e⟩
    · exact nomatch e
    · injection e with e1 _
      subst e1
      cases v <;> rfl

theorem mixKind_int (prog : Program) (w : World) (i : Int) (t : Tok) : (mixKind prog w).is (.inl i) (.int i t) = true := keyIs_int i t
theorem mixKind_str (prog : Program) (w : World) (x : Str) (t : Tok) : (mixKind prog w).is (.inr x) (.str x t) = true := keyIs_str x t
end L2

namespace L2
open PySem PySem.Spec PyProof.Rows

/-- a value, without the heap -/
inductive V where
  | non | bl (b : Bool) | int (i : Int) | str (x : Str) | byt (b : Array UInt8) | flt (b : UInt64) | ref (a : Addr) | ty (n : String)
  deriving DecidableEq

def RelV : V → Value → Prop
  | .non, u => u = Value.none
  | .bl b, u => u = Value.bool b
  | .int i, u => ∃ t, u = Value.int i t
  | .str x, u => ∃ t, u = Value.str x t
  | .byt b, u => ∃ t, u = Value.bytes b t
  | .flt b, u => ∃ t, u = Value.float b t
  | .ref a, u => u = Value.ref a
  | .ty n, u => u = Value.type n

abbrev Vals : List V → List Value → Prop := Paired RelV
theorem Vals.length {xs : List V} {us : List Value} (r : Vals xs us) : xs.length = us.length := Paired.length r
theorem Vals.get : ∀ {xs : List V} {us : List Value} {i : Nat} {x : V}, Vals xs us → xs[i]? = some x → ∃ u, us[i]? = some u ∧ RelV x u
  | _, _, _, _, .nil, e => by simp at e
  | _, _, 0, _, .cons r _, e => by simp at e; subst e; exact ⟨_, rfl, r⟩
  | _, _, i + 1, x, .cons _ t, e => by
    obtain ⟨u, h1, h2⟩ := Vals.get (i := i) (x := x) t (by simpa using e)
    exact ⟨u, by simpa using h1, h2⟩
theorem Vals.set {x : V} {u : Value} (r : RelV x u) : ∀ {xs : List V} {us : List Value} (i : Nat), Vals xs us → Vals (xs.set i x) (us.set i u)
  | _, _, _, .nil => .nil
  | _, _, 0, .cons _ t => .cons r t
  | _, _, i + 1, .cons q t => .cons q (Vals.set r i t)
theorem Vals.append : ∀ {xs ys : List V} {us ws : List Value}, Vals xs us → Vals ys ws → Vals (xs ++ ys) (us ++ ws)
  | _, _, _, _, .nil, s => s
  | _, _, _, _, .cons r t, s => .cons r (Vals.append t s)
theorem Vals.take : ∀ {xs : List V} {us : List Value} (n : Nat), Vals xs us → Vals (xs.take n) (us.take n)
  | _, _, 0, _ => .nil
  | _, _, _ + 1, .nil => .nil
  | _, _, n + 1, .cons r t => .cons r (Vals.take n t)
theorem Vals.drop : ∀ {xs : List V} {us : List Value} (n : Nat), Vals xs us → Vals (xs.drop n) (us.drop n)
  | _, _, 0, r => r
  | _, _, _ + 1, .nil => .nil
  | _, _, n + 1, .cons _ t => Vals.drop n t

def RelO : Option V → Option Value → Prop
  | some v, some u => RelV v u
  | none, none => True
  | _, _ => False
def KV {κ : Type} : List (κ × V) → List (κ × Value) → Prop := Paired fun (p : κ × V) (q : κ × Value) => p.1 = q.1 ∧ RelV p.2 q.2

/-- a key of a dict (00_mix): an int or a text -/
def kV : Key → V
  | .inl i => .int i
  | .inr x => .str x

/-- what stands at a tracked address -/
inductive HO where
  /-- a list -/
  | lst (xs : List V)
  /-- a tuple (never changes) -/
  | tup (xs : List V)
  /-- a dict whose keys are ints and texts; one whose keys are tuples of ints and texts (the empty one is both) -/
  | dK (kvs : List (Key × V)) | dT (kvs : List (List Key × V))
  /-- a set of ints: its members, its size -/
  | set (S : Int → Bool) (n : Nat)
  /-- an instance of the class at C, its dict at dx, its attributes -/
  | ins (C dx : Addr) (fs : List (Str × V))
  /-- the dict of the instance at x -/
  | own (x : Addr)
  /-- the dict of an exception -/
  | xd (fs : List (Str × V))
  /-- a bound method, f of x -/
  | met (f x : Addr)
  /-- a range object lo, lo + 1, .. below hi -/
  | rng (lo hi : Int)
  /-- a thing that is known to the object (the script; a dict while a loop walks it): read, never written while it is so -/
  | frz (o : Obj) (u : HO)
  /-- a code object's table -/
  | tbl (ps : Array Value)
  /-- any other thing, by what is true of its one object (a def of one's own: SetO a S n := HO.ext fun h => ..) -/
  | ext (φ : Heap → Prop)

abbrev Hp := Addr → Option HO
def upd (H : Hp) (a : Addr) (o : HO) : Hp := fun b => if b = a then some o else H b
theorem upd_same {H : Hp} {a : Addr} {o : HO} : upd H a o a = some o := by unfold upd; rw [if_pos rfl]
theorem upd_ne {H : Hp} {a b : Addr} {o : HO} (h : b ≠ a) : upd H a o b = H b := by unfold upd; rw [if_neg h]
/-- two objects of different content stand apart -/
theorem ne_of {H : Hp} {a b : Addr} {o u : HO} (h : H a = some o) (h' : H b = some u) (d : o ≠ u) : a ≠ b := by
  intro e; subst e; rw [h] at h'; exact d (Option.some.inj h')
theorem ne_of_none {H : Hp} {a b : Addr} {o : HO} (h : H a = some o) (h' : H b = none) : a ≠ b := by
  intro e; subst e; rw [h] at h'; cases h'

def TupN (h : Heap) (a : Addr) (items : Array Value) : Prop := ∃ o, h.get? a = some o ∧ (o.cls = .type "tuple" ∧ o.dict = none) ∧ ∃ n, o.data = .seq items n
theorem TupN.tup {h : Heap} {a : Addr} {items : Array Value} (x : TupN h a items) : IsTup h a items := let ⟨o, e, c, n, d⟩ := x; ⟨o, e, c.1, n, d⟩
theorem TupN.new (h : Heap) (items : Array Value) : TupN (h.push { cls := .type "tuple", data := .seq items }) h.objs.size items := ⟨_, Heap.get?_push_size _ rfl, ⟨rfl, rfl⟩, _, rfl⟩
section
variable (P : Program) (w : World)
def ObjOk (H : Hp) (h : Heap) (a : Addr) : HO → Prop
  | .lst xs => xs.length ≤ sizeLine ∧ ∃ (its : List Value) (n : Nat), Vals xs its ∧ h.get? a = some { cls := .type "list", data := .seq its.toArray n }
  | .tup xs => xs.length ≤ sizeLine ∧ ∃ its : List Value, Vals xs its ∧ TupN h a its.toArray
  | .dK kvs => kvs.length ≤ sizeLine ∧ (a == sysModules) = false ∧ ∃ vs, KV kvs vs ∧ h.DictOf (mixKind P w) a vs
  | .dT kvs => kvs.length ≤ sizeLine ∧ (a == sysModules) = false ∧ ∃ xs : List (List Key × Addr × Value),
      Paired (fun (p : List Key × V) (q : List Key × Addr × Value) => p.1 = q.1 ∧ H q.2.1 = some (.tup (p.1.map kV)) ∧ RelV p.2 q.2.2) kvs xs ∧
      ∃ o es ep, h.get? a = some o ∧ o.ExactDict ∧ o.data = .dict es ep ∧ es.toList = xs.map (entryOfKey (tupleKind (mixKind P w))) ∧ (xs.map (·.1)).Nodup
  | .set S n => h.SetOf (intKind P w) a S n
  | .ins C dx fs => H dx = some (.own a) ∧ fs.length ≤ 1000 ∧ dx ≠ a ∧ h.get? a = some (PySem.W.instObj C dx) ∧
      ∃ mA, h.Ns1 dx mA ∧ (∀ f, RelO (fs.lookup f) (mA f)) ∧ PySem.Within mA (fs.map (·.1))
  | .own _ => ∃ o, h.get? a = some o
  | .xd fs => ∃ mA, h.Ns1 a mA ∧ ∀ f, RelO (fs.lookup f) (mA f)
  | .rng lo hi => ∃ t u v, h.get? a = some { cls := .type "range", data := .fields #[.int lo t, .int hi u, .int 1 v] }
  | .frz o u => h.get? a = some o ∧ ObjOk H h a u
  | .tbl ps => h.get? a = some { cls := .none, data := .fields ps }
  | .met f x => h.get? a = some (PySem.W.methodObj (.ref f) (.ref x))
  | .ext φ => φ h ∧ (∃ o, h.get? a = some o) ∧ ∀ h1 h2 : Heap, φ h1 → (∀ o, h1.get? a = some o → h2.get? a = some o) → φ h2
/-- the abstract heap is held -/
def HOk (H : Hp) (h : Heap) : Prop := ∀ a o, H a = some o → ObjOk P w H h a o
end

section
variable {P : Program} {w : World} {H H' : Hp} {h h' : Heap} {a : Addr} {o : HO}
theorem ObjOk.lt (x : ObjOk P w H h a o) : a < h.objs.size := by
  cases o with
  | lst xs => obtain ⟨_, _, _, _, e⟩ := x; exact Heap.lt_size e
  | tup xs => obtain ⟨_, _, _, p⟩ := x; exact p.tup.lt
  | dK kvs => obtain ⟨_, _, _, _, o, _, _, e, _⟩ := x; exact Heap.lt_size e
  | dT kvs => obtain ⟨_, _, _, _, o, _, _, e, _⟩ := x; exact Heap.lt_size e
  | set S n => obtain ⟨o, _, _, _, e, _⟩ := x; exact Heap.lt_size e
  | ins C dx fs => obtain ⟨_, _, _, e, _⟩ := x; exact Heap.lt_size e
  | own y => obtain ⟨_, e⟩ := x; exact Heap.lt_size e
  | xd fs => obtain ⟨_, ⟨_, _, _, e, _⟩, _⟩ := x; exact Heap.lt_size e
  | rng lo hi => obtain ⟨_, _, _, e⟩ := x; exact Heap.lt_size e
  | frz ob u => obtain ⟨e, _⟩ := x; exact Heap.lt_size e
  | tbl ps => exact Heap.lt_size (show h.get? a = some _ from x)
  | met f y => exact Heap.lt_size (show h.get? a = some _ from x)
  | ext φ => obtain ⟨_, ⟨_, e⟩, _⟩ := x; exact Heap.lt_size e
theorem Paired.mapP {α β : Type} {F G : α → β → Prop} : ∀ {l₁ : List α} {l₂ : List β}, Paired F l₁ l₂ → (∀ a b, F a b → G a b) → Paired G l₁ l₂
  | _, _, .nil, _ => .nil
  | _, _, .cons r t, f => .cons (f _ _ r) (Paired.mapP t f)
/-- what an object's description leans on: its own object, its own dict, the tuples -/
theorem ObjOk.stay (x : ObjOk P w H h a o) (k : ∀ b u, (b = a ∨ H b = some (.own a)) → h.get? b = some u → h'.get? b = some u)
    (ho : ∀ b, H b = some (.own a) → H' b = some (.own a)) (ht : ∀ b xs, H b = some (.tup xs) → H' b = some (.tup xs)) : ObjOk P w H' h' a o := by
  induction o with
  | lst xs => obtain ⟨z, its, n, r, e⟩ := x; exact ⟨z, its, n, r, k _ _ (.inl rfl) e⟩
  | tup xs => obtain ⟨z, its, r, ob, e, c⟩ := x; exact ⟨z, its, r, ob, k _ _ (.inl rfl) e, c⟩
  | dK kvs => obtain ⟨z, y, vs, r, ob, es, ep, e, c⟩ := x; exact ⟨z, y, vs, r, ob, es, ep, k _ _ (.inl rfl) e, c⟩
  | dT kvs =>
    obtain ⟨z, y, xs, r, ob, es, ep, e, c⟩ := x
    exact ⟨z, y, xs, Paired.mapP r fun p q z => ⟨z.1, ht _ _ z.2.1, z.2.2⟩, ob, es, ep, k _ _ (.inl rfl) e, c⟩
  | set S n => obtain ⟨ob, es, ep, t, e, c⟩ := x; exact ⟨ob, es, ep, t, k _ _ (.inl rfl) e, c⟩
  | ins C dx fs =>
    obtain ⟨d, z, ne, e, mA, ⟨od, es, ep, e2, c⟩, r⟩ := x
    exact ⟨ho _ d, z, ne, k _ _ (.inl rfl) e, mA, ⟨od, es, ep, k _ _ (.inr d) e2, c⟩, r⟩
  | own y => obtain ⟨ob, e⟩ := x; exact ⟨ob, k _ _ (.inl rfl) e⟩
  | xd fs => obtain ⟨mA, ⟨od, es, ep, e, c⟩, r⟩ := x; exact ⟨mA, ⟨od, es, ep, k _ _ (.inl rfl) e, c⟩, r⟩
  | rng lo hi => obtain ⟨t, u, v, e⟩ := x; exact ⟨t, u, v, k _ _ (.inl rfl) e⟩
  | frz ob u ih => obtain ⟨e, q⟩ := x; exact ⟨k _ _ (.inl rfl) e, ih q⟩
  | tbl ps =>
    have e : h.get? a = some { cls := .none, data := .fields ps } := x
    show h'.get? a = some { cls := .none, data := .fields ps }
    exact k a _ (.inl rfl) e
  | met f y =>
    have e : h.get? a = some (PySem.W.methodObj (.ref f) (.ref y)) := x
    show h'.get? a = some (PySem.W.methodObj (.ref f) (.ref y))
    exact k a _ (.inl rfl) e
  | ext φ => obtain ⟨p, ⟨o, e⟩, st⟩ := x; exact ⟨st _ _ p fun o q => k _ _ (.inl rfl) q, ⟨o, k _ _ (.inl rfl) e⟩, st⟩
theorem HOk.lt (x : HOk P w H h) (e : H a = some o) : a < h.objs.size := (x a o e).lt
theorem HOk.fresh (x : HOk P w H h) (e : h.objs.size ≤ a) : H a = none := by
  cases q : H a with
  | none => rfl
  | some u => exact absurd (Nat.lt_of_lt_of_le (x.lt q) e) (Nat.lt_irrefl _)
/-- every object of the heap is kept -/
theorem HOk.kept (x : HOk P w H h) (k : ∀ b u, h.get? b = some u → h'.get? b = some u) : HOk P w H h' := fun a o e =>
  (x a o e).stay (fun b u _ q => k b u q) (fun _ q => q) fun _ _ q => q
/-- a new object is laid and tracked -/
theorem HOk.laid (x : HOk P w H h) (k : ∀ b u, h.get? b = some u → h'.get? b = some u) (hp : h.objs.size ≤ a) (new : ObjOk P w (upd H a o) h' a o) : HOk P w (upd H a o) h' := fun b u e => by
  have hn := x.fresh hp
  by_cases hb : b = a
  · subst hb; rw [upd_same] at e; cases e; exact new
  · rw [upd_ne hb] at e
    exact (x b u e).stay (fun c v _ q => k c v q) (fun c q => by rw [upd_ne (ne_of_none q hn)]; exact q) fun c xs q => by rw [upd_ne (ne_of_none q hn)]; exact q
end

/-- what may be read as u: it is u, or a known u -/
def Rd (H : Hp) (a : Addr) (u : HO) : Prop := H a = some u ∨ ∃ o, H a = some (.frz o u)
theorem Rd.of {H : Hp} {a : Addr} {u : HO} (h : H a = some u) : Rd H a u := .inl h
theorem Rd.ok {P : Program} {w : World} {H : Hp} {h : Heap} {a : Addr} {u : HO} (r : Rd H a u) (x : HOk P w H h) : ObjOk P w H h a u := by
  rcases r with r | ⟨o, r⟩
  · exact x a u r
  · obtain ⟨_, q⟩ := x a _ r
    exact q
/-- what may be written -/
def Mut : Option HO → Prop
  | some (.lst _) => True
  | some (.dK _) => True
  | some (.dT _) => True
  | some (.set _ _) => True
  | some (.ins _ _ _) => True
  | some (.ext _) => True
  | _ => False
section
variable {P : Program} {w : World} {H : Hp} {h h' : Heap} {x e : Addr} {o' : HO}
/-- the object at e is changed: x itself, or the dict of the instance x -/
theorem HOk.write (ok : HOk P w H h) (mu : Mut (H x)) (he : e = x ∨ H e = some (.own x)) (k : ∀ b u, b ≠ e → h.get? b = some u → h'.get? b = some u) (heo : ∃ u, h'.get? e = some u)
    (new : ObjOk P w (upd H x o') h' x o') : HOk P w (upd H x o') h' := fun b u q => by
  have nown : ∀ c y, H c = some (.own y) → c ≠ x := fun c y r z => by subst z; rw [r] at mu; exact mu
  have ntup : ∀ c xs, H c = some (.tup xs) → c ≠ x := fun c xs r z => by subst z; rw [r] at mu; exact mu
  by_cases hb : b = x
  · subst hb; rw [upd_same] at q; cases q; exact new
  · rw [upd_ne hb] at q
    by_cases hbe : b = e
    · have q' : H b = some (.own x) := by
        rcases he with z | z
        · exact absurd (hbe.trans z) hb
        · rw [hbe]; exact z
      rw [q] at q'; cases q'
      obtain ⟨v, hv⟩ := heo
      exact ⟨v, by rw [hbe]; exact hv⟩
    · refine (ok b u q).stay (fun c v hc r => k c v ?_ r) (fun c r => by rw [upd_ne (nown c b r)]; exact r) fun c xs r => by rw [upd_ne (ntup c xs r)]; exact r
      rcases hc with rfl | hc
      · exact hbe
      · rintro rfl
        rcases he with z | z
        · exact nown c b hc z
        · rw [hc] at z; cases z; exact hb rfl
end

/-! ### kept unless tracked; of the frames at fs (the callers') the slots may change (an exception that passes writes there); of the records at ex (iterators) nothing is said -/
structure Un (fs ex : List Addr) (H H' : Hp) (h h' : Heap) : Prop where
  keep : ∀ b o, h.get? b = some o → H b = none → b ∉ fs → b ∉ ex → h'.get? b = some o
  slot : ∀ b o, h.get? b = some o → H b = none → b ∈ fs → b ∉ ex → ∃ sl, h'.get? b = some { o with slots := sl }
  free : ∀ b o, h.get? b = some o → H b = none → b ∉ ex → H' b = none
  there : ∀ b o, h.get? b = some o → b ∉ ex → ∃ o', h'.get? b = some o'
  tups : ∀ b xs, H b = some (.tup xs) → H' b = some (.tup xs)
  frzs : ∀ b o u, H b = some (.frz o u) → H' b = some (.frz o u)
  tbls : ∀ b ps, H b = some (.tbl ps) → ∃ more, H' b = some (.tbl (ps ++ more))
section
variable {fs fs' ex ex' : List Addr} {H H1 H2 : Hp} {h h1 h2 h' : Heap} {a x e : Addr} {o : HO}
theorem Un.any (u : Un fs ex H H1 h h1) {b : Addr} {ob : Obj} (q : h.get? b = some ob) (n : H b = none) (hx : b ∉ ex) : ∃ sl, h1.get? b = some { ob with slots := sl } := by
  by_cases hb : b ∈ fs
  · exact u.slot b ob q n hb hx
  · exact ⟨ob.slots, u.keep b ob q n hb hx⟩
theorem Un.trans (a : Un fs ex H H1 h h1) (b : Un fs ex H1 H2 h1 h2) : Un fs ex H H2 h h2 where
  keep := fun c ob q n hc hx => b.keep c ob (a.keep c ob q n hc hx) (a.free c ob q n hx) hc hx
  slot := fun c ob q n hc hx => by
    obtain ⟨sl, e1⟩ := a.slot c ob q n hc hx
    obtain ⟨sl', e2⟩ := b.slot c _ e1 (a.free c ob q n hx) hc hx
    exact ⟨sl', e2⟩
  free := fun c ob q n hx => by
    obtain ⟨o', e1⟩ := a.there c ob q hx
    exact b.free c o' e1 (a.free c ob q n hx) hx
  there := fun c ob q hx => by
    obtain ⟨o', e1⟩ := a.there c ob q hx
    exact b.there c o' e1 hx
  tups := fun c xs q => b.tups c xs (a.tups c xs q)
  frzs := fun c ob xs q => b.frzs c ob xs (a.frzs c ob xs q)
  tbls := fun c ps q => by
    obtain ⟨m1, e1⟩ := a.tbls c ps q
    obtain ⟨m2, e2⟩ := b.tbls c _ e1
    exact ⟨m1 ++ m2, by rw [e2, Array.append_assoc]⟩
theorem Un.kept (k : ∀ b u, h.get? b = some u → h'.get? b = some u) : Un fs ex H H h h' :=
  ⟨fun b ob q _ _ _ => k b ob q, fun b ob q _ _ _ => ⟨ob.slots, k b ob q⟩, fun _ _ _ n _ => n, fun b ob q _ => ⟨ob, k b ob q⟩, fun _ _ q => q, fun _ _ _ q => q, fun _ ps q => ⟨#[], by rw [q]; simp⟩⟩
theorem Un.refl : Un fs ex H H h h := Un.kept fun _ _ q => q
theorem Un.laid (k : ∀ b u, h.get? b = some u → h'.get? b = some u) (hp : h.objs.size ≤ a) (hn : H a = none) : Un fs ex H (upd H a o) h h' where
  keep := fun b u q _ _ _ => k b u q
  slot := fun b u q _ _ _ => ⟨u.slots, k b u q⟩
  free := fun b u q n _ => by rw [upd_ne (Nat.ne_of_lt (Nat.lt_of_lt_of_le (Heap.lt_size q) hp))]; exact n
  there := fun b u q _ => ⟨u, k b u q⟩
  tups := fun b xs q => by rw [upd_ne (ne_of_none q hn)]; exact q
  frzs := fun b u xs q => by rw [upd_ne (ne_of_none q hn)]; exact q
  tbls := fun b ps q => ⟨#[], by rw [upd_ne (ne_of_none q hn), q]; simp⟩
theorem Un.write (mu : Mut (H x)) (he : e = x ∨ H e = some (.own x)) (k : ∀ b u, b ≠ e → h.get? b = some u → h'.get? b = some u) (heo : ∃ u, h'.get? e = some u) : Un fs ex H (upd H x o) h h' := by
  have hx : ∀ b, H b = none → b ≠ x := fun b n z => by subst z; rw [n] at mu; exact mu
  have hb : ∀ b, H b = none → b ≠ e := fun b n z => by
    subst z
    rcases he with r | r
    · exact hx b n r
    · rw [n] at r; cases r
  have hm : ∀ b u, H b = some u → ¬ Mut (some u) → b ≠ x := fun b u q nm z => by subst z; rw [q] at mu; exact nm mu
  refine ⟨fun b u q n _ _ => k b u (hb b n) q, fun b u q n _ _ => ⟨u.slots, k b u (hb b n) q⟩, fun b u q n _ => by rw [upd_ne (hx b n)]; exact n, fun b u q _ => ?_,
    fun b xs q => by rw [upd_ne (hm b _ q fun z => z)]; exact q, fun b u xs q => by rw [upd_ne (hm b _ q fun z => z)]; exact q, fun b ps q => ⟨#[], by rw [upd_ne (hm b _ q fun z => z), q]; simp⟩⟩
  by_cases hbe : b = e
  · subst hbe; exact heo
  · exact ⟨u, k b u hbe q⟩
theorem Un.mono (u : Un fs ex H H1 h h1) (hs : ∀ b ∈ fs, b ∈ fs') (hx : ∀ b ∈ ex, b ∈ ex') : Un fs' ex' H H1 h h1 :=
  ⟨fun b ob q n hb he => u.keep b ob q n (fun z => hb (hs b z)) fun z => he (hx b z), fun _ _ q n _ he => u.any q n fun z => he (hx _ z), fun b ob q n he => u.free b ob q n fun z => he (hx b z), fun b ob q he => u.there b ob q fun z => he (hx b z), u.tups, u.frzs, u.tbls⟩
end

/-! ### the heap without what is tracked -/
def trk (h : Heap) (H : Hp) : List Addr := (List.range h.objs.size).filter fun a => (H a).isSome
def hidT (h : Heap) (H : Hp) : Heap := PySem.W.hideAll h (trk h H)
theorem hidT_size (h : Heap) (H : Hp) : (hidT h H).objs.size = h.objs.size := PySem.W.hideAll_size _ _
theorem hidT_get {h : Heap} {H : Hp} {b : Addr} {o : Obj} (e : h.get? b = some o) (n : H b = none) : (hidT h H).get? b = some o :=
  PySem.W.hideAll_get _ e fun hm => by
    have q : (H b).isSome = true := (List.mem_filter.mp hm).2
    rw [n] at q; simp at q
theorem of_hidT {h : Heap} {H : Hp} {b : Addr} {o : Obj} (e : (hidT h H).get? b = some o) : h.get? b = some o ∧ H b = none := by
  have e' : h.get? b = some o := PySem.W.of_hideAll (trk h H) e
  refine ⟨e', ?_⟩
  cases q : H b with
  | none => rfl
  | some x =>
    have hm : b ∈ trk h H := List.mem_filter.mpr ⟨List.mem_range.mpr (Heap.lt_size e'), by simp [q]⟩
    have z : (hidT h H).get? b = none := PySem.W.hideAll_none (trk h H) hm
    rw [z] at e; cases e

/-! ### OpenK's ledger, filled with every new object but one -/
def allNews (g h : Heap) (L : Addr) : List (Addr × Obj) := (List.range h.objs.size).filterMap fun a => if a = L ∨ (g.get? a).isSome = true then none else (h.get? a).map fun o => (a, o)
def rest (g h : Heap) (L d : Addr) : List (Addr × Obj) := (allNews g h L).filter fun p => decide (p.1 ≠ d)
end L2

namespace L2
open PySem PySem.Spec PyProof.Rows

/-- the module's facts, over the base: the heap at the law's entry without what is tracked there -/
structure Mod (K : PySem.W.Frag) (mg : Str → Option Value) (base : Heap) : Prop where
  kin : K.In base
  glob : base.Ns mainGlobals mg
  blt : ∃ mb, base.Ns builtinsNs mb ∧ ∀ x : Str, x ≠ "__name__" → mb x = bootBuiltins x
  nolimit : base.NoLimit

/-- the context: a def's body (or a comprehension's block) running. base: fixed through the whole law; s₀, H₀: the entry; outer: the frames whose slots others may change (a def's callers); stack: all frames that run;
   ex: iterators that were made ahead of the entry and are walked here (a comprehension's); fn: the names whose cells were made at the entry (a def: all; a comprehension's block: its own); calm: not within an except suite; pn: pins that every state bears; xe: what is wanted of an exception that leaves the code -/
structure Cx where
  prog : Program
  w : World
  K : PySem.W.Frag
  mg : Str → Option Value
  base : Heap
  A : Around
  N : List Str
  s₀ : Shared
  H₀ : Hp
  env : Env
  outer : List Env
  stack : List Env
  ex : List Addr
  fn : Str → Bool
  calm : Bool
  pn : List (Addr × Obj)
  xe : Value → Shared → Prop
/-- the callers' frames -/
def frs (l : List Env) : List Addr := l.filterMap (·.frame)
abbrev Cx.fs (X : Cx) : List Addr := frs X.outer

def Vis (sc : Scope) (x : Str) : Prop := sc.names.lookup x = some .local ∨ sc.names.lookup x = some .cell ∨ sc.names.lookup x = some .free
def Loc (sc : Scope) (x : Str) : Prop := sc.names.lookup x = some .local ∨ sc.names.lookup x = some .cell
def Look (env : Env) (h : Heap) (m : Str → Option Value) (x : Str) (u : Value) : Prop :=
  (env.kindOf x = some .local ∧ m x = some u) ∨ ((env.kindOf x = some .cell ∨ env.kindOf x = some .free) ∧ ∃ c, env.cells.lookup x = some c ∧ h.IsCell c (some u))

structure Cx.Ok (X : Cx) : Prop where
  mod : Mod X.K X.mg X.base
  kind : X.env.scope.kind = .function
  glob : X.env.globals = mainGlobals
  blt : X.env.builtins = builtinsNs
  above : X.s₀.heap.objs.size ≤ X.env.locals
  inj : ∀ x y c, X.env.cells.lookup x = some c → X.env.cells.lookup y = some c → x = y
  has : ∀ x, (X.env.kindOf x = some .cell ∨ X.env.kindOf x = some .free) → ∃ c, X.env.cells.lookup x = some c
  cab : ∀ x c, X.fn x = true → X.env.cells.lookup x = some c → X.s₀.heap.objs.size ≤ c
  hd : X.calm = true → X.A.handled = none
  frames : X.A.frames = some X.stack
  stk : X.stack = X.outer ∨ (X.stack = X.env :: X.outer ∧ X.env.frame = some X.env.locals)
  exf : ∀ b ∈ X.ex, b ≠ X.env.locals ∧ ∀ x c, X.env.cells.lookup x = some c → c ≠ b
  bs : ∀ b o, X.base.get? b = some o → X.s₀.heap.get? b = some o ∧ X.H₀ b = none
  bsz : X.base.objs.size ≤ X.s₀.heap.objs.size
  noex : ∀ b o, X.base.get? b = some o → b ∉ X.ex
  exfs : ∀ b ∈ X.ex, b ∉ X.fs
  funs : X.s₀.heap.FunFrames X.base X.outer
  frf : ∀ b ∈ X.fs, X.H₀ b = none

structure Inv (X : Cx) (pins : List (Addr × Obj)) (σ : List (Option V)) (H : Hp) (s : Shared) : Prop where
  ok : X.Ok
  os : s.os = X.s₀.os
  bare : AllBare s.gens
  base : Un X.fs X.ex X.H₀ H X.s₀.heap s.heap
  loc : ∃ m, s.heap.Ns X.env.locals m ∧ ∀ (i : Nat) (x : Str) (v : V), X.N[i]? = some x → σ[i]? = some (some v) → Vis X.env.scope x → ∃ u, RelV v u ∧ Look X.env s.heap m x u
  cell : ∀ x c, X.env.cells.lookup x = some c → ∃ v, s.heap.IsCell c v
  free : H X.env.locals = none
  freeC : ∀ x c, X.env.cells.lookup x = some c → H c = none
  pin : ∀ p ∈ X.pn ++ pins, s.heap.get? p.1 = some p.2 ∧ H p.1 = none ∧ p.1 ≠ X.env.locals ∧ p.1 ∉ X.fs ∧ ∀ v, p.2.data ≠ .cell v
  hok : HOk X.prog X.w H s.heap
  len : σ.length = X.N.length

section
variable {X : Cx} {pins : List (Addr × Obj)} {σ : List (Option V)} {H H' : Hp} {s : Shared} {h' : Heap}

theorem Cx.Ok.nofr (ok : X.Ok) {b : Addr} {o : Obj} (e : X.base.get? b = some o) : b ∉ X.fs := fun hb => by
  have := (ok.funs.mem hb).1
  rw [e] at this; cases this
theorem Inv.bs (I : Inv X pins σ H s) : ∀ b o, X.base.get? b = some o → s.heap.get? b = some o ∧ H b = none := fun b o e =>
  ⟨I.base.keep b o (I.ok.bs b o e).1 (I.ok.bs b o e).2 (I.ok.nofr e) (I.ok.noex b o e), I.base.free b o (I.ok.bs b o e).1 (I.ok.bs b o e).2 (I.ok.noex b o e)⟩
theorem Inv.bk (I : Inv X pins σ H s) : ∀ b o, X.base.get? b = some o → s.heap.get? b = some o := fun b o e => (I.bs b o e).1
theorem Inv.mod (I : Inv X pins σ H s) : Mod X.K X.mg X.base := I.ok.mod
theorem Inv.kIn (I : Inv X pins σ H s) : X.K.In s.heap := I.ok.mod.kin.keeps I.bk
theorem Inv.nolimit (I : Inv X pins σ H s) : s.heap.NoLimit := I.ok.mod.nolimit.keeps I.bk
/-- the frame over the base: for OpenK's rules (K.In X.base is I.mod.kin) -/
theorem Inv.fr (I : Inv X pins σ H s) : ∃ m, Fr X.base X.env.locals s.heap m :=
  let ⟨m, hn, _⟩ := I.loc
  ⟨m, hn, I.bk, Nat.le_trans I.ok.bsz I.ok.above⟩
theorem Inv.lt (I : Inv X pins σ H s) : X.env.locals < s.heap.objs.size := let ⟨_, hn, _⟩ := I.loc; hn.lt
theorem Inv.sz (I : Inv X pins σ H s) : X.s₀.heap.objs.size ≤ s.heap.objs.size := Nat.le_trans I.ok.above (Nat.le_of_lt I.lt)
theorem Inv.nofs (I : Inv X pins σ H s) {a : Addr} (h : s.heap.objs.size ≤ a) : a ∉ X.fs := fun hb => by
  obtain ⟨_, o, ho, _⟩ := I.ok.funs.mem hb
  exact absurd (Nat.lt_of_lt_of_le (Heap.lt_size ho) (Nat.le_trans I.sz h)) (Nat.lt_irrefl _)
theorem Inv.cne (I : Inv X pins σ H s) : ∀ x c, X.env.cells.lookup x = some c → c ≠ X.env.locals := fun x c e z => by
  obtain ⟨v, o, ho, hd⟩ := I.cell x c e
  obtain ⟨m, ⟨o', es, ep, ho', hd', _⟩, _⟩ := I.loc
  rw [z, ho'] at ho; cases ho; rw [hd'] at hd; cases hd
theorem Inv.funs (I : Inv X pins σ H s) : s.heap.FunFrames X.base X.outer := by
  have all : ∀ (l : List Env), (∀ b ∈ frs l, b ∈ X.fs) → X.s₀.heap.FunFrames X.base l → s.heap.FunFrames X.base l := by
    intro l
    induction l with
    | nil => intro _ _; trivial
    | cons env r ih =>
      intro hs hl
      obtain ⟨hk, ⟨L, o, hf, hn, ho, hd⟩, hr⟩ := hl
      have hL : L ∈ X.fs := hs L (by unfold frs; rw [List.filterMap_cons, hf]; exact List.mem_cons_self)
      obtain ⟨sl, e⟩ := I.base.slot L o ho (I.ok.frf L hL) hL fun z => I.ok.exfs L z hL
      exact ⟨hk, ⟨L, _, hf, hn, e, hd⟩, ih (fun b hb => hs b (by unfold frs; rw [List.filterMap_cons, hf]; exact List.mem_cons_of_mem _ hb)) hr⟩
  exact all X.outer (fun _ hb => hb) I.ok.funs

/-- the frames that run, for a call -/
theorem Inv.stack (I : Inv X pins σ H s) : s.heap.FunFrames X.base X.stack := by
  rcases I.ok.stk with e | ⟨e, hf⟩
  · rw [e]; exact I.funs
  · rw [e]
    obtain ⟨m, hn, _⟩ := I.loc
    refine .cons (by rw [I.ok.kind]; decide) hf hn ?_ I.funs
    exact Heap.get?_none_of_le (Nat.le_trans I.ok.bsz I.ok.above)
theorem Inv.stkSub (I : Inv X pins σ H s) : ∀ b ∈ frs X.stack, b ∈ X.env.locals :: X.fs := fun b hb => by
  rcases I.ok.stk with e | ⟨e, hf⟩
  · rw [e] at hb; exact List.mem_cons_of_mem _ hb
  · rw [e] at hb
    unfold frs at hb
    rw [List.filterMap_cons, hf] at hb
    exact hb
theorem Inv.stkFree (I : Inv X pins σ H s) : ∀ b ∈ frs X.stack, H b = none := fun b hb => by
  rcases List.mem_cons.mp (I.stkSub b hb) with e | hb
  · rw [e]; exact I.free
  · obtain ⟨_, o, ho, _⟩ := I.ok.funs.mem hb
    exact I.base.free b o ho (I.ok.frf b hb) fun z => I.ok.exfs b z hb

/-- THE STEP: the untracked objects but the frame and the records at ch are kept (the callers' frames up to slots), the frame's map is kept, the new abstract heap is held -/
theorem Inv.step {g' : Array GenState} {t' : Nat} {d' : Drawn} {ch : List Addr} (I : Inv X pins σ H s)
    (hch : ∀ b ∈ ch, (b ∈ X.ex ∨ X.s₀.heap.objs.size ≤ b) ∧ b ≠ X.env.locals ∧ (∀ x c, X.env.cells.lookup x = some c → c ≠ b) ∧ ∀ p ∈ X.pn ++ pins, p.1 ≠ b)
    (keep : ∀ b o, b ≠ X.env.locals → b ∉ X.fs → b ∉ ch → s.heap.get? b = some o → H b = none → h'.get? b = some o)
    (slot : ∀ b o, b ≠ X.env.locals → b ∈ X.fs → b ∉ ch → s.heap.get? b = some o → H b = none → ∃ sl, h'.get? b = some { o with slots := sl }) (free : ∀ b o, b ∉ ch → s.heap.get? b = some o → H b = none → H' b = none)
    (there : ∀ b o, b ∉ ch → s.heap.get? b = some o → ∃ o', h'.get? b = some o')
    (tups : ∀ b xs, H b = some (.tup xs) → H' b = some (.tup xs)) (frzs : ∀ b o u, H b = some (.frz o u) → H' b = some (.frz o u)) (tbls : ∀ b ps, H b = some (.tbl ps) → ∃ more, H' b = some (.tbl (ps ++ more)))
    (ns : ∀ m, s.heap.Ns X.env.locals m → h'.Ns X.env.locals m) (hok : HOk X.prog X.w H' h') (hg : AllBare g') :
    Inv X pins σ H' { s with heap := h', gens := g', drawn := d', toks := t' } := by
  have neL : ∀ b o, X.s₀.heap.get? b = some o → b ≠ X.env.locals := fun b o e => Nat.ne_of_lt (Nat.lt_of_lt_of_le (Heap.lt_size e) I.ok.above)
  have neC : ∀ b o, X.s₀.heap.get? b = some o → b ∉ X.ex → b ∉ ch := fun b o e hx hb => by
    rcases (hch b hb).1 with z | z
    · exact hx z
    · exact absurd (Nat.lt_of_lt_of_le (Heap.lt_size e) z) (Nat.lt_irrefl _)
  have cellK : ∀ x c, X.env.cells.lookup x = some c → ∀ v, s.heap.IsCell c v → h'.IsCell c v := fun x c e v ⟨o, ho, hd⟩ => by
    have nch : c ∉ ch := fun z => (hch c z).2.2.1 x c e rfl
    by_cases hc : c ∈ X.fs
    · obtain ⟨sl, q⟩ := slot c o (I.cne x c e) hc nch ho (I.freeC x c e)
      exact ⟨_, q, hd⟩
    · exact ⟨o, keep c o (I.cne x c e) hc nch ho (I.freeC x c e), hd⟩
  refine ⟨I.ok, I.os, hg, ⟨fun b o e n hb hx => ?_, fun b o e n hb hx => ?_, fun b o e n hx => ?_, fun b o e hx => ?_, fun b xs e => tups b xs (I.base.tups b xs e), fun b o xs e => frzs b o xs (I.base.frzs b o xs e), fun b ps e => ?_⟩, ?_, fun x c e => ?_, ?_, fun x c e => ?_, fun p hp => ?_, hok, I.len⟩
  · exact keep b o (neL b o e) hb (neC b o e hx) (I.base.keep b o e n hb hx) (I.base.free b o e n hx)
  · obtain ⟨sl, e1⟩ := I.base.slot b o e n hb hx
    obtain ⟨sl', e2⟩ := slot b _ (neL b o e) hb (neC b o e hx) e1 (I.base.free b o e n hx)
    exact ⟨sl', e2⟩
  · obtain ⟨o', e1⟩ := I.base.there b o e hx
    exact free b o' (neC b o e hx) e1 (I.base.free b o e n hx)
  · obtain ⟨o', e1⟩ := I.base.there b o e hx
    exact there b o' (neC b o e hx) e1
  · obtain ⟨m1, e1⟩ := I.base.tbls b ps e
    obtain ⟨m2, e2⟩ := tbls b _ e1
    exact ⟨m1 ++ m2, by rw [e2, Array.append_assoc]⟩
  · obtain ⟨m, hn, hl⟩ := I.loc
    refine ⟨m, ns m hn, fun i x v e1 e2 e3 => ?_⟩
    obtain ⟨u, r, l⟩ := hl i x v e1 e2 e3
    refine ⟨u, r, ?_⟩
    rcases l with l | ⟨k, c, e, z⟩
    · exact .inl l
    · exact .inr ⟨k, c, e, cellK x c e _ z⟩
  · obtain ⟨v, z⟩ := I.cell x c e
    exact ⟨v, cellK x c e v z⟩
  · obtain ⟨m, ⟨o, _, _, ho, _⟩, _⟩ := I.loc
    exact free _ o (fun z => (hch _ z).2.1 rfl) ho I.free
  · obtain ⟨v, o, ho, hd⟩ := I.cell x c e
    exact free c o (fun z => (hch c z).2.2.1 x c e rfl) ho (I.freeC x c e)
  · obtain ⟨e, n, ne, nf, d⟩ := I.pin p hp
    have nch : p.1 ∉ ch := fun z => (hch p.1 z).2.2.2 p hp rfl
    exact ⟨keep p.1 p.2 ne nf nch e n, free p.1 p.2 nch e n, ne, nf, d⟩
/-- .. where the frame's own object is kept too -/
theorem Inv.un {t' : Nat} (I : Inv X pins σ H s) (u : Un X.fs [] H H' s.heap h') (hok : HOk X.prog X.w H' h') : Inv X pins σ H' { s with heap := h', toks := t' } := by
  obtain ⟨m, ⟨o, es, ep, ho, r⟩, _⟩ := id I.loc
  obtain ⟨sl, hL⟩ := u.any ho I.free (by simp)
  exact I.step (g' := s.gens) (d' := s.drawn) (ch := []) (fun _ z => nomatch z) (fun b o _ hb _ e n => u.keep b o e n hb (by simp)) (fun b o _ hb _ e n => u.slot b o e n hb (by simp)) (fun b o _ e n => u.free b o e n (by simp)) (fun b o _ e => u.there b o e (by simp)) u.tups u.frzs u.tbls (fun m' hm => by
    obtain ⟨o', es', ep', ho', r'⟩ := hm
    rw [ho] at ho'; cases ho'
    exact ⟨_, es', ep', hL, r'⟩) hok I.bare
/-- behind a call (or a comprehension's block): the slots of this frame may have changed too, the records at ch may have turned -/
theorem Inv.call {g' : Array GenState} {t' : Nat} {d' : Drawn} {ch : List Addr} (I : Inv X pins σ H s) (u : Un (frs X.stack) ch H H' s.heap h') (hok : HOk X.prog X.w H' h') (hg : AllBare g')
    (hch : ∀ b ∈ ch, (b ∈ X.ex ∨ X.s₀.heap.objs.size ≤ b) ∧ b ≠ X.env.locals ∧ (∀ x c, X.env.cells.lookup x = some c → c ≠ b) ∧ ∀ p ∈ X.pn ++ pins, p.1 ≠ b) :
    Inv X pins σ H' { s with heap := h', gens := g', drawn := d', toks := t' } := by
  obtain ⟨m, ⟨o, es, ep, ho, r⟩, _⟩ := id I.loc
  obtain ⟨sl, hL⟩ := u.any ho I.free fun z => (hch _ z).2.1 rfl
  exact I.step (ch := ch) hch (fun b o hL hb hc e n => u.keep b o e n (fun z => (List.mem_cons.mp (I.stkSub b z)).elim hL hb) hc) (fun b o _ _ hc e n => u.any e n hc) (fun b o hc e n => u.free b o e n hc) (fun b o hc e => u.there b o e hc) u.tups u.frzs u.tbls (fun m' hm => by
    obtain ⟨o', es', ep', ho', r'⟩ := hm
    rw [ho] at ho'; cases ho'
    exact ⟨_, es', ep', hL, r'⟩) hok hg
/-- an untracked record of ours (an iterator) has turned -/
theorem Inv.turned {t' : Nat} {it : Addr} (I : Inv X pins σ H s) (k : ∀ b o, b ≠ it → s.heap.get? b = some o → h'.get? b = some o) (hn : H it = none) (hL : it ≠ X.env.locals)
    (h1 : it ∈ X.ex ∨ X.s₀.heap.objs.size ≤ it) (h2 : ∀ x c, X.env.cells.lookup x = some c → c ≠ it) (h3 : ∀ p ∈ X.pn ++ pins, p.1 ≠ it) : Inv X pins σ H { s with heap := h', toks := t' } := by
  have nit : ∀ b u, H b = some u → b ≠ it := fun b u e z => by rw [z, hn] at e; cases e
  refine I.step (g' := s.gens) (d' := s.drawn) (ch := [it]) (fun b hb => ?_) (fun b o _ _ hc e _ => k b o (fun z => hc (by simp [z])) e) (fun b o _ _ hc e _ => ⟨o.slots, k b o (fun z => hc (by simp [z])) e⟩) (fun _ _ _ _ n => n)
    (fun b o hc e => ⟨o, k b o (fun z => hc (by simp [z])) e⟩) (fun _ _ e => e) (fun _ _ _ e => e) (fun b ps e => ⟨#[], by rw [e]; simp⟩) (fun m hm => ?_) (fun b u e => ?_) I.bare
  · have e : b = it := by simpa using hb
    subst e
    exact ⟨h1, hL, h2, h3⟩
  · obtain ⟨o, es, ep, ho, r⟩ := hm
    exact ⟨o, es, ep, k _ o (Ne.symm hL) ho, r⟩
  · refine (I.hok b u e).stay (fun c v hc q => k c v ?_ q) (fun _ q => q) fun _ _ q => q
    rcases hc with z | z
    · rw [z]; exact nit b u e
    · exact nit c _ z
theorem Inv.tok (I : Inv X pins σ H s) (t : Nat) : Inv X pins σ H { s with toks := t } := I.un (h' := s.heap) (t' := t) Un.refl I.hok
/-- all objects kept -/
theorem Inv.kept {t' : Nat} (I : Inv X pins σ H s) (k : ∀ b u, s.heap.get? b = some u → h'.get? b = some u) : Inv X pins σ H { s with heap := h', toks := t' } := I.un (Un.kept k) (I.hok.kept k)
/-- a new object laid and tracked -/
theorem Inv.laid {a : Addr} {o : HO} {t' : Nat} (I : Inv X pins σ H s) (k : ∀ b u, s.heap.get? b = some u → h'.get? b = some u) (hp : s.heap.objs.size ≤ a) (new : ObjOk X.prog X.w (upd H a o) h' a o) :
    Inv X pins σ (upd H a o) { s with heap := h', toks := t' } := I.un (Un.laid k hp (I.hok.fresh hp)) (I.hok.laid k hp new)
/-- an object written -/
theorem Inv.write {x e : Addr} {o : HO} {t' : Nat} (I : Inv X pins σ H s) (mu : Mut (H x)) (he : e = x ∨ H e = some (.own x)) (k : ∀ b u, b ≠ e → s.heap.get? b = some u → h'.get? b = some u) (heo : ∃ u, h'.get? e = some u)
    (new : ObjOk X.prog X.w (upd H x o) h' x o) : Inv X pins σ (upd H x o) { s with heap := h', toks := t' } := I.un (Un.write mu he k heo) (I.hok.write mu he k heo new)
/-- forgetting slots, pins -/
theorem Inv.weak {σ' : List (Option V)} (I : Inv X pins σ H s) (hl : σ'.length = σ.length) (w : ∀ (i : Nat) v, σ'[i]? = some (some v) → σ[i]? = some (some v)) : Inv X pins σ' H s :=
  ⟨I.ok, I.os, I.bare, I.base, let ⟨m, hn, hl'⟩ := I.loc; ⟨m, hn, fun i x v e1 e2 e3 => hl' i x v e1 (w i v e2) e3⟩, I.cell, I.free, I.freeC, I.pin, I.hok, hl.trans I.len⟩
theorem Inv.pins_of {pins' : List (Addr × Obj)} (I : Inv X pins σ H s) (h : ∀ p ∈ pins', s.heap.get? p.1 = some p.2 ∧ H p.1 = none ∧ p.1 ≠ X.env.locals ∧ p.1 ∉ X.fs ∧ ∀ v, p.2.data ≠ .cell v) : Inv X pins' σ H s :=
  ⟨I.ok, I.os, I.bare, I.base, I.loc, I.cell, I.free, I.freeC, fun p hp => (List.mem_append.mp hp).elim (fun z => I.pin p (List.mem_append_left _ z)) (h p), I.hok, I.len⟩

theorem nodup_ix {N : List Str} (hN : N.Nodup) {i j : Nat} {x : Str} (a : N[i]? = some x) (b : N[j]? = some x) : i = j := by
  obtain ⟨h1, e1⟩ := List.getElem?_eq_some_iff.mp a
  obtain ⟨h2, e2⟩ := List.getElem?_eq_some_iff.mp b
  exact (List.getElem_inj hN).mp (e1.trans e2.symm)

/-- a name is stored; what changed -/
theorem store_ok2 {M : Model} {A : Around} {E : Value → Shared → Prop} {i : Nat} {x : Str} {v : V} {u : Value} {Q : Unit → Shared → Prop} (I : Inv X pins σ H s) (hN : X.N.Nodup) (hi : X.N[i]? = some x) (hx : Loc X.env.scope x) (r : RelV v u)
    (h : ∀ s', Inv X pins (σ.set i (some v)) H s' → (∃ a, Heap.SameBut a s.heap s'.heap ∧ (a = X.env.locals ∨ X.env.cells.lookup x = some a)) → Q () s') (hf : X.fn x = true ∨ X.env.scope.names.lookup x = some .local := by first | exact .inl rfl | exact .inr rfl | assumption) : wpAny M A (storeName X.env x u) Q E s := by
  obtain ⟨m, hn, hl⟩ := id I.loc
  have hcls : (X.env.scope.kind == .class || (X.env.scope.kind == .module && X.env.locals != X.env.globals)) = false := by rw [I.ok.kind]; rfl
  have hiσ : i < σ.length := by rw [I.len]; exact (List.getElem?_eq_some_iff.mp hi).1
  have cne := I.cne
  have tracked : ∀ {a : Addr} {h' : Heap}, (∃ o, s.heap.get? a = some o ∧ H a = none) → Heap.SameBut a s.heap h' → HOk X.prog X.w H h' := fun {a h'} ha hs b ob e => by
    obtain ⟨_, _, hfree⟩ := ha
    refine (I.hok b ob e).stay (fun c w' hc q => (hs.2 c ?_).trans q) (fun _ q => q) fun _ _ q => q
    rintro rfl
    rcases hc with rfl | hc
    · rw [hfree] at e; cases e
    · rw [hfree] at hc; cases hc
  rcases hx with hk | hk
  · refine wpAny_storeName_local hk hn (fun h' hn' hs => ?_) hcls
    obtain ⟨oL, _, _, hoL, _⟩ := id hn
    refine h _ ⟨I.ok, I.os, I.bare, ⟨fun b o e n hb hx => ?_, fun b o e n hb hx => ?_, I.base.free, fun b o e hx => ?_, I.base.tups, I.base.frzs, I.base.tbls⟩, ⟨_, hn', fun j y v' e1 e2 e3 => ?_⟩, fun y c e => ?_, I.free, I.freeC, fun p hp => ?_, tracked ⟨oL, hoL, I.free⟩ hs, by simpa using I.len⟩ ⟨_, hs, .inl rfl⟩
    · exact (hs.2 b (Nat.ne_of_lt (Nat.lt_of_lt_of_le (Heap.lt_size e) I.ok.above))).trans (I.base.keep b o e n hb hx)
    · obtain ⟨sl, e1⟩ := I.base.slot b o e n hb hx
      exact ⟨sl, (hs.2 b (Nat.ne_of_lt (Nat.lt_of_lt_of_le (Heap.lt_size e) I.ok.above))).trans e1⟩
    · obtain ⟨o', e1⟩ := I.base.there b o e hx
      exact ⟨o', (hs.2 b (Nat.ne_of_lt (Nat.lt_of_lt_of_le (Heap.lt_size e) I.ok.above))).trans e1⟩
    · by_cases hj : j = i
      · subst hj
        rw [hi] at e1; cases e1
        rw [List.getElem?_set_self hiσ] at e2
        cases e2
        exact ⟨u, r, .inl ⟨hk, by simp⟩⟩
      · rw [List.getElem?_set_ne (Ne.symm hj)] at e2
        obtain ⟨u', r', q⟩ := hl j y v' e1 e2 e3
        refine ⟨u', r', ?_⟩
        rcases q with ⟨k, e⟩ | ⟨k, c, e, z⟩
        · refine .inl ⟨k, ?_⟩
          have : y ≠ x := fun e => hj (nodup_ix hN e1 (e ▸ hi))
          simp [this, e]
        · exact .inr ⟨k, c, e, z.sameBut hs (cne y c e)⟩
    · obtain ⟨w', z⟩ := I.cell y c e
      exact ⟨w', z.sameBut hs (cne y c e)⟩
    · obtain ⟨e, n, ne, nf, d⟩ := I.pin p hp
      exact ⟨(hs.2 p.1 ne).trans e, n, ne, nf, d⟩
  · have hfn : X.fn x = true := by
      rcases hf with z | z
      · exact z
      · rw [z] at hk; cases hk
    obtain ⟨c, hc⟩ := I.ok.has x (.inl hk)
    obtain ⟨w', z⟩ := I.cell x c hc
    refine wpAny_storeName_cell I.ok.kind hk hc z (fun h' hc' hs => ?_)
    obtain ⟨oc, hoc, hocd⟩ := id z
    refine h { s with heap := h' } ⟨I.ok, I.os, I.bare, ⟨fun b o e n hb hx => ?_, fun b o e n hb hx => ?_, I.base.free, fun b o e hx => ?_, I.base.tups, I.base.frzs, I.base.tbls⟩, ⟨m, hn.sameBut hs (Ne.symm (cne x c hc)), fun j y v' e1 e2 e3 => ?_⟩, fun y c' e => ?_, I.free, I.freeC, fun p hp => ?_, tracked ⟨oc, hoc, I.freeC x c hc⟩ hs, by simpa using I.len⟩ ⟨c, hs, .inr hc⟩
    · exact (hs.2 b (Nat.ne_of_lt (Nat.lt_of_lt_of_le (Heap.lt_size e) (I.ok.cab x c hfn hc)))).trans (I.base.keep b o e n hb hx)
    · obtain ⟨sl, e1⟩ := I.base.slot b o e n hb hx
      exact ⟨sl, (hs.2 b (Nat.ne_of_lt (Nat.lt_of_lt_of_le (Heap.lt_size e) (I.ok.cab x c hfn hc)))).trans e1⟩
    · obtain ⟨o', e1⟩ := I.base.there b o e hx
      exact ⟨o', (hs.2 b (Nat.ne_of_lt (Nat.lt_of_lt_of_le (Heap.lt_size e) (I.ok.cab x c hfn hc)))).trans e1⟩
    · by_cases hj : j = i
      · subst hj
        rw [hi] at e1; cases e1
        rw [List.getElem?_set_self hiσ] at e2
        cases e2
        exact ⟨u, r, .inr ⟨.inl hk, c, hc, hc'⟩⟩
      · rw [List.getElem?_set_ne (Ne.symm hj)] at e2
        obtain ⟨u', r', q⟩ := hl j y v' e1 e2 e3
        refine ⟨u', r', ?_⟩
        rcases q with q | ⟨k, c', e, z'⟩
        · exact .inl q
        · refine .inr ⟨k, c', e, z'.sameBut hs ?_⟩
          rintro rfl
          exact hj (nodup_ix hN e1 (I.ok.inj _ _ _ e hc ▸ hi))
    · by_cases hcc : c' = c
      · subst hcc; exact ⟨_, hc'⟩
      · obtain ⟨w2, z2⟩ := I.cell y c' e
        exact ⟨w2, z2.sameBut hs hcc⟩
    · obtain ⟨e, n, ne, nf, d⟩ := I.pin p hp
      refine ⟨(hs.2 p.1 ?_).trans e, n, ne, nf, d⟩
      intro q
      rw [q, hoc] at e
      have q' : oc = p.2 := Option.some.inj e
      exact d w' (by rw [← q']; exact hocd)
theorem store_ok {M : Model} {A : Around} {E : Value → Shared → Prop} {i : Nat} {x : Str} {v : V} {u : Value} {Q : Unit → Shared → Prop} (I : Inv X pins σ H s) (hN : X.N.Nodup) (hi : X.N[i]? = some x) (hx : Loc X.env.scope x) (r : RelV v u)
    (h : ∀ s', Inv X pins (σ.set i (some v)) H s' → Q () s') (hf : X.fn x = true ∨ X.env.scope.names.lookup x = some .local := by first | exact .inl rfl | exact .inr rfl | assumption) : wpAny M A (storeName X.env x u) Q E s :=
  store_ok2 I hN hi hx r (fun s' I' _ => h s' I') hf
/-- behind a call or a block, the state as it is -/
theorem Inv.call' {s' : Shared} {ch : List Addr} (I : Inv X pins σ H s) (ho : s'.os = s.os) (u : Un (frs X.stack) ch H H' s.heap s'.heap) (hok : HOk X.prog X.w H' s'.heap) (hg : AllBare s'.gens)
    (hch : ∀ b ∈ ch, (b ∈ X.ex ∨ X.s₀.heap.objs.size ≤ b) ∧ b ≠ X.env.locals ∧ (∀ x c, X.env.cells.lookup x = some c → c ≠ b) ∧ ∀ p ∈ X.pn ++ pins, p.1 ≠ b) : Inv X pins σ H' s' := by
  obtain ⟨h', g', d', t', o'⟩ := s'
  have e : o' = s.os := ho
  subst e
  exact I.call (g' := g') (t' := t') (d' := d') u hok hg hch
end

/-! ### the judgements -/
/-- an exception: its class, its own dict's address (where it has one), the abstract heap behind it -/
abbrev XK := Value → Option Addr → Hp → Prop
abbrev St := List (Option V)
abbrev VK := V → Hp → Prop
/-- an expression's reading; a test's; an argument list's -/
abbrev TE := St → Hp → VK → Prop
abbrev TT := St → Hp → (Bool → Hp → Prop) → Prop
abbrev TA := St → Hp → (List V → Hp → Prop) → Prop
/-- what is wanted behind a statement -/
structure Ends where
  nx : St → Hp → Prop
  rt : VK
  bk : St → Hp → Prop := fun _ _ => False
  ct : St → Hp → Prop := fun _ _ => False
abbrev TS := Ends → St → Hp → Prop

def EP (X : Cx) (pins : List (Addr × Obj)) (σ : St) (Q : VK) (u : Value) (s' : Shared) : Prop := ∃ v H', Inv X pins σ H' s' ∧ RelV v u ∧ Q v H'
def TP (X : Cx) (pins : List (Addr × Obj)) (σ : St) (Q : Bool → Hp → Prop) (b : Bool) (s' : Shared) : Prop := ∃ H', Inv X pins σ H' s' ∧ Q b H'
def AP (X : Cx) (pins : List (Addr × Obj)) (σ : St) (Q : List V → Hp → Prop) (us : List Value) (s' : Shared) : Prop := ∃ vs H', Inv X pins σ H' s' ∧ Vals vs us ∧ Q vs H'
def SP (X : Cx) (pins : List (Addr × Obj)) (D : Ends) (f : Flow) (s' : Shared) : Prop :=
  match f with
  | .next => ∃ σ' H', Inv X pins σ' H' s' ∧ D.nx σ' H'
  | .brk => ∃ σ' H', Inv X pins σ' H' s' ∧ D.bk σ' H'
  | .cont => ∃ σ' H', Inv X pins σ' H' s' ∧ D.ct σ' H'
  | .ret u => ∃ v σ' H', Inv X pins σ' H' s' ∧ RelV v u ∧ D.rt v H'

def PE (X : Cx) (e : Expr) (t : TE) : Prop :=
  ∀ (pins : List (Addr × Obj)) (s : Shared) (σ : St) (H : Hp) (Q : VK), Inv X pins σ H s → t σ H Q → wpAny (model X.prog X.w) X.A (eval e X.env) (EP X pins σ Q) X.xe s
def PT (X : Cx) (e : Expr) (t : TT) : Prop :=
  ∀ (pins : List (Addr × Obj)) (s : Shared) (σ : St) (H : Hp) (Q : Bool → Hp → Prop), Inv X pins σ H s → t σ H Q → wpAny (model X.prog X.w) X.A (isTrue e X.env (eval e X.env)) (TP X pins σ Q) X.xe s
/-- a test whatever its 'whole' is (and, or) -/
def PW (X : Cx) (e : Expr) (t : TT) : Prop :=
  ∀ (whole : Sem Value) (pins : List (Addr × Obj)) (s : Shared) (σ : St) (H : Hp) (Q : Bool → Hp → Prop), Inv X pins σ H s → t σ H Q → wpAny (model X.prog X.w) X.A (isTrue e X.env whole) (TP X pins σ Q) X.xe s
theorem PW.pt {X : Cx} {e : Expr} {t : TT} (h : PW X e t) : PT X e t := h _
/-- an argument list (no star), from the left -/
def PA (X : Cx) (es : List Expr) (t : TA) : Prop :=
  ∀ (pos : Pos) (pins : List (Addr × Obj)) (s : Shared) (σ : St) (H : Hp) (Q : List V → Hp → Prop), Inv X pins σ H s → t σ H Q → wpAny (model X.prog X.w) X.A (spliced (backTo pos (starEach es X.env))) (AP X pins σ Q) X.xe s
def PS (X : Cx) (st : Stmt) (t : TS) : Prop :=
  ∀ (pins : List (Addr × Obj)) (s : Shared) (σ : St) (H : Hp) (D : Ends), Inv X pins σ H s → t D σ H → wpAny (model X.prog X.w) X.A (exec st X.env) (SP X pins D) X.xe s
def PSs (X : Cx) (st : List Stmt) (t : TS) : Prop :=
  ∀ (pins : List (Addr × Obj)) (s : Shared) (σ : St) (H : Hp) (D : Ends), Inv X pins σ H s → t D σ H → wpAny (model X.prog X.w) X.A (execs st X.env) (SP X pins D) X.xe s
/-- weaken the end -/
theorem thn {α : Type} {t : Sem α} {Q Q' : α → Shared → Prop} {M : Model} {A : Around} {E : Value → Shared → Prop} {s : Shared} (h : wpAny M A t Q E s) (hQ : ∀ a s, Q a s → Q' a s) : wpAny M A t Q' E s := wpAny_mono h hQ fun _ _ x => x
end L2

namespace L2
open PySem PySem.Spec PyProof.Rows
section
variable {X : Cx}


/-! ### names and constants -/
def tVar (i : Nat) : TE := fun σ H Q => ∃ v, σ[i]? = some (some v) ∧ Q v H
def tC (v : V) : TE := fun _ H Q => Q v H
theorem pe_var {i : Nat} {x : Str} {pos : Pos} (hN : X.N[i]? = some x) (hv : Vis X.env.scope x) (hd : (x == ("__debug__" : Str)) = false := by decide) (hcd : (x == ("__classdict__" : Str)) = false := by decide) : PE X (.Name x pos) (tVar i) := by
  intro pins s σ H Q I h
  obtain ⟨v, e, h⟩ := h
  obtain ⟨m, hn, hl⟩ := I.loc
  obtain ⟨u, r, l⟩ := hl i x v hN e hv
  have fin : EP X pins σ Q u s := ⟨v, H, I, r, h⟩
  rcases l with ⟨hk, hm⟩ | ⟨hk, c, hc, hcell⟩
  · exact wpAny_Name (wpAny_loadName_local I.ok.kind hk hn hm fin) hd
  · rcases hk with hk | hk
    · exact wpAny_Name (wpAny_loadName_cell I.ok.kind hk hc hcell fin) hd
    · exact wpAny_Name (wpAny_loadName_free I.ok.kind hk hc hcell fin hcd) hd
theorem pe_int {i j pos} : PE X (.Constant (.int i) j pos) (tC (.int i)) := fun _ _ _ H _ I h => wpAny_Constant_int ⟨.int i, H, I.tok _, ⟨_, rfl⟩, h⟩
theorem pe_bl {b j pos} : PE X (.Constant (.bool b) j pos) (tC (.bl b)) := fun _ _ _ H _ I h => Constant_bool ⟨.bl b, H, I, rfl, h⟩
theorem pe_non {j pos} : PE X (.Constant .none j pos) (tC .non) := fun _ _ _ H _ I h => Constant_none ⟨.non, H, I, rfl, h⟩

/-- a global name of the def -/
def Gl (X : Cx) (x : Str) : Prop := X.env.kindOf x = some .globalImplicit
theorem ld_glob {E : Value → Shared → Prop} {pins : List (Addr × Obj)} {s : Shared} {σ : St} {H : Hp} {x : Str} {u : Value} {pos : Pos} {Q : Value → Shared → Prop} (I : Inv X pins σ H s) (hg : Gl X x) (hm : X.mg x = some u) (h : Q u s)
    (hd : (x == ("__debug__" : Str)) = false := by decide) : wpAny (model X.prog X.w) X.A (eval (.Name x pos) X.env) Q E s :=
  Calls.Name_function_global I.ok.kind hg (Calls.loadGlobal_global (by rw [I.ok.glob]; exact I.mod.glob.keeps I.bk) hm h) hd
theorem ld_blt {E : Value → Shared → Prop} {pins : List (Addr × Obj)} {s : Shared} {σ : St} {H : Hp} {x : Str} {u : Value} {pos : Pos} {Q : Value → Shared → Prop} (I : Inv X pins σ H s) (hg : Gl X x) (hm : X.mg x = none) (hv : bootBuiltins x = some u) (h : Q u s)
    (hn : x ≠ "__name__" := by decide) (hd : (x == ("__debug__" : Str)) = false := by decide) : wpAny (model X.prog X.w) X.A (eval (.Name x pos) X.env) Q E s := by
  obtain ⟨mb, h1, h2⟩ := I.mod.blt
  exact Calls.Name_function_global I.ok.kind hg (Calls.loadGlobal_builtin (by rw [I.ok.glob]; exact I.mod.glob.keeps I.bk) hm (by rw [I.ok.blt]; exact h1.keeps I.bk) ((h2 x hn).trans hv) h) hd
theorem pe_bltn {x : Str} {v : V} {u : Value} {pos : Pos} (hg : Gl X x) (hm : X.mg x = none) (hv : bootBuiltins x = some u) (r : RelV v u) (hn : x ≠ "__name__" := by decide) (hd : (x == ("__debug__" : Str)) = false := by decide) : PE X (.Name x pos) (tC v) :=
  fun _ _ _ H _ I h => ld_blt I hg hm hv ⟨v, H, I, r, h⟩ hn hd

/-! ### arithmetic -/
/-- two ints -/
def t2I (ta tb : TE) (k : Int → Int → Hp → Prop) : St → Hp → Prop := fun σ H => ta σ H fun x H1 => tb σ H1 fun y H2 => ∃ i j, x = .int i ∧ y = .int j ∧ k i j H2
def tAdd (ta tb : TE) : TE := fun σ H Q => t2I ta tb (fun i j H2 => Q (.int (i + j)) H2) σ H
def tSub (ta tb : TE) : TE := fun σ H Q => t2I ta tb (fun i j H2 => Q (.int (i - j)) H2) σ H
/-- the left factor below 2^64 -/
def tMul (ta tb : TE) : TE := fun σ H Q => t2I ta tb (fun i j H2 => (-(2 ^ 64) < i ∧ i < 2 ^ 64) ∧ Q (.int (i * j)) H2) σ H
variable {a b : Expr} {ta tb : TE} {pos : Pos}

/-! ### comparisons -/
def PC (X : Cx) (op : CmpOp) (a b : Expr) (t : TE) : Prop :=
  ∀ (pins : List (Addr × Obj)) (s : Shared) (σ : St) (H : Hp) (Q : VK), Inv X pins σ H s → t σ H Q →
    wpAny (model X.prog X.w) X.A (eval a X.env) (fun v s₁ => wpAny (model X.prog X.w) X.A (eval b X.env) (fun u s₂ => wpAny (model X.prog X.w) X.A (compareOp op v u) (EP X pins σ Q) X.xe s₂) X.xe s₁) X.xe s
def tCmp (p : Int → Int → Bool) (ta tb : TE) : TE := fun σ H Q => t2I ta tb (fun i j H2 => Q (.bl (p i j)) H2) σ H
abbrev tLt : TE → TE → TE := tCmp fun i j => decide (i < j)
abbrev tLe : TE → TE → TE := tCmp fun i j => decide (i ≤ j)
abbrev tGt : TE → TE → TE := tCmp fun i j => decide (j < i)
abbrev tGe : TE → TE → TE := tCmp fun i j => decide (j ≤ i)
abbrev tEqI : TE → TE → TE := tCmp fun i j => decide (i = j)
abbrev tNeI : TE → TE → TE := tCmp fun i j => !decide (i = j)
/-- is None -/
def tIsN (ta : TE) : TE := fun σ H Q => ta σ H fun x H1 => Q (.bl (decide (x = .non))) H1
def tNotN (ta : TE) : TE := fun σ H Q => ta σ H fun x H1 => Q (.bl (!decide (x = .non))) H1
/-- a comparison as a value, as a test -/
def tB (t : TE) : TT := fun σ H Q => t σ H fun x H1 => ∃ c, x = .bl c ∧ Q c H1
/-- an expression whose value is a bool, as a test -/
theorem pt_val {e : Expr} {t : TE} (h : PE X e t) (he : ∀ whole, isTrue e X.env whole = (do let v ← whole; standAt e.pos; holding [v] (truthy v)) := by intro _; rfl) : PT X e (tB t) := by
  intro pins s σ H Q I hw
  refine isTrue_plain (thn (h pins s σ H _ I hw) fun v s1 ⟨x, H1, I1, r1, q1⟩ => ?_) (he _)
  obtain ⟨d, rfl, q⟩ := q1
  cases r1
  exact wpAny_truthy_bool ⟨H1, I1, q⟩

/-! ### and, or, not -/
variable {tA tB' : TT} {rest : List Expr}
def tAnd (t u : TT) : TT := fun σ H Q => t σ H fun c H1 => if c = true then u σ H1 Q else Q false H1
def tOr (t u : TT) : TT := fun σ H Q => t σ H fun c H1 => if c = true then Q true H1 else u σ H1 Q
def tNot (t : TT) : TT := fun σ H Q => t σ H fun c H1 => Q (!c) H1
theorem pw_and1 (ha : PT X a tA) : PW X (.BoolOp .And [a] pos) tA := by
  intro wh pins s σ H Q I h
  refine isTrue_and (thn (ha pins s σ H Q I h) fun c s1 e => ?_)
  cases c with
  | true => exact isTrue_and_nil e
  | false => exact e
theorem pw_or1 (ha : PT X a tA) : PW X (.BoolOp .Or [a] pos) tA := by
  intro wh pins s σ H Q I h
  refine isTrue_or (thn (ha pins s σ H Q I h) fun c s1 e => ?_)
  cases c with
  | false => exact isTrue_or_nil e
  | true => exact e
theorem pw_and (ha : PT X a tA) (hb : PW X (.BoolOp .And (b :: rest) pos) tB') : PW X (.BoolOp .And (a :: b :: rest) pos) (tAnd tA tB') := by
  intro wh pins s σ H Q I h
  refine isTrue_and (thn (ha pins s σ H _ I h) fun c s1 ⟨H1, I1, q1⟩ => ?_)
  cases c with
  | true => exact hb wh pins s1 σ H1 Q I1 q1
  | false => exact ⟨H1, I1, q1⟩
theorem pw_or (ha : PT X a tA) (hb : PW X (.BoolOp .Or (b :: rest) pos) tB') : PW X (.BoolOp .Or (a :: b :: rest) pos) (tOr tA tB') := by
  intro wh pins s σ H Q I h
  refine isTrue_or (thn (ha pins s σ H _ I h) fun c s1 ⟨H1, I1, q1⟩ => ?_)
  cases c with
  | true => exact ⟨H1, I1, q1⟩
  | false => exact hb wh pins s1 σ H1 Q I1 q1
theorem pt_not (ha : PT X a tA) : PT X (.UnaryOp .Not a pos) (tNot tA) := by
  intro pins s σ H Q I h
  exact isTrue_not (ha pins s σ H (fun c H1 => Q (!c) H1) I h)
/-- .. as values (bools) -/
def tAndV (ta tb : TE) : TE := fun σ H Q => ta σ H fun x H1 => ∃ c, x = .bl c ∧ if c = true then tb σ H1 Q else Q (.bl false) H1
def tOrV (ta tb : TE) : TE := fun σ H Q => ta σ H fun x H1 => ∃ c, x = .bl c ∧ if c = true then Q (.bl true) H1 else tb σ H1 Q
def tNotV (ta : TE) : TE := fun σ H Q => ta σ H fun x H1 => ∃ c, x = .bl c ∧ Q (.bl (!c)) H1
theorem pe_one {op} {t : TE} (h : PE X a t) : PE X (.BoolOp op [a] pos) t := fun pins s σ H Q I hw => BoolOp_one (h pins s σ H Q I hw)
theorem pe_and (ha : PE X a ta) (hb : PE X (.BoolOp .And (b :: rest) pos) tb) : PE X (.BoolOp .And (a :: b :: rest) pos) (tAndV ta tb) := by
  intro pins s σ H Q I h
  refine BoolOp_and (thn (ha pins s σ H _ I h) fun v s1 ⟨x, H1, I1, r1, q1⟩ => ?_)
  obtain ⟨c, rfl, q1⟩ := q1
  cases r1
  refine wpAny_truthy_bool ?_
  cases c with
  | true => exact hb pins s1 σ H1 Q I1 q1
  | false => exact ⟨.bl false, H1, I1, rfl, q1⟩
theorem pe_not (ha : PE X a ta) : PE X (.UnaryOp .Not a pos) (tNotV ta) := by
  intro pins s σ H Q I h
  refine UnaryOp_ (thn (ha pins s σ H _ I h) fun v s1 ⟨x, H1, I1, r1, q1⟩ => ?_)
  obtain ⟨c, rfl, q1⟩ := q1
  cases r1
  exact not_of (wpAny_truthy_bool ⟨.bl (!c), H1, I1, rfl, q1⟩)
/-- a if t else b -/
def tIf (t : TT) (ta tb : TE) : TE := fun σ H Q => t σ H fun c H1 => if c = true then ta σ H1 Q else tb σ H1 Q
end
end L2

namespace L2
open PySem PySem.Spec PyProof.Rows

/-! ### a list, a tuple that is read: tracked, frozen, or an object of the module -/
def SqL (K : PySem.W.Frag) (H : Hp) (a : Addr) (xs : List V) : Prop :=
  Rd H a (.lst xs) ∨
    ∃ (o : Obj) (its : Array Value) (n : Nat), K.lookup a = some o ∧ o.cls = .type "list" ∧ o.dict = none ∧ o.data = .seq its n ∧ its.size ≤ sizeLine ∧ Vals xs its.toList
def SqT (K : PySem.W.Frag) (H : Hp) (a : Addr) (xs : List V) : Prop :=
  Rd H a (.tup xs) ∨
    ∃ (o : Obj) (its : Array Value) (n : Nat), K.lookup a = some o ∧ o.cls = .type "tuple" ∧ o.data = .seq its n ∧ its.size ≤ sizeLine ∧ Vals xs its.toList
def absV : Value → Option V
  | .none => some .non
  | .bool b => some (.bl b)
  | .int i _ => some (.int i)
  | .str x _ => some (.str x)
  | .bytes b _ => some (.byt b)
  | .float b _ => some (.flt b)
  | .ref a => some (.ref a)
  | .type n => some (.ty n)
  | _ => none
theorem RelV.abs {x : V} {u : Value} (r : RelV x u) : absV u = some x := by
  cases x with
  | non => cases r; rfl
  | bl _ => cases r; rfl
  | int _ => obtain ⟨t, rfl⟩ := r; rfl
  | str _ => obtain ⟨t, rfl⟩ := r; rfl
  | byt _ => obtain ⟨t, rfl⟩ := r; rfl
  | flt _ => obtain ⟨t, rfl⟩ := r; rfl
  | ref _ => cases r; rfl
  | ty _ => cases r; rfl
theorem RelV.inj {x y : V} {u : Value} (r : RelV x u) (q : RelV y u) : x = y := Option.some.inj (r.abs.symm.trans q.abs)
theorem Vals.inj : ∀ {xs ys : List V} {us : List Value}, Vals xs us → Vals ys us → xs = ys
  | _, _, _, .nil, .nil => rfl
  | _, _, _, .cons r t, .cons r' t' => by rw [r.inj r', Vals.inj t t']
section
variable {X : Cx} {pins : List (Addr × Obj)} {σ : St} {H : Hp} {s : Shared} {a : Addr} {xs ys : List V}
theorem SqL.of {K : PySem.W.Frag} (h : H a = some (.lst xs)) : SqL K H a xs := .inl (.inl h)
theorem SqT.of {K : PySem.W.Frag} (h : H a = some (.tup xs)) : SqT K H a xs := .inl (.inl h)
theorem Inv.list (I : Inv X pins σ H s) (h : SqL X.K H a xs) : ∃ its : List Value, Vals xs its ∧ PlainL s.heap a its.toArray ∧ xs.length ≤ sizeLine := by
  rcases h with h | ⟨o, its, n, hk, hc, hd, hs, hz, r⟩
  · obtain ⟨z, its, n, r, e⟩ := h.ok I.hok
    exact ⟨its, r, ⟨_, n, e, rfl, rfl, rfl⟩, z⟩
  · refine ⟨its.toList, r, ⟨o, n, I.kIn a o hk, hc, hd, by simpa using hs⟩, ?_⟩
    have e := r.length
    simp only [Array.length_toList] at e
    omega
theorem Inv.tuple (I : Inv X pins σ H s) (h : SqT X.K H a xs) : ∃ its : List Value, Vals xs its ∧ IsTup s.heap a its.toArray ∧ xs.length ≤ sizeLine := by
  rcases h with h | ⟨o, its, n, hk, hc, hs, hz, r⟩
  · obtain ⟨z, its, r, p⟩ := h.ok I.hok
    exact ⟨its, r, p.tup, z⟩
  · refine ⟨its.toList, r, ⟨o, I.kIn a o hk, hc, n, by simpa using hs⟩, ?_⟩
    have e := r.length
    simp only [Array.length_toList] at e
    omega
theorem Inv.list_inj (I : Inv X pins σ H s) (h : SqL X.K H a xs) (h' : SqL X.K H a ys) : xs = ys := by
  obtain ⟨its, r, ⟨o, n, e, _, _, d⟩, _⟩ := I.list h
  obtain ⟨its', r', ⟨o', n', e', _, _, d'⟩, _⟩ := I.list h'
  rw [e] at e'; cases e'
  rw [d] at d'
  injection d' with d1 _
  have : its = its' := by simpa using congrArg Array.toList d1
  subst this
  exact r.inj r'
theorem Inv.tuple_inj (I : Inv X pins σ H s) (h : SqT X.K H a xs) (h' : SqT X.K H a ys) : xs = ys := by
  obtain ⟨its, r, ⟨o, e, _, n, d⟩, _⟩ := I.tuple h
  obtain ⟨its', r', ⟨o', e', _, n', d'⟩, _⟩ := I.tuple h'
  rw [e] at e'; cases e'
  rw [d] at d'
  injection d' with d1 _
  have : its = its' := by simpa using congrArg Array.toList d1
  subst this
  exact r.inj r'
end

/-! ### another wish about exceptions -/
abbrev Cx.wish (X : Cx) (E : Value → Shared → Prop) : Cx := { X with xe := E }
/-- no exception leaves -/
abbrev Cx.nox (X : Cx) : Cx := X.wish fun _ _ => False
theorem Cx.Ok.wish {X : Cx} (ok : X.Ok) (E : Value → Shared → Prop) : (X.wish E).Ok :=
  ⟨ok.mod, ok.kind, ok.glob, ok.blt, ok.above, ok.inj, ok.has, ok.cab, ok.hd, ok.frames, ok.stk, ok.exf, ok.bs, ok.bsz, ok.noex, ok.exfs, ok.funs, ok.frf⟩
theorem Cx.Ok.unwish {X : Cx} {E : Value → Shared → Prop} (ok : (X.wish E).Ok) : X.Ok :=
  ⟨ok.mod, ok.kind, ok.glob, ok.blt, ok.above, ok.inj, ok.has, ok.cab, ok.hd, ok.frames, ok.stk, ok.exf, ok.bs, ok.bsz, ok.noex, ok.exfs, ok.funs, ok.frf⟩
section
variable {X : Cx} {pins : List (Addr × Obj)} {σ : St} {H : Hp} {s : Shared} {E : Value → Shared → Prop}
theorem Inv.wish (I : Inv X pins σ H s) (E : Value → Shared → Prop) : Inv (X.wish E) pins σ H s := ⟨I.ok.wish E, I.os, I.bare, I.base, I.loc, I.cell, I.free, I.freeC, I.pin, I.hok, I.len⟩
theorem Inv.unwish (I : Inv (X.wish E) pins σ H s) : Inv X pins σ H s := ⟨I.ok.unwish, I.os, I.bare, I.base, I.loc, I.cell, I.free, I.freeC, I.pin, I.hok, I.len⟩
theorem SP.unwish {D : Ends} {f : Flow} {s' : Shared} (h : SP (X.wish E) pins D f s') : SP X pins D f s' := by
  cases f with
  | next => obtain ⟨σ', H', I, q⟩ := h; exact ⟨σ', H', I.unwish, q⟩
  | brk => obtain ⟨σ', H', I, q⟩ := h; exact ⟨σ', H', I.unwish, q⟩
  | cont => obtain ⟨σ', H', I, q⟩ := h; exact ⟨σ', H', I.unwish, q⟩
  | ret u => obtain ⟨v, σ', H', I, r, q⟩ := h; exact ⟨v, σ', H', I.unwish, r, q⟩
theorem PE.nox {e : Expr} {t : TE} (h : PE X.nox e t) : PE X e t := fun pins s σ H Q I hw =>
  wpAny_mono (h pins s σ H Q (I.wish _) hw) (fun _ _ ⟨v, H', I', r, q⟩ => ⟨v, H', I'.unwish, r, q⟩) fun _ _ z => False.elim z
theorem PT.nox {e : Expr} {t : TT} (h : PT X.nox e t) : PT X e t := fun pins s σ H Q I hw =>
  wpAny_mono (h pins s σ H Q (I.wish _) hw) (fun _ _ ⟨H', I', q⟩ => ⟨H', I'.unwish, q⟩) fun _ _ z => False.elim z
theorem PSs.nox {st : List Stmt} {t : TS} (h : PSs X.nox st t) : PSs X st t := fun pins s σ H D I hw =>
  wpAny_mono (h pins s σ H D (I.wish _) hw) (fun _ _ q => q.unwish) fun _ _ z => False.elim z
end

/-! ### blocks and small statements -/
section
variable {X : Cx} {st : Stmt} {rest : List Stmt} {t u : TS} {e : Expr} {te : TE} {pos : Pos}
def tNext : TS := fun D σ H => D.nx σ H
def tSeq (t u : TS) : TS := fun D σ H => t { D with nx := u D } σ H
theorem pss_nil : PSs X [] tNext := fun _ _ σ H _ I h => wpAny_execs_nil ⟨σ, H, I, h⟩
theorem pss_cons (h1 : PS X st t) (h2 : PSs X rest u) : PSs X (st :: rest) (tSeq t u) := by
  intro pins s σ H D I h
  refine wpAny_execs_cons (thn (h1 pins s σ H { D with nx := u D } I h) fun f s1 q => ?_)
  cases f with
  | next =>
    obtain ⟨σ', H', I', q⟩ := q
    exact h2 pins s1 σ' H' D I' q
  | ret v => exact q
  | brk => exact q
  | cont => exact q
theorem pss_one (h1 : PS X st t) : PSs X [st] t := by
  intro pins s σ H D I h
  refine wpAny_execs_cons (thn (h1 pins s σ H D I h) fun f s1 q => ?_)
  cases f with
  | next => exact wpAny_execs_nil q
  | ret v => exact q
  | brk => exact q
  | cont => exact q
def tBreak : TS := fun D σ H => D.bk σ H
def tCont : TS := fun D σ H => D.ct σ H
/-- in a def's body nothing is shown -/
theorem Inv.quiet {pins : List (Addr × Obj)} {σ : St} {H : Hp} {s : Shared} (I : Inv X pins σ H s) : interactive X.env = false := by simp [interactive, I.ok.kind]
/-- an expression whose value is dropped -/
def tDrop (te : TE) : TS := fun D σ H => te σ H fun _ H1 => D.nx σ H1
theorem ps_expr (he : PE X e te) (hs : swapsWith e none pos.line X.env = pure false := by rfl) : PS X (.Expr e pos) (tDrop te) := by
  intro pins s σ H D I h
  exact wpAny_Expr_any (thn (he pins s σ H _ I h) fun v s1 ⟨x, H1, I1, r1, q1⟩ => ⟨σ, H1, I1, q1⟩) I.quiet hs
def tRet (te : TE) : TS := fun D σ H => te σ H D.rt
theorem ps_ret (he : PE X e te) : PS X (.Return (some e) pos) (tRet te) := by
  intro pins s σ H D I h
  exact wpAny_Return_some (thn (he pins s σ H _ I h) fun v s1 ⟨x, H1, I1, r1, q1⟩ => ⟨x, σ, H1, I1, r1, q1⟩)
def tRetN : TS := fun D _ H => D.rt .non H
def tIfS (c : TT) (t u : TS) : TS := fun D σ H => c σ H fun b H1 => if b = true then t D σ H1 else u D σ H1
theorem ps_if {c : Expr} {a b : List Stmt} {tc : TT} (hc : PT X c tc) (ha : PSs X a t) (hb : PSs X b u) : PS X (.If c a b pos) (tIfS tc t u) := by
  intro pins s σ H D I h
  refine wpAny_If (thn (hc pins s σ H _ I h) fun d s1 ⟨H1, I1, q1⟩ => ?_)
  cases d with
  | true => exact ha pins s1 σ H1 D I1 q1
  | false => exact hb pins s1 σ H1 D I1 q1
/-- code that the proof never comes to -/
def tNever : TS := fun _ _ _ => False
end

/-! ### targets -/
abbrev TG := V → St → Hp → (St → Hp → Prop) → Prop
abbrev TGs := List V → St → Hp → (St → Hp → Prop) → Prop
def PG (X : Cx) (target : Expr) (t : TG) : Prop :=
  ∀ (pins : List (Addr × Obj)) (s : Shared) (σ : St) (H : Hp) (v : V) (u : Value) (Q : St → Hp → Prop), Inv X pins σ H s → RelV v u → t v σ H Q →
    wpAny (model X.prog X.w) X.A (assign target X.env u) (fun _ s' => ∃ σ' H', Inv X pins σ' H' s' ∧ Q σ' H') X.xe s
/-- several targets, one after another -/
def PGs (X : Cx) (ts : List Expr) (t : TGs) : Prop :=
  ∀ (pins : List (Addr × Obj)) (s : Shared) (σ : St) (H : Hp) (vs : List V) (us : List Value) (Q : St → Hp → Prop), Inv X pins σ H s → Vals vs us → t vs σ H Q →
    wpAny (model X.prog X.w) X.A (assignInOrder ((assignEach ts X.env).map (·.2)) us) (fun _ s' => ∃ σ' H', Inv X pins σ' H' s' ∧ Q σ' H') X.xe s
/-- o[i] = v, by values -/
abbrev TSet := V → V → V → Hp → (Hp → Prop) → Prop
def PSet (X : Cx) (t : TSet) : Prop :=
  ∀ (pins : List (Addr × Obj)) (s : Shared) (σ : St) (H : Hp) (o i v : V) (ov iv u : Value) (Q : Hp → Prop), Inv X pins σ H s → RelV o ov → RelV i iv → RelV v u → t o i v H Q →
    wpAny (model X.prog X.w) X.A (setItem ov iv u) (fun _ s' => ∃ H', Inv X pins σ H' s' ∧ Q H') X.xe s
/-- a op= b, by values -/
abbrev TIp := V → V → Hp → VK → Prop
def PIp (X : Cx) (op : Operator) (t : TIp) : Prop :=
  ∀ (pins : List (Addr × Obj)) (s : Shared) (σ : St) (H : Hp) (x y : V) (v u : Value) (Q : VK), Inv X pins σ H s → RelV x v → RelV y u → t x y H Q →
    wpAny (model X.prog X.w) X.A (inplaceOp op v u) (EP X pins σ Q) X.xe s
section
variable {X : Cx} {pos : Pos}
def gName (i : Nat) : TG := fun v σ H Q => Q (σ.set i (some v)) H
theorem pg_name {i : Nat} {x : Str} (hN : X.N.Nodup) (hi : X.N[i]? = some x) (hx : Loc X.env.scope x) (hf : X.fn x = true ∨ X.env.scope.names.lookup x = some .local := by first | exact .inl rfl | exact .inr rfl | assumption) : PG X (.Name x pos) (gName i) := by
  intro pins s σ H v u Q I r h
  exact wpAny_assign_Name (store_ok I hN hi hx r (fun s' I' => ⟨_, H, I', h⟩) hf)
def gNil : TGs := fun vs σ H Q => vs = [] ∧ Q σ H
def gCons (t : TG) (u : TGs) : TGs := fun vs σ H Q => ∃ v r, vs = v :: r ∧ t v σ H fun σ' H' => u r σ' H' Q
theorem pgs_nil : PGs X [] gNil := by
  intro pins s σ H vs us Q I r h
  obtain ⟨e, h⟩ := h
  subst e
  cases r
  exact assignInOrder_nil ⟨σ, H, I, h⟩
theorem pgs_cons {e : Expr} {es : List Expr} {t : TG} {u : TGs} (h1 : PG X e t) (h2 : PGs X es u)
    (hs : (assignEach (e :: es) X.env).map (·.2) = assign e X.env :: (assignEach es X.env).map (·.2) := by rfl) : PGs X (e :: es) (gCons t u) := by
  intro pins s σ H vs us Q I r h
  obtain ⟨v, vr, e1, h⟩ := h
  subst e1
  cases r with
  | cons r rr =>
    rw [hs]
    refine assignInOrder_cons (thn (h1 pins s σ H _ _ _ I r h) fun _ s1 ⟨σ1, H1, I1, q1⟩ => ?_)
    exact h2 pins s1 σ1 H1 _ _ Q I1 rr q1
/-- (a, b, ..) = a tuple of that length -/
def gTup (K : PySem.W.Frag) (n : Nat) (t : TGs) : TG := fun v σ H Q => ∃ a xs, v = .ref a ∧ SqT K H a xs ∧ xs.length = n ∧ t xs σ H Q
theorem pg_tup {es : List Expr} {k : Nat} {t : TGs} {n : Nat} (hc : X.calm = true) (h : PGs X es t)
    (hn : (assignEach es X.env).length = n := by rfl) (hst : (assignEach es X.env).findIdx? (·.1) = none := by rfl) : PG X (.Tuple es k pos) (gTup X.K n t) := by
  intro pins s σ H v u Q I r hw
  obtain ⟨a, xs, e1, hq, hl, hw⟩ := hw
  subst e1
  cases r
  obtain ⟨its, rv, ht, hz⟩ := I.tuple hq
  refine assign_Tuple_tuple (I.ok.hd hc) ht (by simp [hn, ← hl, rv.length]) hst fun h' hx => ?_
  have I1 : Inv X pins σ H { s with heap := h' } := I.kept (t' := s.toks) fun b o e => hx b o (Nat.ne_of_lt (Heap.lt_size e)) e
  exact h pins _ σ H xs _ Q I1 (by simpa using rv) hw
/-- o[i] = .. -/
def gSub (to ti : TE) (t : TSet) : TG := fun v σ H Q => to σ H fun o H1 => ti σ H1 fun i H2 => t o i v H2 fun H3 => Q σ H3
theorem pg_sub {o i : Expr} {to ti : TE} {t : TSet} (ho : PE X o to) (hi : PE X i ti) (hs : PSet X t)
    (ha : ∀ v, assign (.Subscript o i pos) X.env v = (do
      let ov ← holding [v] (eval o X.env)
      let iv ← holding [v, ov] (eval i X.env)
      standAt pos
      holding [v, ov, iv] (setItem ov iv v)
      release [v, ov, iv] []) := by intro _; rfl) : PG X (.Subscript o i pos) (gSub to ti t) := by
  intro pins s σ H v u Q I r h
  rw [ha]
  refine wpAny_bind (wpAny_holding (thn (ho pins s σ H _ I h) fun ov s1 ⟨x, H1, I1, r1, q1⟩ => ?_))
  refine wpAny_bind (wpAny_holding (thn (hi pins s1 σ H1 _ I1 q1) fun iv s2 ⟨y, H2, I2, r2, q2⟩ => ?_))
  refine wpAny_bind (wpAny_standAt (wpAny_bind (wpAny_holding (thn (hs pins s2 σ H2 x y v ov iv u _ I2 r1 r2 r q2) fun _ s3 ⟨H3, I3, q3⟩ => ?_))))
  exact wpAny_release ⟨σ, H3, I3, q3⟩
/-- target = value -/
def tAsg (te : TE) (g : TG) : TS := fun D σ H => te σ H fun x H1 => g x σ H1 D.nx
theorem ps_asg {tg e : Expr} {te : TE} {g : TG} (he : PE X e te) (hg : PG X tg g) (hs : swapsWithSole [tg] e pos.line X.env = pure false := by rfl) (hw : swappedStores [tg] e X.env = pure none := by rfl)
    (h1 : (assignEach [tg] X.env).map (·.2) = [assign tg X.env] := by rfl) : PS X (.Assign [tg] e pos) (tAsg te g) := by
  intro pins s σ H D I h
  refine wpAny_Assign_stores (thn (he pins s σ H _ I h) fun v s1 ⟨x, H1, I1, r1, q1⟩ => ?_) hs hw
  rw [h1]
  exact thn (hg pins s1 σ H1 x v _ I1 r1 q1) fun _ s2 q => q
/-- name = value -/
theorem ps_set {i : Nat} {x : Str} {e : Expr} {te : TE} {pos' : Pos} (hN : X.N.Nodup) (hi : X.N[i]? = some x) (hx : Loc X.env.scope x) (he : PE X e te) (hs : swapsWith e (some (.Name x pos')) pos.line X.env = pure false := by rfl) (hf : X.fn x = true ∨ X.env.scope.names.lookup x = some .local := by first | exact .inl rfl | exact .inr rfl | assumption) :
    PS X (.Assign [.Name x pos'] e pos) (tAsg te (gName i)) := by
  intro pins s σ H D I h
  refine wpAny_Assign_Name (thn (he pins s σ H _ I h) fun v s1 ⟨y, H1, I1, r1, q1⟩ => ?_) hs
  exact store_ok I1 hN hi hx r1 (fun s2 I2 => ⟨_, H1, I2, q1⟩) hf
/-- a, b = x, y with plain local names: stored from the right; the pair itself is not tracked (the opening rows as in PyProof/Rows/TupAssign.lean:23) -/
def tPar (i j : Nat) (ta : TA) : TS := fun D σ H => ta σ H fun vs H1 => ∃ v w, vs = [v, w] ∧ D.nx ((σ.set i (some v)).set j (some w)) H1
theorem ps_par {i j : Nat} {x y : Str} {a b : Expr} {ta : TA} {px py pt : Pos} {kt k2 pt2} (hc : X.calm = true) (hN : X.N.Nodup) (hi : X.N[i]? = some x) (hj : X.N[j]? = some y) (hij : i ≠ j)
    (hx : X.env.scope.names.lookup x = some .local) (hy : X.env.scope.names.lookup y = some .local) (ha : PA X [a, b] ta)
    (hw : swappedStores [.Tuple [.Name x px, .Name y py] kt pt] (.Tuple [a, b] k2 pt2) X.env = pure (some [x, y]))
    (hs : swapsWithSole [.Tuple [.Name x px, .Name y py] kt pt] (.Tuple [a, b] k2 pt2) pos.line X.env = pure false := by rfl) :
    PS X (.Assign [.Tuple [.Name x px, .Name y py] kt pt] (.Tuple [a, b] k2 pt2) pos) (tPar i j ta) := by
  intro pins s σ H D I h
  rw [exec_Assign_arm]
  refine wpAny_bind (wpAny_standAt ?_)
  rw [hs]
  refine wpAny_bind (wpAny_pure ?_)
  rw [if_neg (by decide)]
  refine wpAny_bind (Tuple_ (thn (ha _ pins s σ H _ I h) fun us s1 ⟨vs, H1, I1, r1, q1⟩ => ?_))
  obtain ⟨v, w, e1, q1⟩ := q1
  subst e1
  obtain ⟨u1, u2, rfl, rv, rw'⟩ : ∃ u1 u2, us = [u1, u2] ∧ RelV v u1 ∧ RelV w u2 := by
    cases r1 with
    | cons p q =>
      cases q with
      | cons p' q' =>
        cases q'
        exact ⟨_, _, rfl, p, p'⟩
  refine wpAny_newObj_type ?_ (by show 2 ≤ sizeLine; decide)
  have I2 : Inv X pins σ H1 { s1 with heap := s1.heap.push { cls := .type "tuple", data := .seq [u1, u2].toArray } } := I1.kept (t' := s1.toks) fun b o e => Heap.get?_push_of_some _ e
  rw [hw]
  refine wpAny_bind (wpAny_pure ?_)
  show wpAny (model X.prog X.w) X.A (do rule "assign.swapped-stores"; let items ← unpackItems (.ref s1.heap.objs.size) 2 none; assignInOrder [fun v => bindName X.env y v, fun v => bindName X.env x v] items.reverse; pure Flow.next) _ _ _
  refine wpAny_bind (wpAny_rule (wpAny_bind (unpackItems_tuple (items := #[u1, u2]) (I.ok.hd hc) (IsTup.new s1.heap _) fun h' hx' => ?_)))
  have I3 := I2.kept (h' := h') (t' := s1.toks) fun b o e => hx' b o (Nat.ne_of_lt (Heap.lt_size e)) e
  show wpAny _ _ (assignInOrder [fun v => bindName X.env y v, fun v => bindName X.env x v] [u2, u1] >>= fun _ => pure Flow.next) _ _ _
  refine wpAny_bind (assignInOrder_cons (wpAny_bindName (store_ok I3 hN hj (.inl hy) rw' (fun s2 I4 => ?_) (.inr hy))))
  refine assignInOrder_cons (wpAny_bindName (store_ok I4 hN hi (.inl hx) rv (fun s3 I5 => assignInOrder_nil (wpAny_pure ?_)) (.inr hx)))
  rw [List.set_comm _ _ (Ne.symm hij)] at I5
  exact ⟨_, H1, I5, q1⟩
/-- name op= e -/
def tAug (i : Nat) (te : TE) (ti : TIp) : TS := fun D σ H => ∃ x, σ[i]? = some (some x) ∧ te σ H fun y H1 => ti x y H1 fun z H2 => D.nx (σ.set i (some z)) H2
/-- o[i] op= e -/
def tAugS (to ti te : TE) (tget : V → V → Hp → VK → Prop) (tip : TIp) (tset : TSet) : TS := fun D σ H => to σ H fun o H1 => ti σ H1 fun i H2 => tget o i H2 fun x H3 => te σ H3 fun y H4 => tip x y H4 fun z H5 => tset o i z H5 fun H6 => D.nx σ H6
/-- o[i], by values -/
def PGet (X : Cx) (t : V → V → Hp → VK → Prop) : Prop :=
  ∀ (pins : List (Addr × Obj)) (s : Shared) (σ : St) (H : Hp) (o i : V) (ov iv : Value) (Q : VK), Inv X pins σ H s → RelV o ov → RelV i iv → t o i H Q →
    wpAny (model X.prog X.w) X.A (getItem ov iv) (EP X pins σ Q) X.xe s
/-- ints -/
def ipI (f : Int → Int → Int) : TIp := fun x y H Q => ∃ i j, x = .int i ∧ y = .int j ∧ Q (.int (f i j)) H
end

/-! ### while -/
section
variable {X : Cx} {pos : Pos}
/-- the invariant W with its measure -/
def tWhile (c : TT) (tb : TS) : TS := fun D σ H => ∃ W : Nat → St → Hp → Prop, (∃ m, W m σ H) ∧ ∀ m σ H, W m σ H →
  c σ H fun b H1 => if b = true then ∃ N : St → Hp → Prop, (∀ σ' H', N σ' H' → ∃ m', m' < m ∧ W m' σ' H') ∧ tb { D with nx := N, ct := N, bk := D.nx } σ H1 else D.nx σ H1
theorem ps_while {c : Expr} {body : List Stmt} {tc : TT} {tb : TS} (hp : PassesOwn (model X.prog X.w) X.A X.env X.xe) (hc : PT X c tc) (hb : PSs X body tb) : PS X (.While c body [] pos) (tWhile tc tb) := by
  intro pins s σ H D I h
  obtain ⟨W, ⟨m0, w0⟩, turn⟩ := h
  refine wpAny_While (codeAny_whileLoop (fun n s' => ∃ σ' H', Inv X pins σ' H' s' ∧ W n σ' H') ?_ m0 ⟨σ, H, I, w0⟩)
  rintro n s1 ⟨σ1, H1, I1, w1⟩
  refine wpAny_passesOwn hp (thn (hc pins s1 σ1 H1 _ I1 (turn n σ1 H1 w1)) fun b s2 ⟨H2, I2, q2⟩ => ?_)
  cases b with
  | true =>
    obtain ⟨N, hN, q2⟩ := q2
    rw [if_pos rfl]
    refine wpAny_passesOwn hp (thn (hb pins s2 σ1 H2 _ I2 q2) fun f s3 q3 => ?_)
    cases f with
    | next =>
      obtain ⟨σ3, H3, I3, n3⟩ := q3
      obtain ⟨m', hm, w3⟩ := hN σ3 H3 n3
      exact ⟨m', hm, σ3, H3, I3, w3⟩
    | cont =>
      obtain ⟨σ3, H3, I3, n3⟩ := q3
      obtain ⟨m', hm, w3⟩ := hN σ3 H3 n3
      exact ⟨m', hm, σ3, H3, I3, w3⟩
    | brk => exact q3
    | ret v => exact q3
  | false =>
    rw [if_neg Bool.false_ne_true]
    exact wpAny_execs_nil ⟨σ1, H2, I2, q2⟩
end

/-! ### what a loop or a comprehension walks -/
/-- at turn i: it yields x (the heap may grow), or it stops -/
structure It where
  go : Nat → Hp → Prop
  yld : Nat → Hp → V → Hp → Prop
  stop : Nat → Hp → Prop
/-- the iterator's own objects may turn: they are not the frame's, not pinned, younger than the entry (or a comprehension's own) -/
def FpOk (X : Cx) (pins : List (Addr × Obj)) (H : Hp) (b : Addr) : Prop :=
  H b = none ∧ b ≠ X.env.locals ∧ b ∉ X.fs ∧ (b ∈ X.ex ∨ X.s₀.heap.objs.size ≤ b) ∧ (∀ x c, X.env.cells.lookup x = some c → c ≠ b) ∧ ∀ p ∈ X.pn ++ pins, p.1 ≠ b
theorem Inv.fpOk {X : Cx} {pins : List (Addr × Obj)} {σ : St} {H H' : Hp} {s : Shared} {b : Addr} (I : Inv X pins σ H s) (hb : s.heap.objs.size ≤ b) (hn : H' b = none) : FpOk X pins H' b := by
  refine ⟨hn, Nat.ne_of_gt (Nat.lt_of_lt_of_le I.lt hb), I.nofs hb, .inr (Nat.le_trans I.sz hb), fun x c e z => ?_, fun p hp z => ?_⟩
  · obtain ⟨v, q⟩ := I.cell x c e
    exact absurd (Nat.lt_of_lt_of_le q.lt (by rw [z]; exact hb)) (Nat.lt_irrefl _)
  · exact absurd (Nat.lt_of_lt_of_le (Heap.lt_size (I.pin p hp).1) (by rw [z]; exact hb)) (Nat.lt_irrefl _)
structure Turn (P : Program) (w : World) (K : PySem.W.Frag) (tg : Expr) (J : It) (fp : List Addr) (it : Addr) (tn : Nat → Heap → Prop) : Prop where
  mem : it ∈ fp
  obj : ∀ i h, tn i h → ∀ b ∈ fp, ∃ o, h.get? b = some o ∧ ∀ v, o.data ≠ .cell v
  keep : ∀ i h h', tn i h → (∀ b ∈ fp, ∀ o, h.get? b = some o → h'.get? b = some o) → tn i h'
  item : ∀ (X : Cx), X.prog = P → X.w = w → X.K = K → X.calm = true → ∀ (i : Nat) (pins : List (Addr × Obj)) (s : Shared) (σ : St) (H : Hp) (E : Value → Shared → Prop), Inv X pins σ H s → (∀ b ∈ fp, FpOk X pins H b) → tn i s.heap → J.go i H →
    wpAny (model P w) X.A (pyNext (.ref it)) (fun r s1 => ∃ u, r = some u ∧
      wpAny (model P w) X.A (letOwnedTupleGo tg (.ref it) u) (fun _ s2 => ∃ x H', Inv X pins σ H' s2 ∧ RelV x u ∧ J.yld i H x H' ∧ tn (i + 1) s2.heap ∧ ∀ b ∈ fp, H' b = none) E s1) E s
  done : ∀ (X : Cx), X.prog = P → X.w = w → X.K = K → X.calm = true → ∀ (i : Nat) (pins : List (Addr × Obj)) (s : Shared) (σ : St) (H : Hp) (E : Value → Shared → Prop), Inv X pins σ H s → (∀ b ∈ fp, FpOk X pins H b) → tn i s.heap → J.stop i H →
    wpAny (model P w) X.A (pyNext (.ref it)) (fun r s1 => r = none ∧ Inv X pins σ H s1) E s
  self : ∀ (A : Around) (i : Nat) (s : Shared) (Q : Value → Shared → Prop) (E : Value → Shared → Prop), tn i s.heap → Q (.ref it) s → wpAny (model P w) A (pyIter (.ref it)) Q E s
abbrev TI := St → Hp → (It → Hp → Prop) → Prop
/-- an iterator has come -/
def PIE (X : Cx) (pins : List (Addr × Obj)) (σ : St) (tg : Expr) (R : It → Hp → Prop) (itv : Value) (s2 : Shared) : Prop :=
  ∃ (it : Addr) (fp : List Addr) (tn : Nat → Heap → Prop) (J : It) (H' : Hp), itv = .ref it ∧ Inv X pins σ H' s2 ∧ Turn X.prog X.w X.K tg J fp it tn ∧ tn 0 s2.heap ∧ (∀ b ∈ fp, FpOk X pins H' b) ∧ R J H'
def PI (X : Cx) (tg iter : Expr) (wi : TI) : Prop :=
  ∀ (pins : List (Addr × Obj)) (s : Shared) (σ : St) (H : Hp) (R : It → Hp → Prop), Inv X pins σ H s → wi σ H R →
    wpAny (model X.prog X.w) X.A (eval iter X.env) (fun v s1 => wpAny (model X.prog X.w) X.A (pyIter v) (PIE X pins σ tg R) X.xe s1) X.xe s

/-- the step ahead of the store is nothing for an iterator that keeps no tuple -/
theorem go_of {M : Model} {A : Around} {E : Value → Shared → Prop} {s : Shared} {tg : Expr} {it : Addr} {u : Value} {o : Obj} {n : String} {vs : Array Value} {Q : Unit → Shared → Prop} (ho : s.heap.get? it = some o) (hc : o.cls = .type n) (hd : o.data = .fields vs)
    (hn : ["enumerate", "zip", "dict_itemiterator", "dict_reverseitemiterator", "odict_iterator", "itertools.zip_longest", "itertools.pairwise"].contains n = false) (hQ : Q () s) : wpAny M A (letOwnedTupleGo tg (.ref it) u) Q E s := by
  unfold letOwnedTupleGo
  cases tg <;> first
    | exact wpAny_pure hQ
    | (cases u <;> first
        | exact wpAny_pure hQ
        | (refine wpAny_bind (wpAny_load ho ?_)
           rw [hc, hd]
           show wpAny M A (if (["enumerate", "zip", "dict_itemiterator", "dict_reverseitemiterator", "odict_iterator", "itertools.zip_longest", "itertools.pairwise"].contains n && vs[0]? == some (rawInt _)) = true then _ else _) Q E s
           rw [if_neg (by intro h; rw [hn, Bool.false_and] at h; cases h)]
           exact wpAny_pure hQ))

/-- the list at a, as it stands at each turn (a loop may append to it) -/
def Itl (K : PySem.W.Frag) (a : Addr) : It :=
  ⟨fun i H => ∃ xs x, SqL K H a xs ∧ xs[i]? = some x, fun i H x H' => H' = H ∧ ∀ xs, SqL K H a xs → xs[i]? = some x, fun i H => ∃ xs, SqL K H a xs ∧ xs.length ≤ i⟩
def Itt (K : PySem.W.Frag) (a : Addr) : It :=
  ⟨fun i H => ∃ xs x, SqT K H a xs ∧ xs[i]? = some x, fun i H x H' => H' = H ∧ ∀ xs, SqT K H a xs → xs[i]? = some x, fun i H => ∃ xs, SqT K H a xs ∧ xs.length ≤ i⟩
/-- lo, lo + 1, .. (n of them) -/
def Itr (lo : Int) (n : Nat) : It := ⟨fun i _ => i < n, fun i H x H' => H' = H ∧ x = .int (lo + i), fun i _ => n ≤ i⟩
theorem turn_list {P : Program} {w : World} {K : PySem.W.Frag} {tg : Expr} (a it : Addr) : Turn P w K tg (Itl K a) [it] it (fun i h => h.IsListIter it a i) where
  mem := by simp
  obj := fun i h st b hb => by
    have e : b = it := by simpa using hb
    subst e
    obtain ⟨o, e, c, d⟩ := st
    exact ⟨o, e, fun v z => by rw [d] at z; cases z⟩
  keep := fun i h h' st k => st.at fun o e => k it (by simp) o e
  item := by
    intro X hP hw hK hc i pins s σ H E I hf st hg
    subst hP hw hK
    obtain ⟨xs, x, hq, hx⟩ := hg
    obtain ⟨its, rv, p, hz⟩ := I.list hq
    obtain ⟨u, hu, ru⟩ := rv.get hx
    obtain ⟨f0, f1, f2, f3, f4, f5⟩ := hf it (by simp)
    refine wpAny_pyNext_list_item st p.isList (x := u) (by simpa using hu) fun h' st' sb => ?_
    have I1 : Inv X pins σ H { s with heap := h' } := I.turned (t' := s.toks) (fun b o hb e => (sb.2 b hb).trans e) f0 f1 f3 f4 f5
    obtain ⟨o, e, c, d⟩ := id st'
    exact ⟨u, rfl, go_of (s := { s with heap := h' }) e c d (by decide) ⟨x, H, I1, ru, ⟨rfl, fun ys hy => by rw [I.list_inj hy hq]; exact hx⟩, st', fun b hb => (hf b hb).1⟩⟩
  done := by
    intro X hP hw hK hc i pins s σ H E I hf st hg
    subst hP hw hK
    obtain ⟨xs, hq, hx⟩ := hg
    obtain ⟨its, rv, p, hz⟩ := I.list hq
    obtain ⟨f0, f1, f2, f3, f4, f5⟩ := hf it (by simp)
    have hl := rv.length
    exact wpAny_pyNext_list_end (I.ok.hd hc) st p.isList (by simp; omega) fun h' eb => ⟨rfl, I.turned (t' := s.toks) (fun b o hb e => eb b o hb e) f0 f1 f3 f4 f5⟩
  self := fun _ _ _ _ _ st h => wpAny_pyIter_listiter st h
theorem turn_tuple {P : Program} {w : World} {K : PySem.W.Frag} {tg : Expr} (a it : Addr) : Turn P w K tg (Itt K a) [it] it (fun i h => h.IsTupleIter it a i) where
  mem := by simp
  obj := fun i h st b hb => by
    have e : b = it := by simpa using hb
    subst e
    obtain ⟨o, e, c, d⟩ := st
    exact ⟨o, e, fun v z => by rw [d] at z; cases z⟩
  keep := fun i h h' st k => st.at fun o e => k it (by simp) o e
  item := by
    intro X hP hw hK hc i pins s σ H E I hf st hg
    subst hP hw hK
    obtain ⟨xs, x, hq, hx⟩ := hg
    obtain ⟨its, rv, p, hz⟩ := I.tuple hq
    obtain ⟨u, hu, ru⟩ := rv.get hx
    obtain ⟨f0, f1, f2, f3, f4, f5⟩ := hf it (by simp)
    refine wpAny_pyNext_tuple_item st (show s.heap.IsTuple a its.toArray from p) (x := u) (by simpa using hu) fun h' st' sb => ?_
    have I1 : Inv X pins σ H { s with heap := h' } := I.turned (t' := s.toks) (fun b o hb e => (sb.2 b hb).trans e) f0 f1 f3 f4 f5
    obtain ⟨o, e, c, d⟩ := id st'
    exact ⟨u, rfl, go_of (s := { s with heap := h' }) e c d (by decide) ⟨x, H, I1, ru, ⟨rfl, fun ys hy => by rw [I.tuple_inj hy hq]; exact hx⟩, st', fun b hb => (hf b hb).1⟩⟩
  done := by
    intro X hP hw hK hc i pins s σ H E I hf st hg
    subst hP hw hK
    obtain ⟨xs, hq, hx⟩ := hg
    obtain ⟨its, rv, p, hz⟩ := I.tuple hq
    obtain ⟨f0, f1, f2, f3, f4, f5⟩ := hf it (by simp)
    have hl := rv.length
    exact wpAny_pyNext_tuple_end (I.ok.hd hc) st (show s.heap.IsTuple a its.toArray from p) (by simp; omega) fun h' eb => ⟨rfl, I.turned (t' := s.toks) (fun b o hb e => eb b o hb e) f0 f1 f3 f4 f5⟩
  self := fun _ _ _ _ _ st h => wpAny_pyIter_tupleiter st h
theorem turn_range {P : Program} {w : World} {K : PySem.W.Frag} {tg : Expr} (it : Addr) (lo : Int) (n : Nat) : Turn P w K tg (Itr lo n) [it] it (fun i h => IsRangeIter h it (lo + (i : Nat) * 1) ((n : Int) - (i : Nat)) 1) where
  mem := by simp
  obj := fun i h st b hb => by
    have e : b = it := by simpa using hb
    subst e
    exact ⟨_, st, fun v z => by
      have z' : Data.fields _ = Data.cell v := z
      cases z'⟩
  keep := fun i h h' st k => k it (by simp) _ st
  item := by
    intro X hP hw hK hc i pins s σ H E I hf st hg
    subst hP hw hK
    obtain ⟨f0, f1, f2, f3, f4, f5⟩ := hf it (by simp)
    have W := Walks.range (prog := X.prog) (w := X.w) (I.ok.hd hc) it lo 1 n
    refine W.item i s _ _ hg st fun v h' tk hv st' kk => ?_
    obtain ⟨t, rfl⟩ := hv
    have I1 : Inv X pins σ H { s with heap := h', toks := tk } := I.turned (fun b o hb e => kk b o (by simpa using hb) e) f0 f1 f3 f4 f5
    refine ⟨_, rfl, go_of (s := { s with heap := h', toks := tk }) (n := "range_iterator") st' rfl rfl (by decide) ⟨.int (lo + i), H, I1, ⟨t, ?_⟩, ⟨rfl, rfl⟩, st', fun b hb => (hf b hb).1⟩⟩
    rw [Int.mul_one]
  done := by
    intro X hP hw hK hc i pins s σ H E I hf st hg
    subst hP hw hK
    obtain ⟨f0, f1, f2, f3, f4, f5⟩ := hf it (by simp)
    exact wpAny_pyNext_range_end (I.ok.hd hc) st (by have : n ≤ i := hg; omega) fun h' eb => ⟨rfl, I.turned (t' := s.toks) (fun b o hb e => eb b o hb e) f0 f1 f3 f4 f5⟩
  self := fun _ _ _ _ _ st h => wpAny_pyIter_rangeiter st h
end L2

namespace L2
open PySem PySem.Spec PyProof.Rows
section
variable {X : Cx} {tg : Expr}
def iList (K : PySem.W.Frag) (tl : TE) : TI := fun σ H R => tl σ H fun x H1 => ∃ a, x = .ref a ∧ (∃ xs, SqL K H1 a xs) ∧ R (Itl K a) H1
def iTup (K : PySem.W.Frag) (tl : TE) : TI := fun σ H R => tl σ H fun x H1 => ∃ a, x = .ref a ∧ (∃ xs, SqT K H1 a xs) ∧ R (Itt K a) H1
theorem pi_list {l : Expr} {tl : TE} (hl : PE X l tl) : PI X tg l (iList X.K tl) := by
  intro pins s σ H R I h
  refine thn (hl pins s σ H _ I h) fun v s1 ⟨x, H1, I1, r1, q1⟩ => ?_
  obtain ⟨a, e, ⟨xs, hq⟩, q⟩ := q1
  subst e
  cases r1
  obtain ⟨its, rv, p, hz⟩ := I1.list hq
  refine wpAny_pyIter_list p.isList ?_
  refine ⟨s1.heap.objs.size, [s1.heap.objs.size], _, _, H1, rfl, I1.kept (t' := s1.toks) fun b o e => Heap.get?_push_of_some _ e, turn_list a _, ⟨_, Heap.get?_push_size _ rfl, rfl, rfl⟩, fun b hb => ?_, q⟩
  have e : b = s1.heap.objs.size := by simpa using hb
  subst e
  exact I1.fpOk (Nat.le_refl _) (I1.hok.fresh (Nat.le_refl _))
theorem pi_tup {l : Expr} {tl : TE} (hl : PE X l tl) : PI X tg l (iTup X.K tl) := by
  intro pins s σ H R I h
  refine thn (hl pins s σ H _ I h) fun v s1 ⟨x, H1, I1, r1, q1⟩ => ?_
  obtain ⟨a, e, ⟨xs, hq⟩, q⟩ := q1
  subst e
  cases r1
  obtain ⟨its, rv, p, hz⟩ := I1.tuple hq
  refine wpAny_pyIter_tuple (show s1.heap.IsTuple a its.toArray from p) ?_
  refine ⟨s1.heap.objs.size, [s1.heap.objs.size], _, _, H1, rfl, I1.kept (t' := s1.toks) fun b o e => Heap.get?_push_of_some _ e, turn_tuple a _, ⟨_, Heap.get?_push_size _ rfl, rfl, rfl⟩, fun b hb => ?_, q⟩
  have e : b = s1.heap.objs.size := by simpa using hb
  subst e
  exact I1.fpOk (Nat.le_refl _) (I1.hok.fresh (Nat.le_refl _))
/-- a range object just made, walked -/
theorem range_it {pins : List (Addr × Obj)} {σ : St} {H : Hp} {s : Shared} {R : It → Hp → Prop} {E : Value → Shared → Prop} {lo hi : Int} {t u v : Tok} {tk : Nat} (I : Inv X pins σ H s) (h1 : -(2 ^ 62) ≤ lo) (h2 : lo < 2 ^ 62) (h3 : -(2 ^ 62) ≤ hi) (h4 : hi < 2 ^ 62)
    (q : R (Itr lo (hi - lo).toNat) H) : wpAny (model X.prog X.w) X.A (pyIter (.ref s.heap.objs.size)) (PIE X pins σ tg R) E { s with heap := s.heap.push { cls := .type "range", data := .fields #[.int lo t, .int hi u, .int 1 v] }, toks := tk } := by
  refine wpAny_pyIter_range (IsRange.new ..) (small_one h1 h2 h3 h4) ?_
  have I1 : Inv X pins σ H { s with heap := s.heap.push { cls := .type "range", data := .fields #[.int lo t, .int hi u, .int 1 v] }, toks := tk } := I.kept fun b o e => Heap.get?_push_of_some _ e
  refine ⟨(s.heap.push { cls := .type "range", data := .fields #[.int lo t, .int hi u, .int 1 v] }).objs.size, [(s.heap.push { cls := .type "range", data := .fields #[.int lo t, .int hi u, .int 1 v] }).objs.size], _, _, H, rfl,
    I1.kept (t' := tk) fun b o e => Heap.get?_push_of_some _ e, turn_range _ lo (hi - lo).toNat, ?_, fun b hb => ?_, q⟩
  · have e1 : lo + ((0 : Nat) : Int) * 1 = lo := by simp
    have e2 : (((hi - lo).toNat : Nat) : Int) - ((0 : Nat) : Int) = Builtin.Range.rangeSize lo hi 1 := by rw [rangeSize_one]; split <;> omega
    show IsRangeIter _ _ (lo + ((0 : Nat) : Int) * 1) ((((hi - lo).toNat : Nat) : Int) - ((0 : Nat) : Int)) 1
    rw [e1, e2]
    exact Heap.get?_push_size _ rfl
  · have e : b = (s.heap.push { cls := .type "range", data := .fields #[.int lo t, .int hi u, .int 1 v] }).objs.size := by simpa using hb
    subst e
    exact I1.fpOk (Nat.le_refl _) (I1.hok.fresh (Nat.le_refl _))
def iRng1 (ta : TA) : TI := fun σ H R => ta σ H fun vs H1 => ∃ j : Int, vs = [.int j] ∧ -(2 ^ 62) ≤ j ∧ j < 2 ^ 62 ∧ R (Itr 0 j.toNat) H1
def iRng2 (ta : TA) : TI := fun σ H R => ta σ H fun vs H1 => ∃ i j : Int, vs = [.int i, .int j] ∧ (-(2 ^ 62) ≤ i ∧ i < 2 ^ 62 ∧ -(2 ^ 62) ≤ j ∧ j < 2 ^ 62) ∧ R (Itr i (j - i).toNat) H1
theorem pi_range1 {a : Expr} {ta : TA} {p pos : Pos} (hg : Gl X "range") (hm : X.mg "range" = none) (ha : PA X [a] ta) (hs : starEach [a] X.env = [(false, eval a X.env)] := by rfl) : PI X tg (.Call (.Name "range" p) [a] [] pos) (iRng1 ta) := by
  intro pins s σ H R I h
  refine Call_ (ld_blt I hg hm boot_range (PyProof.Rows.callWith_type1 (thn (ha pos pins s σ H _ I h) fun us s1 ⟨vs, H1, I1, r1, q1⟩ => ?_) hs rfl))
  obtain ⟨j, e, q1, q2, q⟩ := q1
  subst e
  cases r1 with
  | cons r rr =>
    cases rr
    obtain ⟨t, rfl⟩ := r
    exact call_range_1 (range_it I1 (by omega) (by omega) q1 q2 (by simpa using q))

/-! ### for -/
/-- W: the invariant by the turn and a measure; N: what the body is to reach -/
def tFor (wi : TI) (g : TG) (tb : TS) : TS := fun D σ H => wi σ H fun J H1 => ∃ W : Nat → Nat → St → Hp → Prop, (∃ m, W 0 m σ H1) ∧ ∀ i m σ H, W i m σ H →
  (J.stop i H ∧ D.nx σ H) ∨ (J.go i H ∧ ∃ N : St → Hp → Prop, (∀ σ' H', N σ' H' → ∃ m', m' < m ∧ W (i + 1) m' σ' H') ∧ ∀ x H', J.yld i H x H' → g x σ H' fun σ2 H2 => tb { D with nx := N, ct := N, bk := D.nx } σ2 H2)
/-- the records at fp as they stand -/
def pinsAt (fp : List Addr) (h : Heap) : List (Addr × Obj) := fp.filterMap fun b => (h.get? b).map fun o => (b, o)
theorem mem_pinsAt {fp : List Addr} {h : Heap} {b : Addr} {o : Obj} (hb : b ∈ fp) (e : h.get? b = some o) : (b, o) ∈ pinsAt fp h := List.mem_filterMap.mpr ⟨b, hb, by rw [e]; rfl⟩
theorem of_pinsAt {fp : List Addr} {h : Heap} {p : Addr × Obj} (hp : p ∈ pinsAt fp h) : p.1 ∈ fp ∧ h.get? p.1 = some p.2 := by
  obtain ⟨b, hb, e⟩ := List.mem_filterMap.mp hp
  cases q : h.get? b with
  | none => rw [q] at e; cases e
  | some o =>
    rw [q] at e
    have e' : (b, o) = p := Option.some.inj e
    subst e'
    exact ⟨hb, q⟩
theorem Inv.pinned {pins : List (Addr × Obj)} {σ : St} {H : Hp} {s : Shared} {fp : List Addr} (I : Inv X pins σ H s) (hf : ∀ b ∈ fp, FpOk X pins H b) (ho : ∀ b ∈ fp, ∃ o, s.heap.get? b = some o ∧ ∀ v, o.data ≠ .cell v) : Inv X (pins ++ pinsAt fp s.heap) σ H s :=
  I.pins_of fun p hp => (List.mem_append.mp hp).elim (fun z => I.pin p (List.mem_append_right _ z)) fun z => by
    obtain ⟨hb, e⟩ := of_pinsAt z
    obtain ⟨f0, f1, f2, _⟩ := hf p.1 hb
    obtain ⟨o, e', d⟩ := ho p.1 hb
    rw [e] at e'; cases e'
    exact ⟨e, f0, f1, f2, d⟩
theorem Inv.unpinned {pins pl : List (Addr × Obj)} {σ : St} {H : Hp} {s : Shared} (I : Inv X (pins ++ pl) σ H s) : Inv X pins σ H s := I.pins_of fun p hp => I.pin p (List.mem_append_right _ (List.mem_append_left _ hp))
theorem ps_for {iter : Expr} {body : List Stmt} {wi : TI} {g : TG} {tb : TS} {pos : Pos} (hp : PassesOwn (model X.prog X.w) X.A X.env X.xe) (hc : X.calm = true) (hi : PI X tg iter wi) (hg : PG X tg g) (hb : PSs X body tb)
    (hs : ∀ x, foldedSetIterable iter X.env x = pure x := by intro _; rfl) : PS X (.For tg iter body [] pos) (tFor wi g tb) := by
  intro pins s σ H D I h
  refine wpAny_For (thn (hi pins s σ H _ I h) fun v s1 h1 => thn h1 fun itv s2 h2 => ?_) hs
  obtain ⟨it, fp, tn, J, H2, e, I2, T, st2, f2, W, ⟨m0, w0⟩, turn⟩ := h2
  subst e
  -- what stays true of the iterator's objects through the loop
  have stat : ∀ {H' : Hp}, (∀ b ∈ fp, H' b = none) → ∀ b ∈ fp, FpOk X pins H' b := fun hn b hb => ⟨hn b hb, (f2 b hb).2⟩
  refine codeAny_forLoop_any (fun n s' => ∃ i σ' H', Inv X pins σ' H' s' ∧ tn i s'.heap ∧ (∀ b ∈ fp, H' b = none) ∧ W i n σ' H') ?_ m0 ⟨0, σ, H2, I2, st2, fun b hb => (f2 b hb).1, w0⟩
  rintro n s3 ⟨i, σ3, H3, I3, st3, fr3, w3⟩
  rcases turn i n σ3 H3 w3 with ⟨stop, qn⟩ | ⟨go, N, hN, step⟩
  · refine wpAny_passesOwn hp (thn (T.done X rfl rfl rfl hc i pins s3 σ3 H3 X.xe I3 (stat fr3) st3 stop) fun r s4 ⟨hr, I4⟩ => ?_)
    subst hr
    exact wpAny_execs_nil ⟨σ3, H3, I4, qn⟩
  · refine wpAny_passesOwn hp (thn (T.item X rfl rfl rfl hc i pins s3 σ3 H3 X.xe I3 (stat fr3) st3 go) fun r s4 ⟨u, hr, h4⟩ => ?_)
    subst hr
    refine wpAny_passesOwn hp (thn h4 fun _ s5 ⟨x, H5, I5, r5, y5, st5, fr5⟩ => ?_)
    have I5' := I5.pinned (stat fr5) (T.obj _ _ st5)
    refine wpAny_passesOwn hp (thn (hg _ s5 σ3 H5 x u _ I5' r5 (step x H5 y5)) fun _ s6 ⟨σ6, H6, I6, q6⟩ => ?_)
    refine wpAny_passesOwn hp (thn (hb _ s6 σ6 H6 _ I6 q6) fun f s7 q7 => ?_)
    have again : ∀ {σ7 : St} {H7 : Hp}, Inv X (pins ++ pinsAt fp s5.heap) σ7 H7 s7 → N σ7 H7 → ∃ m, m < n ∧ ∃ i σ' H', Inv X pins σ' H' s7 ∧ tn i s7.heap ∧ (∀ b ∈ fp, H' b = none) ∧ W i m σ' H' := fun {σ7 H7} I7 n7 => by
      obtain ⟨m', hm, w7⟩ := hN σ7 H7 n7
      refine ⟨m', hm, i + 1, σ7, H7, I7.unpinned, T.keep _ _ _ st5 fun b hb o e => (I7.pin (b, o) (List.mem_append_right _ (List.mem_append_right _ (mem_pinsAt hb e)))).1, fun b hb => ?_, w7⟩
      obtain ⟨o, e, d⟩ := T.obj _ _ st5 b hb
      exact (I7.pin (b, o) (List.mem_append_right _ (List.mem_append_right _ (mem_pinsAt hb e)))).2.1
    cases f with
    | next => obtain ⟨σ7, H7, I7, n7⟩ := q7; exact again I7 n7
    | cont => obtain ⟨σ7, H7, I7, n7⟩ := q7; exact again I7 n7
    | brk => obtain ⟨σ7, H7, I7, q7⟩ := q7; exact ⟨σ7, H7, I7.unpinned, q7⟩
    | ret v => obtain ⟨x7, σ7, H7, I7, r7, q7⟩ := q7; exact ⟨x7, σ7, H7, I7.unpinned, r7, q7⟩
end

/-! ### the forms one uses -/
/-- over a list that the body leaves as it is -/
theorem for_list {K : PySem.W.Frag} {a : Addr} {xs : List V} {g : TG} {tb : TS} {D : Ends} {σ : St} {H : Hp} (Pv : Nat → St → Hp → Prop) (h0 : Pv 0 σ H) (hl : ∀ i σ H, i ≤ xs.length → Pv i σ H → SqL K H a xs)
    (hs : ∀ i x σ H, xs[i]? = some x → Pv i σ H → g x σ H fun σ2 H2 => tb { D with nx := Pv (i + 1), ct := Pv (i + 1), bk := D.nx } σ2 H2) (hd : ∀ σ H, Pv xs.length σ H → D.nx σ H) :
    ∃ W : Nat → Nat → St → Hp → Prop, (∃ m, W 0 m σ H) ∧ ∀ i m σ H, W i m σ H →
      ((Itl K a).stop i H ∧ D.nx σ H) ∨ ((Itl K a).go i H ∧ ∃ N : St → Hp → Prop, (∀ σ' H', N σ' H' → ∃ m', m' < m ∧ W (i + 1) m' σ' H') ∧ ∀ x H', (Itl K a).yld i H x H' → g x σ H' fun σ2 H2 => tb { D with nx := N, ct := N, bk := D.nx } σ2 H2) := by
  refine ⟨fun i m σ H => m = xs.length - i ∧ i ≤ xs.length ∧ Pv i σ H, ⟨xs.length, by simp, Nat.zero_le _, h0⟩, ?_⟩
  rintro i m σ H ⟨rfl, hi, p⟩
  have q := hl i σ H hi p
  by_cases hlt : i < xs.length
  · refine .inr ⟨⟨xs, xs[i], q, by simp [hlt]⟩, Pv (i + 1), fun σ' H' p' => ⟨xs.length - (i + 1), by omega, rfl, hlt, p'⟩, fun x H' y => ?_⟩
    obtain ⟨e, y⟩ := y
    subst e
    exact hs i x σ _ (y xs q) p
  · have e : i = xs.length := by omega
    subst e
    exact .inl ⟨⟨xs, q, Nat.le_refl _⟩, hd σ H p⟩
theorem for_tup {K : PySem.W.Frag} {a : Addr} {xs : List V} {g : TG} {tb : TS} {D : Ends} {σ : St} {H : Hp} (Pv : Nat → St → Hp → Prop) (h0 : Pv 0 σ H) (hl : ∀ i σ H, i ≤ xs.length → Pv i σ H → SqT K H a xs)
    (hs : ∀ i x σ H, xs[i]? = some x → Pv i σ H → g x σ H fun σ2 H2 => tb { D with nx := Pv (i + 1), ct := Pv (i + 1), bk := D.nx } σ2 H2) (hd : ∀ σ H, Pv xs.length σ H → D.nx σ H) :
    ∃ W : Nat → Nat → St → Hp → Prop, (∃ m, W 0 m σ H) ∧ ∀ i m σ H, W i m σ H →
      ((Itt K a).stop i H ∧ D.nx σ H) ∨ ((Itt K a).go i H ∧ ∃ N : St → Hp → Prop, (∀ σ' H', N σ' H' → ∃ m', m' < m ∧ W (i + 1) m' σ' H') ∧ ∀ x H', (Itt K a).yld i H x H' → g x σ H' fun σ2 H2 => tb { D with nx := N, ct := N, bk := D.nx } σ2 H2) := by
  refine ⟨fun i m σ H => m = xs.length - i ∧ i ≤ xs.length ∧ Pv i σ H, ⟨xs.length, by simp, Nat.zero_le _, h0⟩, ?_⟩
  rintro i m σ H ⟨rfl, hi, p⟩
  have q := hl i σ H hi p
  by_cases hlt : i < xs.length
  · refine .inr ⟨⟨xs, xs[i], q, by simp [hlt]⟩, Pv (i + 1), fun σ' H' p' => ⟨xs.length - (i + 1), by omega, rfl, hlt, p'⟩, fun x H' y => ?_⟩
    obtain ⟨e, y⟩ := y
    subst e
    exact hs i x σ _ (y xs q) p
  · have e : i = xs.length := by omega
    subst e
    exact .inl ⟨⟨xs, q, Nat.le_refl _⟩, hd σ H p⟩
theorem for_range {lo : Int} {n : Nat} {g : TG} {tb : TS} {D : Ends} {σ : St} {H : Hp} (Pv : Nat → St → Hp → Prop) (h0 : Pv 0 σ H)
    (hs : ∀ i σ H, i < n → Pv i σ H → g (.int (lo + i)) σ H fun σ2 H2 => tb { D with nx := Pv (i + 1), ct := Pv (i + 1), bk := D.nx } σ2 H2) (hd : ∀ σ H, Pv n σ H → D.nx σ H) :
    ∃ W : Nat → Nat → St → Hp → Prop, (∃ m, W 0 m σ H) ∧ ∀ i m σ H, W i m σ H →
      ((Itr lo n).stop i H ∧ D.nx σ H) ∨ ((Itr lo n).go i H ∧ ∃ N : St → Hp → Prop, (∀ σ' H', N σ' H' → ∃ m', m' < m ∧ W (i + 1) m' σ' H') ∧ ∀ x H', (Itr lo n).yld i H x H' → g x σ H' fun σ2 H2 => tb { D with nx := N, ct := N, bk := D.nx } σ2 H2) := by
  refine ⟨fun i m σ H => m = n - i ∧ i ≤ n ∧ Pv i σ H, ⟨n, by simp, Nat.zero_le _, h0⟩, ?_⟩
  rintro i m σ H ⟨rfl, hi, p⟩
  by_cases hlt : i < n
  · refine .inr ⟨hlt, Pv (i + 1), fun σ' H' p' => ⟨n - (i + 1), by omega, rfl, hlt, p'⟩, fun x H' y => ?_⟩
    obtain ⟨e, y⟩ := y
    subst e y
    exact hs i σ _ hlt p
  · have e : i = n := by omega
    subst e
    exact .inl ⟨Nat.le_refl _, hd σ H p⟩
/-- while, by a word and a measure of the state -/
theorem while_by {c : TT} {tb : TS} {D : Ends} {σ : St} {H : Hp} (Pv : St → Hp → Prop) (μ : St → Hp → Nat) (h0 : Pv σ H)
    (hs : ∀ σ H, Pv σ H → c σ H fun b H1 => if b = true then tb { D with nx := fun σ' H' => Pv σ' H' ∧ μ σ' H' < μ σ H, ct := fun σ' H' => Pv σ' H' ∧ μ σ' H' < μ σ H, bk := D.nx } σ H1 else D.nx σ H1)
    (mono : ∀ σ H Q Q', (∀ b H1, Q b H1 → Q' b H1) → c σ H Q → c σ H Q') : tWhile c tb D σ H := by
  refine ⟨fun m σ H => m = μ σ H ∧ Pv σ H, ⟨_, rfl, h0⟩, ?_⟩
  rintro m σ H ⟨rfl, p⟩
  refine mono σ H _ _ (fun b H1 q => ?_) (hs σ H p)
  cases b with
  | true => exact ⟨_, fun σ' H' ⟨p', l⟩ => ⟨_, l, rfl, p'⟩, q⟩
  | false => exact q
end L2

namespace L2
open PySem PySem.Spec PyProof.Rows

abbrev R2 := V → V → Hp → VK → Prop
/-- a two-place operation on values: f is binaryOp op, inplaceOp op or compareOp op -/
def OpR (X : Cx) (f : Value → Value → Sem Value) (r : R2) : Prop :=
  ∀ (pins : List (Addr × Obj)) (s : Shared) (σ : St) (H : Hp) (x y : V) (v u : Value) (Q : VK), Inv X pins σ H s → RelV x v → RelV y u → r x y H Q →
    wpAny (model X.prog X.w) X.A (f v u) (EP X pins σ Q) X.xe s
/-- a one-place operation -/
def UnR (X : Cx) (f : Value → Sem Value) (r : V → Hp → VK → Prop) : Prop :=
  ∀ (pins : List (Addr × Obj)) (s : Shared) (σ : St) (H : Hp) (x : V) (v : Value) (Q : VK), Inv X pins σ H s → RelV x v → r x H Q →
    wpAny (model X.prog X.w) X.A (f v) (EP X pins σ Q) X.xe s
/-- a call of a value that is known (a builtin, a type) with values -/
def CallR (X : Cx) (f : Value) (r : List V → Hp → VK → Prop) : Prop :=
  ∀ (pins : List (Addr × Obj)) (s : Shared) (σ : St) (H : Hp) (xs : List V) (us : List Value) (Q : VK), Inv X pins σ H s → Vals xs us → r xs H Q →
    wpAny (model X.prog X.w) X.A (call f us) (EP X pins σ Q) X.xe s
/-- a value's truth -/
def TruR (X : Cx) (r : V → Hp → (Bool → Hp → Prop) → Prop) : Prop :=
  ∀ (pins : List (Addr × Obj)) (s : Shared) (σ : St) (H : Hp) (x : V) (v : Value) (Q : Bool → Hp → Prop), Inv X pins σ H s → RelV x v → r x H Q →
    wpAny (model X.prog X.w) X.A (truthy v) (TP X pins σ Q) X.xe s

def tOp (r : R2) (ta tb : TE) : TE := fun σ H Q => ta σ H fun x H1 => tb σ H1 fun y H2 => r x y H2 Q
def tUn (r : V → Hp → VK → Prop) (ta : TE) : TE := fun σ H Q => ta σ H fun x H1 => r x H1 Q
/-- ints in, under C, and a value out -/
def rI (C : Int → Int → Prop) (g : Int → Int → V) : R2 := fun x y H Q => ∃ i j, x = .int i ∧ y = .int j ∧ C i j ∧ Q (g i j) H
def rI0 (g : Int → Int → V) : R2 := fun x y H Q => ∃ i j, x = .int i ∧ y = .int j ∧ Q (g i j) H
def rU (g : Int → V) : V → Hp → VK → Prop := fun x H Q => ∃ i, x = .int i ∧ Q (g i) H

section
variable {X : Cx} {a b c : Expr} {ta tb tc : TE} {pos : Pos}

theorem binT (ha : PE X a ta) (hb : PE X b tb) {pins : List (Addr × Obj)} {s : Shared} {σ : St} {H : Hp} {R : V → V → Hp → Prop} (I : Inv X pins σ H s)
    (h : ta σ H fun x H1 => tb σ H1 fun y H2 => R x y H2) {Q : Value → Shared → Prop} {f : Value → Value → Sem Value}
    (hf : ∀ v u s2 x y H2, Inv X pins σ H2 s2 → RelV x v → RelV y u → R x y H2 → wpAny (model X.prog X.w) X.A (f v u) Q X.xe s2) :
    wpAny (model X.prog X.w) X.A (eval a X.env) (fun v s₁ => wpAny (model X.prog X.w) X.A (eval b X.env) (fun u s₂ => wpAny (model X.prog X.w) X.A (f v u) Q X.xe s₂) X.xe s₁) X.xe s := by
  refine thn (ha pins s σ H _ I h) fun v s1 ⟨x, H1, I1, r1, q1⟩ => ?_
  refine thn (hb pins s1 σ H1 _ I1 q1) fun u s2 ⟨y, H2, I2, r2, q2⟩ => ?_
  exact hf v u s2 x y H2 I2 r1 r2 q2

theorem pe_op {op : Operator} {r : R2} (ho : OpR X (binaryOp op) r) (ha : PE X a ta) (hb : PE X b tb) : PE X (.BinOp a op b pos) (tOp r ta tb) := by
  intro pins s σ H Q I h
  exact wpAny_BinOp (binT ha hb I h fun v u s2 x y H2 I2 rx ry q => ho pins s2 σ H2 x y v u Q I2 rx ry q)

/-! ### ints -/
theorem opI {f : Value → Value → Sem Value} {C : Int → Int → Prop} {g : Int → Int → Int}
    (rule : ∀ (i j : Int) (t u : Tok) (s : Shared) (Q : Value → Shared → Prop) (E : Value → Shared → Prop), C i j → Q (.int (g i j) s.toks) { s with toks := s.toks + 1 } → wpAny (model X.prog X.w) X.A (f (.int i t) (.int j u)) Q E s) :
    OpR X f (rI C fun i j => .int (g i j)) := by
  intro pins s σ H x y v u Q I rx ry h
  obtain ⟨i, j, rfl, rfl, hc, q⟩ := h
  obtain ⟨t, rfl⟩ := rx
  obtain ⟨t', rfl⟩ := ry
  exact rule i j t t' s _ _ hc ⟨.int (g i j), H, I.tok _, ⟨_, rfl⟩, q⟩
theorem opI0 {f : Value → Value → Sem Value} {g : Int → Int → Int}
    (rule : ∀ (i j : Int) (t u : Tok) (s : Shared) (Q : Value → Shared → Prop) (E : Value → Shared → Prop), Q (.int (g i j) s.toks) { s with toks := s.toks + 1 } → wpAny (model X.prog X.w) X.A (f (.int i t) (.int j u)) Q E s) :
    OpR X f (rI0 fun i j => .int (g i j)) := by
  intro pins s σ H x y v u Q I rx ry h
  obtain ⟨i, j, rfl, rfl, q⟩ := h
  obtain ⟨t, rfl⟩ := rx
  obtain ⟨t', rfl⟩ := ry
  exact rule i j t t' s _ _ ⟨.int (g i j), H, I.tok _, ⟨_, rfl⟩, q⟩
theorem opB0 {f : Value → Value → Sem Value} {g : Int → Int → Bool}
    (rule : ∀ (i j : Int) (t u : Tok) (s : Shared) (Q : Value → Shared → Prop) (E : Value → Shared → Prop), Q (.bool (g i j)) s → wpAny (model X.prog X.w) X.A (f (.int i t) (.int j u)) Q E s) :
    OpR X f (rI0 fun i j => .bl (g i j)) := by
  intro pins s σ H x y v u Q I rx ry h
  obtain ⟨i, j, rfl, rfl, q⟩ := h
  obtain ⟨t, rfl⟩ := rx
  obtain ⟨t', rfl⟩ := ry
  exact rule i j t t' s _ _ ⟨.bl (g i j), H, I, rfl, q⟩

def CDiv (i j : Int) : Prop := 0 < j ∧ j < 1073741824
def CDivN (i j : Int) : Prop := j ≠ 0 ∧ j.natAbs < 1073741824
def CPow (i j : Int) : Prop := 0 ≤ j ∧ j ≤ 1000000 ∧ i.natAbs < 2 ^ 64
def CMul (i j : Int) : Prop := (-(2 ^ 64) < i ∧ i < 2 ^ 64) ∨ (-(2 ^ 64) < j ∧ j < 2 ^ 64)
theorem CMul.ok {i j : Int} (h : CMul i j) : IntMulOk i j := by
  rcases h with ⟨h1, h2⟩ | ⟨h1, h2⟩
  · exact .of_left (intBits_le_64 h1 h2)
  · exact .of_right (intBits_le_64 h1 h2)

theorem op_add : OpR X (binaryOp .Add) (rI0 fun i j => .int (i + j)) := opI0 fun _ _ _ _ _ _ _ q => add_int q
theorem op_sub : OpR X (binaryOp .Sub) (rI0 fun i j => .int (i - j)) := opI0 fun _ _ _ _ _ _ _ q => sub_int q
theorem op_mul : OpR X (binaryOp .Mult) (rI CMul fun i j => .int (i * j)) := opI fun _ _ _ _ _ _ _ hc q => mul_int q hc.ok
/-- // by a positive divisor -/
theorem op_fdiv : OpR X (binaryOp .FloorDiv) (rI CDiv fun i j => .int (i / j)) := opI fun i j _ _ _ _ _ hc q => by
  have h1 : (0 : Int) < j := hc.1
  have h2 : j < 1073741824 := hc.2
  exact floordiv_int (by omega) (by rw [Int.fdiv_eq_ediv_of_nonneg i (by omega)]; exact q) (.inl (PyProof.noPylong_small (by omega)))
/-- % by a positive divisor of any size -/
theorem op_mod : OpR X (binaryOp .Mod) (rI (fun _ j => 0 < j) fun i j => .int (i % j)) := opI fun i j _ _ _ _ _ hc q => by
  have h1 : (0 : Int) < j := hc
  exact mod_int' (by omega) (by rw [Int.fmod_eq_emod_of_nonneg i (by omega)]; exact q)
theorem op_pow : OpR X (binaryOp .Pow) (rI CPow fun i j => .int (i ^ j.toNat)) := opI fun _ _ _ _ _ _ _ hc q => pow_int_small hc.1 hc.2.1 hc.2.2 q
theorem op_shl : OpR X (binaryOp .LShift) (rI CPow fun i j => .int (i * 2 ^ j.toNat)) := opI fun _ _ _ _ _ _ _ hc q => lshift_int_small hc.1 hc.2.1 hc.2.2 q



/-! ### bools among ints: n += (a < b) -/
end

/-! ### comparisons -/
/-- the scalars that == tells apart as data does -/
def scal : V → V → Bool
  | .non, .non => true | .non, .int _ => true | .int _, .non => true | .non, .bl _ => true | .bl _, .non => true | .non, .str _ => true | .str _, .non => true
  | .int _, .int _ => true | .bl _, .bl _ => true | .str _, .str _ => true | .byt _, .byt _ => true
  | .int _, .str _ => true | .str _, .int _ => true | .bl _, .str _ => true | .str _, .bl _ => true
  | _, _ => false
def rEq : R2 := fun x y H Q => scal x y = true ∧ Q (.bl (decide (x = y))) H
def rNe : R2 := fun x y H Q => scal x y = true ∧ Q (.bl (!decide (x = y))) H

theorem dec_int {i j : Int} : decide (V.int i = V.int j) = (i == j) := by
  rw [Bool.eq_iff_iff]
  simp
theorem dec_bl {i j : Bool} : decide (V.bl i = V.bl j) = (i == j) := by
  rw [Bool.eq_iff_iff]
  simp
theorem dec_str {i j : Str} : decide (V.str i = V.str j) = (i == j) := by
  rw [Bool.eq_iff_iff]
  simp
theorem dec_byt {i j : Array UInt8} : decide (V.byt i = V.byt j) = (i.toList == j.toList) := by
  rw [Bool.eq_iff_iff]
  cases i
  cases j
  simp

section
variable {X : Cx} {a b c : Expr} {ta tb tc : TE} {pos : Pos}
theorem fin_bl {pins : List (Addr × Obj)} {σ : St} {H : Hp} {s : Shared} {Q : VK} {k k' : Bool} (I : Inv X pins σ H s) (q : Q (.bl k) H) (e : k = k') : EP X pins σ Q (.bool k') s := by
  subst e
  exact ⟨.bl k, H, I, rfl, q⟩
theorem op_eq : OpR X (compareOp .Eq) rEq := by
  intro pins s σ H x y v u Q I rx ry h
  obtain ⟨hs, q⟩ := h
  cases x with
  | non =>
    cases rx
    cases y with
    | non => cases ry; exact PySem.EqNone.eq_none_none (fin_bl I q (by simp))
    | bl j => cases ry; exact PySem.EqNone.eq_none_bool (fin_bl I q (by simp))
    | int j => obtain ⟨t', rfl⟩ := ry; exact PySem.EqNone.eq_none_int (fin_bl I q (by simp))
    | str j => obtain ⟨t', rfl⟩ := ry; exact PySem.EqNone.eq_none_str (fin_bl I q (by simp))
    | _ => exact absurd (show false = true from hs) Bool.false_ne_true
  | bl i =>
    cases rx
    cases y with
    | non => cases ry; exact PySem.EqNone.eq_bool_none (fin_bl I q (by simp))
    | bl j => cases ry; exact eq_bool (fin_bl I q dec_bl)
    | str j => obtain ⟨t', rfl⟩ := ry; exact PySem.EqMixed.eq_bool_str (fin_bl I q (by simp))
    | _ => exact absurd (show false = true from hs) Bool.false_ne_true
  | int i =>
    obtain ⟨t, rfl⟩ := rx
    cases y with
    | non => cases ry; exact PySem.EqNone.eq_int_none (fin_bl I q (by simp))
    | int j => obtain ⟨t', rfl⟩ := ry; exact eq_int (fin_bl I q dec_int)
    | str j => obtain ⟨t', rfl⟩ := ry; exact PySem.EqMixed.eq_int_str (fin_bl I q (by simp))
    | _ => exact absurd (show false = true from hs) Bool.false_ne_true
  | str i =>
    obtain ⟨t, rfl⟩ := rx
    cases y with
    | non => cases ry; exact PySem.EqNone.eq_str_none (fin_bl I q (by simp))
    | bl j => cases ry; exact PySem.EqMixed.eq_str_bool (fin_bl I q (by simp))
    | int j => obtain ⟨t', rfl⟩ := ry; exact PySem.EqMixed.eq_str_int (fin_bl I q (by simp))
    | str j => obtain ⟨t', rfl⟩ := ry; exact eq_str (fin_bl I q dec_str)
    | _ => exact absurd (show false = true from hs) Bool.false_ne_true
  | byt i =>
    obtain ⟨t, rfl⟩ := rx
    cases y with
    | byt j => obtain ⟨t', rfl⟩ := ry; exact PySem.W.eq_bytes (fin_bl I q dec_byt)
    | _ => exact absurd (show false = true from hs) Bool.false_ne_true
  | _ => cases y <;> exact absurd (show false = true from hs) Bool.false_ne_true
theorem op_ne : OpR X (compareOp .NotEq) rNe := by
  intro pins s σ H x y v u Q I rx ry h
  obtain ⟨hs, q⟩ := h
  cases x with
  | non =>
    cases rx
    cases y with
    | non => cases ry; exact PySem.EqNone.ne_none_none (fin_bl I q (by simp))
    | bl j => cases ry; exact PySem.EqNone.ne_none_bool (fin_bl I q (by simp))
    | int j => obtain ⟨t', rfl⟩ := ry; exact PySem.EqNone.ne_none_int (fin_bl I q (by simp))
    | str j => obtain ⟨t', rfl⟩ := ry; exact PySem.EqNone.ne_none_str (fin_bl I q (by simp))
    | _ => exact absurd (show false = true from hs) Bool.false_ne_true
  | bl i =>
    cases rx
    cases y with
    | non => cases ry; exact PySem.EqNone.ne_bool_none (fin_bl I q (by simp))
    | bl j => cases ry; exact ne_bool (fin_bl I q (congrArg not dec_bl))
    | str j => obtain ⟨t', rfl⟩ := ry; exact PySem.EqMixed.ne_bool_str (fin_bl I q (by simp))
    | _ => exact absurd (show false = true from hs) Bool.false_ne_true
  | int i =>
    obtain ⟨t, rfl⟩ := rx
    cases y with
    | non => cases ry; exact PySem.EqNone.ne_int_none (fin_bl I q (by simp))
    | int j => obtain ⟨t', rfl⟩ := ry; exact ne_int (fin_bl I q (congrArg not dec_int))
    | str j => obtain ⟨t', rfl⟩ := ry; exact PySem.EqMixed.ne_int_str (fin_bl I q (by simp))
    | _ => exact absurd (show false = true from hs) Bool.false_ne_true
  | str i =>
    obtain ⟨t, rfl⟩ := rx
    cases y with
    | non => cases ry; exact PySem.EqNone.ne_str_none (fin_bl I q (by simp))
    | bl j => cases ry; exact PySem.EqMixed.ne_str_bool (fin_bl I q (by simp))
    | int j => obtain ⟨t', rfl⟩ := ry; exact PySem.EqMixed.ne_str_int (fin_bl I q (by simp))
    | str j => obtain ⟨t', rfl⟩ := ry; exact ne_str (fin_bl I q (congrArg not dec_str))
    | _ => exact absurd (show false = true from hs) Bool.false_ne_true
  | byt i =>
    obtain ⟨t, rfl⟩ := rx
    cases y with
    | byt j => obtain ⟨t', rfl⟩ := ry; exact PySem.W.ne_bytes (fin_bl I q (congrArg not dec_byt))
    | _ => exact absurd (show false = true from hs) Bool.false_ne_true
  | _ => cases y <;> exact absurd (show false = true from hs) Bool.false_ne_true

theorem op_lt : OpR X (compareOp .Lt) (rI0 fun i j => .bl (decide (i < j))) := opB0 fun _ _ _ _ _ _ _ q => lt_int q
theorem op_le : OpR X (compareOp .LtE) (rI0 fun i j => .bl (decide (i ≤ j))) := opB0 fun _ _ _ _ _ _ _ q => le_int q
theorem op_gt : OpR X (compareOp .Gt) (rI0 fun i j => .bl (decide (j < i))) := opB0 fun _ _ _ _ _ _ _ q => gt_int q
theorem op_ge : OpR X (compareOp .GtE) (rI0 fun i j => .bl (decide (j ≤ i))) := opB0 fun _ _ _ _ _ _ _ q => ge_int q

theorem op_notN : OpR X (compareOp .IsNot) (fun x y H Q => y = .non ∧ Q (.bl (!decide (x = .non))) H) := by
  intro pins s σ H x y v u Q I rx ry h
  obtain ⟨rfl, q⟩ := h
  cases ry
  refine isnot_none_gen (fin_bl I q ?_)
  cases x <;> first
    | (cases rx; rfl)
    | (obtain ⟨t, rfl⟩ := rx; rfl)

/-- is, is not of two objects that are tracked lists or instances -/
def isObj : HO → Bool
  | .lst _ => true
  | .ins _ _ _ => true
  | _ => false

/-- two rules for one operation: by cases -/
theorem OpR.or {f : Value → Value → Sem Value} {r r' : R2} (h : OpR X f r) (h' : OpR X f r') : OpR X f (fun x y H Q => r x y H Q ∨ r' x y H Q) := by
  intro pins s σ H x y v u Q I rx ry q
  rcases q with q | q
  · exact h pins s σ H x y v u Q I rx ry q
  · exact h' pins s σ H x y v u Q I rx ry q

theorem nomark (b : Expr) {op : CmpOp} (h : op ≠ .In := by decide) (h2 : op ≠ .NotIn := by decide) : behindInMarks op b = false := by
  have e1 : (op == CmpOp.In) = false := by cases op <;> first | rfl | exact absurd rfl h
  have e2 : (op == CmpOp.NotIn) = false := by cases op <;> first | rfl | exact absurd rfl h2
  cases b <;> simp [behindInMarks, e1, e2]
/-- a comparison as a value; hm: nomark b, or (for in, not in) by with_unfolding_all rfl -/
theorem pe_cmpR {op : CmpOp} {r : R2} (ho : OpR X (compareOp op) r) (ha : PE X a ta) (hb : PE X b tb) (hm : behindInMarks op b = false) : PE X (.Compare a [op] [b] pos) (tOp r ta tb) := by
  intro pins s σ H Q I h
  exact wpAny_Compare1 (binT ha hb I h fun v u s2 x y H2 I2 rx ry q => ho pins s2 σ H2 x y v u Q I2 rx ry q) hm
/-- a reading of a value as a test -/
def tTest (t : TE) : TT := fun σ H Q => t σ H fun x H' => ∃ k, x = .bl k ∧ Q k H'
theorem pt_cmpR {op : CmpOp} {r : R2} (ho : OpR X (compareOp op) r) (ha : PE X a ta) (hb : PE X b tb) (hm : behindInMarks op b = false) : PT X (.Compare a [op] [b] pos) (tTest (tOp r ta tb)) := by
  intro pins s σ H Q I h
  refine wpAny_isTrue_Compare1 (thn (ha pins s σ H _ I h) fun v s1 ⟨x, H1, I1, r1, q1⟩ => thn (hb pins s1 σ H1 _ I1 q1) fun u s2 ⟨y, H2, I2, r2, q2⟩ =>
    thn (ho pins s2 σ H2 x y v u _ I2 r1 r2 q2) fun c s3 ⟨z, H3, I3, r3, k, e, q3⟩ => ?_) hm
  subst e
  cases r3
  exact wpAny_truthy_bool ⟨H3, I3, q3⟩
/-- a op1 b op2 c -/
def tChain (r r' : R2) (ta tb tc : TE) : TE := fun σ H Q => ta σ H fun x H1 => tb σ H1 fun y H2 => r x y H2 fun z H3 => ∃ k, z = .bl k ∧
  (if k = true then tc σ H3 fun w' H4 => r' y w' H4 Q else Q (.bl false) H3)

/-! ### truth -/
/-- a value's truth by the abstract heap -/
def TruV (K : PySem.W.Frag) (x : V) (H : Hp) (k : Bool) : Prop :=
  match x with
  | .non => k = false
  | .bl b => k = b
  | .int i => k = (i != 0)
  | .str y => y.length ≤ sizeLine ∧ k = ((y.length : Int) != 0)
  | .byt y => y.size ≤ sizeLine ∧ k = ((y.size : Int) != 0)
  | .ref p => (∃ xs, SqL K H p xs ∧ k = !xs.isEmpty) ∨ (∃ xs, SqT K H p xs ∧ k = !xs.isEmpty) ∨ ∃ kvs, H p = some (.dK kvs) ∧ k = !kvs.isEmpty
  | _ => False
theorem line63 : (sizeLine : Nat) < 2 ^ 63 := by rw [sizeLine_eq]; decide

/-! ### strs and bytes -/

def PlainIxT (b : Expr) : Prop := ∀ o i, subscripted b false o i = operate [o, i] (getItem o i)

/-! ### scalar builtins, by CallR -/
theorem vals1 {x : V} {us : List Value} (r : Vals [x] us) : ∃ u, us = [u] ∧ RelV x u := by
  cases r with
  | cons r1 r2 => cases r2; exact ⟨_, rfl, r1⟩
theorem vals2 {x y : V} {us : List Value} (r : Vals [x, y] us) : ∃ u w', us = [u, w'] ∧ RelV x u ∧ RelV y w' := by
  cases r with
  | cons r1 r2 =>
    cases r2 with
    | cons r3 r4 => cases r4; exact ⟨_, _, rfl, r1, r3⟩
theorem call_min2 (hc : X.calm = true) : CallR X (.builtin "min") (fun xs H Q => ∃ i j, xs = [.int i, .int j] ∧ Q (.int (if j < i then j else i)) H) := by
  intro pins s σ H xs us Q I r h
  obtain ⟨i, j, rfl, q⟩ := h
  obtain ⟨u, w', rfl, ⟨t, rfl⟩, ⟨t', rfl⟩⟩ := vals2 r
  refine min_two_ints (I.ok.hd hc) fun h' tk k => ⟨_, H, I.kept k, ?_, q⟩
  by_cases hj : j < i
  · rw [if_pos hj, if_pos hj]; exact ⟨_, rfl⟩
  · rw [if_neg hj, if_neg hj]; exact ⟨_, rfl⟩
theorem call_int1 : CallR X (.type "int") (fun xs H Q => (∃ i, xs = [.int i] ∧ Q (.int i) H) ∨ ∃ k, xs = [.bl k] ∧ Q (.int (if k then 1 else 0)) H) := by
  intro pins s σ H xs us Q I r h
  rcases h with ⟨i, rfl, q⟩ | ⟨k, rfl, q⟩
  · obtain ⟨u, rfl, t, rfl⟩ := vals1 r
    exact call_int_int ⟨.int i, H, I, ⟨_, rfl⟩, q⟩
  · obtain ⟨u, rfl, r1⟩ := vals1 r
    cases r1
    exact call_int_bool ⟨.int (if k then 1 else 0), H, I.tok _, ⟨_, rfl⟩, q⟩
/-- len of a str, a bytes, a list, a tuple -/
def LenV (K : PySem.W.Frag) (x : V) (H : Hp) (n : Nat) : Prop :=
  match x with
  | .str y => y.length ≤ sizeLine ∧ n = y.length
  | .byt y => y.size ≤ sizeLine ∧ n = y.size
  | .ref p => (∃ xs, SqL K H p xs ∧ n = xs.length) ∨ ∃ xs, SqT K H p xs ∧ n = xs.length
  | _ => False
end
end L2

namespace L2
open PySem PySem.Spec PyProof.Rows

/-! ### an instance, its attributes a map -/
structure ObjM (h : Heap) (x dx C : Addr) (mA : Str → Option Value) : Prop where
  obj : h.get? x = some (PySem.W.instObj C dx)
  ns : h.Ns1 dx mA
  ne : dx ≠ x

theorem lookIn_ns {h : Heap} {dx : Addr} {mA : Str → Option Value} (n : h.Ns1 dx mA) : ∃ od, h.get? dx = some od ∧ ∀ name, PySem.W.lookIn name od = some (mA name) := by
  obtain ⟨o, es, ep, ho, hd, hk, _, hm⟩ := n
  refine ⟨o, ho, fun name => ?_⟩
  have e := hm name
  unfold nsFind findBy at e
  rw [← Array.find?_toList] at e
  unfold PySem.W.lookIn
  rw [hd]
  dsimp only
  split
  · rename_i y q
    rw [q] at e
    exact congrArg some e
  · rename_i q
    rw [q] at e
    have a : es.toList.any (·.refKey) = false := by
      rw [List.any_eq_false]
      intro y hy
      obtain ⟨z, t, hkey⟩ := hk y (Array.mem_toList_iff.mp hy)
      simp [DictEntry.refKey, hkey]
    have a' : ¬ es.toList.any (·.refKey) = true := by rw [a]; exact Bool.false_ne_true
    rw [if_neg a']
    exact congrArg some e

theorem ObjM.look {h : Heap} {x dx C : Addr} {mA : Str → Option Value} (I : ObjM h x dx C mA) : ∃ od, PySem.W.InstAt h x (PySem.W.instObj C dx) C (some od) ∧ ∀ name, PySem.W.lookIn name od = some (mA name) :=
  let ⟨od, ho, hl⟩ := lookIn_ns I.ns
  ⟨od, ⟨I.obj, rfl, rfl, ho⟩, hl⟩

section
variable {prog : Program} {w : World} {A : Around} {E : Value → Shared → Prop} {s : Shared} {K : PySem.W.Frag} {x dx C f : Addr} {mA : Str → Option Value} {name : Str} {v : Value}





end

/-! ### the attributes as a list of pairs -/
def putF (f : Str) (v : V) : List (Str × V) → List (Str × V)
  | [] => [(f, v)]
  | (g, x) :: r => if g = f then (g, v) :: r else (g, x) :: putF f v r

theorem RelO.some_of {v : V} {o : Option Value} (r : RelO (some v) o) : ∃ u, o = some u ∧ RelV v u := by
  cases o with
  | none => exact (show False from r).elim
  | some u => exact ⟨u, rfl, r⟩

section
variable {P : Program} {w : World} {H H' : Hp} {h h' : Heap} {a C dx : Addr} {fs fs' : List (Str × V)}
theorem ins_get (hok : HOk P w H h) (e : H a = some (.ins C dx fs)) : ∃ mA, ObjM h a dx C mA ∧ (∀ f, RelO (fs.lookup f) (mA f)) ∧ PySem.Within mA (fs.map (·.1)) ∧ fs.length ≤ 1000 ∧ H dx = some (.own a) := by
  obtain ⟨d, z, ne, ob, mA, n, r, q⟩ := (show ObjOk P w H h a (.ins C dx fs) from hok a _ e)
  exact ⟨mA, ⟨ob, n, ne⟩, r, q, z, d⟩
end

/-! ### what of the text a class must have -/
structure Cls (K : PySem.W.Frag) (C : Addr) : Prop where
  pg : PySem.W.plainGet K C Str.empty = true
  hd : PySem.W.hasDictIn K C = true
  po : PySem.W.plainOver K C = true
  sa : PySem.W.findIn K (.ref C) "__setattr__" = some (some (.builtin "object.__setattr__"))
theorem Cls.get {K : PySem.W.Frag} {C : Addr} (c : Cls K C) (f : Str) : PySem.W.plainGet K C f = true := c.pg
/-- no class of it has the name -/
def NoAttr (K : PySem.W.Frag) (C : Addr) (f : Str) : Prop := PySem.W.findIn K (.ref C) f = some none
/-- a constant of the class -/
structure Con (K : PySem.W.Frag) (C : Addr) (f : Str) (v : V) (u : Value) : Prop where
  at_ : PySem.W.findIn K (.ref C) f = some (some u)
  rel : RelV v u
  get : PySem.W.specialIn K u "__get__" = some none
  cp : PySem.W.copiedNames.contains f = false
/-- a method: a plain def of the class or of one above it -/
structure Meth (K : PySem.W.Frag) (C : Addr) (m : Str) (f : Addr) : Prop where
  at_ : PySem.W.findIn K (.ref C) m = some (some (.ref f))
  fn : PySem.W.isFn K (.ref f) = true
  kp : PySem.W.keepIn K (.ref f) = true

section
variable {X : Cx} {pins : List (Addr × Obj)} {σ : St} {H : Hp} {s : Shared} {a C dx : Addr} {fs : List (Str × V)} {f : Str} {v : V} {A : Around} {E : Value → Shared → Prop}





/-- a new instance, tracked, without attributes -/
theorem Inv.made (I : Inv X pins σ H s) : Inv X pins σ (upd (upd H s.heap.objs.size (.own (s.heap.objs.size + 1))) (s.heap.objs.size + 1) (.ins C s.heap.objs.size []))
    { s with heap := (s.heap.push PySem.W.emptyDict).push (PySem.W.instObj C s.heap.objs.size) } := by
  have e1 : (s.heap.push PySem.W.emptyDict).get? s.heap.objs.size = some PySem.W.emptyDict := Heap.get?_push_size s.heap rfl
  have e2 : ((s.heap.push PySem.W.emptyDict).push (PySem.W.instObj C s.heap.objs.size)).get? (s.heap.objs.size + 1) = some (PySem.W.instObj C s.heap.objs.size) := by
    have := Heap.get?_push_size (s.heap.push PySem.W.emptyDict) (o := PySem.W.instObj C s.heap.objs.size) rfl
    rwa [Heap.size_push] at this
  have e3 : (s.heap.push PySem.W.emptyDict).Ns s.heap.objs.size (fun _ => none) := ⟨PySem.W.emptyDict, #[], _, e1, rfl, (fun e he => absurd he (by simp)), fun _ => rfl⟩
  have I1 := I.laid (a := s.heap.objs.size) (o := .own (s.heap.objs.size + 1)) (h' := s.heap.push PySem.W.emptyDict) (t' := s.toks) (fun b u q => Heap.get?_push_of_some _ q) (Nat.le_refl _) ⟨_, e1⟩
  refine I1.laid (a := s.heap.objs.size + 1) (o := .ins C s.heap.objs.size []) (t' := s.toks) (fun b u q => Heap.get?_push_of_some _ q) (Nat.le_of_eq (Heap.size_push _ _)) ?_
  have ne : s.heap.objs.size ≠ s.heap.objs.size + 1 := Nat.ne_of_lt (Nat.lt_succ_self _)
  refine ⟨by rw [upd_ne ne, upd_same], Nat.zero_le _, ne, e2, fun _ => none, (Heap.Ns1.of_empty e3).at fun o q => Heap.get?_push_of_some _ q, fun _ => True.intro, fun y hy => absurd rfl hy⟩

end

/-! ### readings and rules -/
/-- e.f, an attribute of the instance -/
def tFld (K : PySem.W.Frag) (ta : TE) (f : Str) : TE := fun σ H Q => ta σ H fun x H1 => ∃ a C dx fs v, x = .ref a ∧ H1 a = some (.ins C dx fs) ∧ Cls K C ∧ NoAttr K C f ∧ fs.lookup f = some v ∧ Q v H1
/-- e.f, a constant of the class -/
def tCon (K : PySem.W.Frag) (ta : TE) (f : Str) : TE := fun σ H Q => ta σ H fun x H1 => ∃ a C dx fs v u, x = .ref a ∧ H1 a = some (.ins C dx fs) ∧ Cls K C ∧ Con K C f v u ∧ fs.lookup f = none ∧ Q v H1
/-- e.f = value -/
def sFld (K : PySem.W.Frag) (ta tv : TE) (f : Str) : TS := fun D σ H => tv σ H fun y H1 => ta σ H1 fun x H2 => ∃ a C dx fs, x = .ref a ∧ H2 a = some (.ins C dx fs) ∧ Cls K C ∧ NoAttr K C f ∧ fs.length < 1000 ∧
  D.nx σ (upd H2 a (.ins C dx (putF f y fs)))
/-- an augmented operator on two values -/
def InOp (X : Cx) (op : Operator) (rd : V → V → Hp → VK → Prop) : Prop :=
  ∀ (pins : List (Addr × Obj)) (s : Shared) (σ : St) (H : Hp) (x y : V) (u v : Value) (Q : VK), Inv X pins σ H s → RelV x u → RelV y v → rd x y H Q → wpAny (model X.prog X.w) X.A (inplaceOp op u v) (EP X pins σ Q) X.xe s
/-- e.f op= value -/
def sFldAug (K : PySem.W.Frag) (ta tv : TE) (rd : V → V → Hp → VK → Prop) (f : Str) : TS := fun D σ H => ta σ H fun x H1 => ∃ a C dx fs v, x = .ref a ∧ H1 a = some (.ins C dx fs) ∧ Cls K C ∧ NoAttr K C f ∧ fs.lookup f = some v ∧
  tv σ H1 fun y H2 => rd v y H2 fun z H3 => ∃ dx' fs', H3 a = some (.ins C dx' fs') ∧ fs'.length < 1000 ∧ D.nx σ (upd H3 a (.ins C dx' (putF f z fs')))

section
variable {X : Cx} {o e value : Expr} {f : Str} {pos pos' tpos : Pos} {ta tv : TE}
def rAdd : V → V → Hp → VK → Prop := fun x y H Q => ∃ i j, x = .int i ∧ y = .int j ∧ Q (.int (i + j)) H
def rSub : V → V → Hp → VK → Prop := fun x y H Q => ∃ i j, x = .int i ∧ y = .int j ∧ Q (.int (i - j)) H

end

/-! ### isinstance -/
section
variable {X : Cx} {pins : List (Addr × Obj)} {σ : St} {H : Hp} {s : Shared} {A : Around} {E : Value → Shared → Prop} {Q : Value → Shared → Prop} {c : Value} {b : Bool}
/-- the type of a value, as the fragment's deciders take it; for an instance its class -/
inductive TyOf (K : PySem.W.Frag) (H : Hp) : V → Value → Prop where
  | non : TyOf K H .non (.type "NoneType")
  | bl (x : Bool) : TyOf K H (.bl x) (.type "bool")
  | int (i : Int) : TyOf K H (.int i) (.type "int")
  | str (x : Str) : TyOf K H (.str x) (.type "str")
  | flt (x : UInt64) : TyOf K H (.flt x) (.type "float")
  | lst {a : Addr} {xs : List V} (e : H a = some (.lst xs)) : TyOf K H (.ref a) (.type "list")
  | frz {a : Addr} {o : Obj} {xs : List V} (e : H a = some (.frz o (.lst xs))) : TyOf K H (.ref a) (.type "list")
  | tup {a : Addr} {xs : List V} (e : H a = some (.tup xs)) : TyOf K H (.ref a) (.type "tuple")
  | dK {a : Addr} {kvs : List (Key × V)} (e : H a = some (.dK kvs)) : TyOf K H (.ref a) (.type "dict")
  | dT {a : Addr} {kvs : List (List Key × V)} (e : H a = some (.dT kvs)) : TyOf K H (.ref a) (.type "dict")
  | ins {a C dx : Addr} {fs : List (Str × V)} (e : H a = some (.ins C dx fs)) (cl : Cls K C) (ha : PySem.W.findIn K (.ref C) "__class__" = some (some (.builtin "object.__class__")))
      (hn : PySem.W.specialIn K (.builtin "object.__class__") "__get__" = some (some (.builtin "getset_descriptor.__get__"))) (htk : PySem.W.takesIn K (.builtin "object.__class__") = some true)
      (hm : PySem.W.mroIn K C (.type "object") = some true) : TyOf K H (.ref a) (.ref C)
/-- isinstance(x, c) for one class c, a built-in or an own one: kitOne's answer -/
theorem isinst_ok {x : V} {u t : Value} (I : Inv X pins σ H s) (rx : RelV x u) (ty : TyOf X.K H x t) (e : PySem.W.kitOne X.K t c = some b) (h : ∀ tk, Q (.bool b) { s with toks := tk }) :
    wpAny (model X.prog X.w) A (call (.builtin "isinstance") [u, c]) Q E s := by
  cases ty with
  | non => cases (show u = Value.none from rx); exact PySem.W.kia_one PySem.W.kitx_none I.kIn True.intro e (fun z => nomatch z) h
  | bl y => cases (show u = Value.bool y from rx); exact PySem.W.kia_one PySem.W.kitx_bool I.kIn True.intro e (fun z => nomatch z) h
  | int i => obtain ⟨t, q⟩ := (show ∃ t, u = Value.int i t from rx); cases q; exact PySem.W.kia_one PySem.W.kitx_int I.kIn True.intro e (fun z => nomatch z) h
  | str y => obtain ⟨t, q⟩ := (show ∃ t, u = Value.str y t from rx); cases q; exact PySem.W.kia_one PySem.W.kitx_str I.kIn True.intro e (fun z => nomatch z) h
  | flt y => obtain ⟨t, q⟩ := (show ∃ t, u = Value.float y t from rx); cases q; exact PySem.W.kia_one PySem.W.kitx_float I.kIn True.intro e (fun z => nomatch z) h
  | @lst a xs ea =>
    cases (show u = Value.ref a from rx)
    obtain ⟨_, _, n, _, h1⟩ := (show ObjOk X.prog X.w H s.heap a (.lst xs) from I.hok a _ ea)
    exact PySem.W.kia_one PySem.W.kitx_list I.kIn ⟨_, h1, rfl⟩ e (fun z => nomatch z) h
  | @frz a ob xs ea =>
    cases (show u = Value.ref a from rx)
    obtain ⟨_, _, _, n, _, h1⟩ := (show ObjOk X.prog X.w H s.heap a (.frz ob (.lst xs)) from I.hok a _ ea)
    exact PySem.W.kia_one PySem.W.kitx_list I.kIn ⟨_, h1, rfl⟩ e (fun z => nomatch z) h
  | @tup a xs ea =>
    cases (show u = Value.ref a from rx)
    obtain ⟨_, _, _, p⟩ := (show ObjOk X.prog X.w H s.heap a (.tup xs) from I.hok a _ ea)
    obtain ⟨o, h1, h2, _⟩ := p
    exact PySem.W.kia_one PySem.W.kitx_tuple I.kIn ⟨o, h1, h2.1⟩ e (fun z => nomatch z) h
  | @dK a kvs ea =>
    cases (show u = Value.ref a from rx)
    obtain ⟨_, _, vs, _, p⟩ := (show ObjOk X.prog X.w H s.heap a (.dK kvs) from I.hok a _ ea)
    obtain ⟨o, es, ep, h1, h2, _⟩ := p
    exact PySem.W.kia_one PySem.W.kitx_dict I.kIn ⟨o, h1, h2.1⟩ e (fun z => nomatch z) h
  | @dT a kvs ea =>
    cases (show u = Value.ref a from rx)
    obtain ⟨_, _, xs, _, o, es, ep, h1, h2, _⟩ := (show ObjOk X.prog X.w H s.heap a (.dT kvs) from I.hok a _ ea)
    exact PySem.W.kia_one PySem.W.kitx_dict I.kIn ⟨o, h1, h2.1⟩ e (fun z => nomatch z) h
  | @ins a C dx fs ea cl ha hn htk hm =>
    cases (show u = Value.ref a from rx)
    obtain ⟨mA, O, _⟩ := ins_get I.hok ea
    obtain ⟨od, J, _⟩ := O.look
    exact PySem.W.kia_one (PySem.W.kitx_own (cl.get _) cl.hd ha hn htk hm) I.kIn J e (fun z => nomatch z) h
end
end L2

namespace L2
open PySem PySem.Spec PyProof.Rows

/-! ### room -/
structure Room (k : Nat) (A : Around) : Prop where
  hd : A.handled = none
  dp : A.depth + 3 * k + 5 < recursionLimit
  un : A.units + 16 * k + 200 < cLine
theorem Room.mono {j k : Nat} {A : Around} (r : Room k A) (h : j ≤ k) : Room j A := ⟨r.hd, by have := r.dp; omega, by have := r.un; omega⟩
theorem Room.deeper {k : Nat} {A : Around} (r : Room (k + 1) A) (env : Env) : Room k (A.deeper env) :=
  ⟨r.hd, by have := r.dp; show A.depth + 1 + 3 * k + 5 < _; omega, by have := r.un; show A.units + 3 + 16 * k + 200 < _; omega⟩
theorem Room.in1 {k : Nat} {A : Around} (r : Room (k + 1) A) : Room k A.in1 :=
  ⟨r.hd, by have := r.dp; show A.depth + 3 * k + 5 < _; omega, by have := r.un; show A.units + 1 + 16 * k + 200 < _; omega⟩
theorem Room.depth {k : Nat} {A : Around} (r : Room k A) : A.depth < recursionLimit := by have := r.dp; omega
theorem Room.units {k : Nat} {A : Around} (r : Room k A) : A.units + 64 < cLine := by have := r.un; omega

/-! ### argument lists and displays -/
def tNil : TA := fun _ H Q => Q [] H
def tCons (ta : TE) (tr : TA) : TA := fun σ H Q => ta σ H fun x H1 => tr σ H1 fun xs H2 => Q (x :: xs) H2
section
variable {X : Cx} {e : Expr} {es : List Expr} {te : TE} {t : TA} {pos : Pos}
theorem pa_nil : PA X [] tNil := fun _ _ _ _ H Q I h => Calls.spliced_nil ⟨[], H, I, .nil, h⟩
theorem pa_cons (ha : PE X e te) (hr : PA X es t) (hs : starEach (e :: es) X.env = (false, eval e X.env) :: starEach es X.env := by rfl) : PA X (e :: es) (tCons te t) := by
  intro pos pins s σ H Q I h
  rw [hs]
  show wpAny _ _ (spliced ((false, eval e X.env) :: backTo pos (starEach es X.env))) _ _ s
  refine Calls.spliced_cons (thn (ha pins s σ H _ I h) fun u s1 ⟨x, H1, I1, r1, q1⟩ => ?_)
  exact thn (hr pos pins s1 σ H1 _ I1 q1) fun us s2 ⟨xs, H2, I2, r2, q2⟩ => ⟨x :: xs, H2, I2, .cons r1 r2, q2⟩

/-- a tuple, a list of written items -/
def tTup (t : TA) : TE := fun σ H Q => t σ H fun xs H1 => xs.length ≤ sizeLine ∧ ∀ p, H1 p = none → Q (.ref p) (upd H1 p (.tup xs))
def tLst (t : TA) : TE := fun σ H Q => t σ H fun xs H1 => xs.length ≤ sizeLine ∧ ∀ p, H1 p = none → Q (.ref p) (upd H1 p (.lst xs))
theorem pe_tup {x1} (h : PA X es t) : PE X (.Tuple es x1 pos) (tTup t) := by
  intro pins s σ H Q I hq
  refine wpAny_Tuple_spliced (thn (h pos pins s σ H _ I hq) fun us s1 ⟨xs, H1, I1, r, z, q⟩ => ⟨by rw [← r.length]; exact z, ?_⟩)
  have hf : H1 s1.heap.objs.size = none := I1.hok.fresh (Nat.le_refl _)
  refine ⟨.ref s1.heap.objs.size, upd H1 s1.heap.objs.size (.tup xs), I1.laid (t' := s1.toks) (fun b u e => Heap.get?_push_of_some _ e) (Nat.le_refl _) ?_, rfl, q _ hf⟩
  exact ⟨z, us, r, TupN.new _ _⟩
theorem pe_lst (h : PA X es t) : PE X (.List es pos) (tLst t) := by
  intro pins s σ H Q I hq
  refine wpAny_List_spliced (thn (h pos pins s σ H _ I hq) fun us s1 ⟨xs, H1, I1, r, z, q⟩ => ⟨by rw [← r.length]; exact z, ?_⟩)
  have hf : H1 s1.heap.objs.size = none := I1.hok.fresh (Nat.le_refl _)
  refine ⟨.ref s1.heap.objs.size, upd H1 s1.heap.objs.size (.lst xs), I1.laid (t' := s1.toks) (fun b u e => Heap.get?_push_of_some _ e) (Nat.le_refl _) ?_, rfl, q _ hf⟩
  exact ⟨z, us, 0, r, Heap.get?_push_size _ rfl⟩
end

/-! ### what a def promises -/
/-- a def's promise: the bound arguments in the parameters' order, the heap, the wanted end, the wanted exception -/
abbrev Sp := List V → Hp → VK → XK → Prop
/-- how an exception lies behind a call (file 08 gives it): the callers' frames, abstract heap and state ahead of the call, the wish, the exception, the state -/
abbrev CXT := List Env → Hp → Shared → XK → Value → Shared → Prop

/-- the state at a call -/
structure Env0 (P : Program) (w : World) (K : PySem.W.Frag) (mg : Str → Option Value) (base : Heap) (A : Around) (outer : List Env) (s : Shared) (H : Hp) : Prop where
  frames : A.frames = some outer
  mod : Mod K mg base
  bs : ∀ b o, base.get? b = some o → s.heap.get? b = some o ∧ H b = none
  bsz : base.objs.size ≤ s.heap.objs.size
  funs : s.heap.FunFrames base outer
  frf : ∀ b ∈ frs outer, H b = none
  hok : HOk P w H s.heap
  bare : AllBare s.gens
/-- a call's end -/
def CE (outer : List Env) (P : Program) (w : World) (H : Hp) (s : Shared) (Q : VK) (u : Value) (s' : Shared) : Prop :=
  ∃ v H', s'.os = s.os ∧ AllBare s'.gens ∧ Un (frs outer) [] H H' s.heap s'.heap ∧ HOk P w H' s'.heap ∧ RelV v u ∧ Q v H'
def CR (CX : CXT) (outer : List Env) (P : Program) (w : World) (H : Hp) (s : Shared) (Q : VK) (E : XK) (r : Result) (s' : Shared) : Prop :=
  match r with
  | .ok (.ret u) => CE outer P w H s Q u s'
  | .ok _ => False
  | .error e => CX outer H s E e s'
structure FnOk (P : Program) (w : World) (K : PySem.W.Frag) (mg : Str → Option Value) (base : Heap) (CX : CXT) (k : Nat) (f : Addr) (fd : FuncData) (ps : List Str) (sp : Sp) : Prop where
  len : ∀ vs H Q E, sp vs H Q E → vs.length = ps.length
  run : ∀ (A : Around) (outer : List Env) (s : Shared) (H : Hp) (args : Args) (us : List Value) (vs : List V) (Q : VK) (E : XK), Room k A → Env0 P w K mg base A outer s H → BindsTo s fd args (ps.zip us) → Vals vs us → sp vs H Q E →
    codeAny (model P w) A (.call (.ref f) args) (CR CX outer P w H s Q E) s
theorem FnOk.mono {P : Program} {w : World} {K : PySem.W.Frag} {mg : Str → Option Value} {base : Heap} {CX : CXT} {j k : Nat} {f : Addr} {fd : FuncData} {ps : List Str} {sp : Sp} (F : FnOk P w K mg base CX j f fd ps sp) (h : j ≤ k) :
    FnOk P w K mg base CX k f fd ps sp := ⟨F.len, fun A outer s H args us vs Q E hr => F.run A outer s H args us vs Q E (hr.mono h)⟩
/-- a weaker promise -/
theorem FnOk.imp {P : Program} {w : World} {K : PySem.W.Frag} {mg : Str → Option Value} {base : Heap} {CX : CXT} {k : Nat} {f : Addr} {fd : FuncData} {ps : List Str} {sp sp' : Sp} (F : FnOk P w K mg base CX k f fd ps sp)
    (h : ∀ vs H Q E, sp' vs H Q E → sp vs H Q E) : FnOk P w K mg base CX k f fd ps sp' :=
  ⟨fun vs H Q E q => F.len vs H Q E (h _ _ _ _ q), fun A outer s H args us vs Q E hr he hb hv hs => F.run A outer s H args us vs Q E hr he hb hv (h _ _ _ _ hs)⟩

theorem Env0.in1 {P : Program} {w : World} {K : PySem.W.Frag} {mg : Str → Option Value} {base : Heap} {A : Around} {outer : List Env} {s : Shared} {H : Hp} (e : Env0 P w K mg base A outer s H) :
    Env0 P w K mg base A.in1 outer s H := ⟨e.frames, e.mod, e.bs, e.bsz, e.funs, e.frf, e.hok, e.bare⟩

section
variable {X : Cx} {pins : List (Addr × Obj)} {σ : St} {H : Hp} {s s' : Shared}
/-- from a body: what a callee wants -/
theorem Inv.env0 (I : Inv X pins σ H s) : Env0 X.prog X.w X.K X.mg X.base X.A X.stack s H :=
  ⟨I.ok.frames, I.ok.mod, I.bs, Nat.le_trans I.ok.bsz I.sz, I.stack, I.stkFree, I.hok, I.bare⟩
/-- behind a call -/
theorem Inv.after {Q : VK} {u : Value} (I : Inv X pins σ H s) (h : CE X.stack X.prog X.w H s Q u s') : EP X pins σ Q u s' := by
  obtain ⟨v, H', os, bare, un, hok, r, q⟩ := h
  obtain ⟨hh, g, d, t, os'⟩ := s'
  obtain rfl : os' = s.os := os
  exact ⟨v, H', I.call (h' := hh) (g' := g) (d' := d) (t' := t) (ch := []) un hok bare (fun b z => absurd z (by simp)), r, q⟩
end

/-! ### calls -/
/-- f(..): the written arguments, then the defaults dvs; E: what is wanted of an exception -/
def tCall (sp : Sp) (dvs : List V) (E : XK) (t : TA) : TE := fun σ H Q => t σ H fun vs H1 => sp (vs ++ dvs) H1 Q E
/-- o.m(..) of an instance of the class at C -/
def tMeth (C : Addr) (m : Str) (sp : Sp) (dvs : List V) (E : XK) (ta : TE) (t : TA) : TE := fun σ H Q => ta σ H fun x H1 => ∃ a dx fs, x = .ref a ∧ H1 a = some (.ins C dx fs) ∧ fs.lookup m = none ∧
  t σ H1 fun vs H2 => sp (x :: (vs ++ dvs)) H2 Q E
/-- C(..): a new instance and its dict, then __init__ -/
def tMake (C : Addr) (sp : Sp) (dvs : List V) (E : XK) (t : TA) : TE := fun σ H Q => t σ H fun vs H1 => ∀ x dx, H1 x = none → H1 dx = none → dx ≠ x →
  sp (.ref x :: (vs ++ dvs)) (upd (upd H1 dx (.own x)) x (.ins C dx [])) (fun v H2 => v = .non ∧ Q (.ref x) H2) E

/-- how the parameters are bound: us the positional arguments, kw the keywords' values by name, ds the defaults that fill up -/
def Binds (K : PySem.W.Frag) (fd : FuncData) (ps : List Str) (ds : List Value) : Prop :=
  ∀ (s : Shared) (us : List Value), K.In s.heap → (us ++ ds).length = ps.length → BindsTo s fd ⟨us, []⟩ (ps.zip (us ++ ds))
/-- every parameter is given -/
theorem Binds.all {K : PySem.W.Frag} {fd : FuncData} {ps : List Str} (h : ∀ us : List Value, us.length = ps.length → bindArgs fd ⟨us, []⟩ = pure (ps.zip us)) : Binds K fd ps [] := fun s us _ hl => by
  rw [List.append_nil] at hl ⊢
  exact .of_eq (h us hl)

/-- an exception of a callee reaches what this body wants of exceptions -/
def Passes (CX : CXT) (X : Cx) (E : XK) : Prop := ∀ (pins : List (Addr × Obj)) (σ : St) (H : Hp) (s : Shared) (e : Value) (s' : Shared), Inv X pins σ H s → CX X.stack H s E e s' → X.xe e s'

section
variable {X : Cx} {CX : CXT} {k : Nat} {f C : Addr} {fd : FuncData} {ps : List Str} {sp : Sp} {dvs : List V} {ds : List Value} {E : XK} {x m : Str} {p pos apos : Pos} {e o : Expr} {es : List Expr} {ta : TE} {t : TA}

/-- the callee runs -/
theorem run_fn {pins : List (Addr × Obj)} {σ : St} {H : Hp} {s : Shared} {Q : VK} {us : List Value} {vs : List V} (F : FnOk X.prog X.w X.K X.mg X.base CX k f fd ps sp) (hr : Room k X.A) (hb : Binds X.K fd ps ds) (hd : Vals dvs ds) (hx : Passes CX X E)
    (I : Inv X pins σ H s) (r : Vals vs us) (h : sp (vs ++ dvs) H Q E) : wpAny (model X.prog X.w) X.A (call (.ref f) us) (EP X pins σ Q) X.xe s := by
  have r2 : Vals (vs ++ dvs) (us ++ ds) := r.append hd
  have hl : (us ++ ds).length = ps.length := by rw [← r2.length]; exact F.len _ _ _ _ h
  refine wpAny_call (codeAny_mono (F.run X.A X.stack s H ⟨us, []⟩ (us ++ ds) (vs ++ dvs) Q E hr I.env0 (hb s us I.kIn hl) r2 h) fun r s' hq => ?_)
  cases r with
  | error e => exact hx pins σ H s e s' I hq
  | ok fl =>
    cases fl with
    | ret u => exact I.after hq
    | next => exact False.elim hq
    | brk => exact False.elim hq
    | cont => exact False.elim hq

theorem pe_call (F : FnOk X.prog X.w X.K X.mg X.base CX k f fd ps sp) (hr : Room k X.A) (hg : Gl X x) (hm : X.mg x = some (.ref f)) (hk : PySem.W.keepIn X.K (.ref f) = true) (hb : Binds X.K fd ps ds) (hd : Vals dvs ds) (hx : Passes CX X E)
    (ha : PA X (e :: es) t) (hdb : (x == ("__debug__" : Str)) = false := by decide) (he : starEach (e :: es) X.env = (false, eval e X.env) :: starEach es X.env := by rfl) (hpl : (backTo pos (starEach es X.env)).any (·.1) = false := by rfl) :
    PE X (.Call (.Name x p) (e :: es) [] pos) (tCall sp dvs E t) := by
  intro pins s σ H Q I h
  refine wpAny_Call_Name_kw (ld_glob I hg hm ?_ hdb)
  refine PySem.W.callWith_K (h₀ := X.base) I.ok.mod.kin hk (thn (ha pos pins s σ H _ I h) fun us s1 ⟨vs, H1, I1, r, q⟩ => ⟨I1.kIn, ?_⟩) he hpl
  exact run_fn F hr hb hd hx I1 r q


/-- what a class must have to be made -/
structure Mk (K : PySem.W.Frag) (C f : Addr) : Prop where
  makes : PySem.W.makesIn K C = true
  init : PySem.W.findIn K (.ref C) "__init__" = some (some (.ref f))
  fn : PySem.W.isFn K (.ref f) = true
  kp : PySem.W.keepIn K (.ref C) = true

end

/-! ### keywords -/
/-- the values of the keywords, from the left -/
def PK (X : Cx) (kws : List Keyword) (t : TA) : Prop :=
  ∀ (pos : Pos) (pins : List (Addr × Obj)) (s : Shared) (σ : St) (H : Hp) (Q : List V → Hp → Prop), Inv X pins σ H s → t σ H Q → wpAny (model X.prog X.w) X.A (evalAll ((backToKw pos (keywordEach kws X.env)).map (·.2))) (AP X pins σ Q) X.xe s
section
variable {X : Cx} {CX : CXT} {k : Nat} {f C : Addr} {fd : FuncData} {ps ks : List Str} {sp : Sp} {E : XK} {x m : Str} {p pos apos kpos : Pos} {e o : Expr} {es : List Expr} {kws : List Keyword} {te ta : TE} {t tk : TA} {nm : Option Str}

/-- how a call with keywords binds: g puts the positional values us and the keywords' values ws (names ks) in the parameters' order, defaults among them -/
structure KBinds (K : PySem.W.Frag) (fd : FuncData) (ps ks : List Str) (g : List Value → List Value → List Value) (gV : List V → List V → List V) : Prop where
  to : ∀ (s : Shared) (us ws : List Value), K.In s.heap → (g us ws).length = ps.length → BindsTo s fd ⟨us, ks.zip ws⟩ (ps.zip (g us ws))
  rel : ∀ {vs : List V} {us : List Value} {zs : List V} {ws : List Value}, Vals vs us → Vals zs ws → Vals (gV vs zs) (g us ws)
def tCallK (sp : Sp) (gV : List V → List V → List V) (E : XK) (t tk : TA) : TE := fun σ H Q => t σ H fun vs H1 => tk σ H1 fun zs H2 => sp (gV vs zs) H2 Q E
variable {g : List Value → List Value → List Value} {gV : List V → List V → List V}
end

/-! ### a def's body keeps its promise -/
/-- names: the parameters first -/
structure FnScope (N P : List Str) (sc : Scope) : Prop where
  kind : sc.kind = .function
  co : sc.isCoroutine = false
  gen : sc.isGenerator = false
  nd : N.Nodup
  pre : N.take P.length = P
  par : ∀ x ∈ P, sc.names.lookup x = some .local ∨ sc.names.lookup x = some .cell
  nofree : ∀ y ∈ sc.names, y.2 ≠ .free

theorem bindL_out {kindOf : Str → Option NameKind} {x : Str} : ∀ {binds : List (Str × Value)} {m : Str → Option Value}, (∀ v, (x, v) ∉ binds) → bindL kindOf binds m x = m x
  | [], _, _ => rfl
  | (n, v) :: r, m, h => by
    unfold bindL
    rw [bindL_out fun w hw => h w (List.mem_cons_of_mem _ hw)]
    split
    · have : x ≠ n := by rintro rfl; exact h v List.mem_cons_self
      simp [this]
    · rfl
theorem bindC_out {kindOf : Str → Option NameKind} {x : Str} : ∀ {binds : List (Str × Value)} {m : Str → Option Value}, (∀ v, (x, v) ∉ binds) → bindC kindOf binds m x = m x
  | [], _, _ => rfl
  | (n, v) :: r, m, h => by
    unfold bindC
    rw [bindC_out fun w hw => h w (List.mem_cons_of_mem _ hw)]
    split
    · rfl
    · have : x ≠ n := by rintro rfl; exact h v List.mem_cons_self
      simp [this]
theorem bindL_get {kindOf : Str → Option NameKind} {x : Str} {v : Value} : ∀ {P : List Str} {vs : List Value} {i : Nat} {m : Str → Option Value}, P.Nodup → P[i]? = some x → vs[i]? = some v → kindOf x = some .local →
    bindL kindOf (P.zip vs) m x = some v
  | [], _, _, _, _, h, _, _ => by simp at h
  | _ :: _, [], _, _, _, _, h, _ => by simp at h
  | p :: P, w :: vs, 0, m, nd, h1, h2, hk => by
    simp at h1 h2; subst h1; subst h2
    show bindL kindOf ((p, w) :: P.zip vs) m p = _
    unfold bindL
    rw [bindL_out fun v hv => (List.nodup_cons.mp nd).1 (List.of_mem_zip hv).1, if_pos hk]
    simp
  | p :: P, w :: vs, i + 1, m, nd, h1, h2, hk => by
    show bindL kindOf ((p, w) :: P.zip vs) m x = _
    unfold bindL
    exact bindL_get (i := i) (List.nodup_cons.mp nd).2 (by simpa using h1) (by simpa using h2) hk
theorem bindC_get {kindOf : Str → Option NameKind} {x : Str} {v : Value} : ∀ {P : List Str} {vs : List Value} {i : Nat} {m : Str → Option Value}, P.Nodup → P[i]? = some x → vs[i]? = some v → kindOf x ≠ some .local →
    bindC kindOf (P.zip vs) m x = some v
  | [], _, _, _, _, h, _, _ => by simp at h
  | _ :: _, [], _, _, _, _, h, _ => by simp at h
  | p :: P, w :: vs, 0, m, nd, h1, h2, hk => by
    simp at h1 h2; subst h1; subst h2
    show bindC kindOf ((p, w) :: P.zip vs) m p = _
    unfold bindC
    rw [bindC_out fun v hv => (List.nodup_cons.mp nd).1 (List.of_mem_zip hv).1, if_neg hk]
    simp
  | p :: P, w :: vs, i + 1, m, nd, h1, h2, hk => by
    show bindC kindOf ((p, w) :: P.zip vs) m x = _
    unfold bindC
    exact bindC_get (i := i) (List.nodup_cons.mp nd).2 (by simpa using h1) (by simpa using h2) hk

/-- the names' values at the entry -/
def start (N : List Str) (vs : List V) : St := vs.map some ++ List.replicate (N.length - vs.length) none

/-- the context of a def's body, at its entry; an exception leaves the frame, then lies as CX says -/
def cxOf (CX : CXT) (P : Program) (w : World) (K : PySem.W.Frag) (mg : Str → Option Value) (base : Heap) (N : List Str) (qual : Str) (scope : Scope) (f : Addr) (cd : Value) (A : Around) (outer : List Env) (s : Shared) (H : Hp) (E : XK) : Cx where
  prog := P
  w := w
  K := K
  mg := mg
  base := base
  A := A.deeper (envOfC qual scope s.heap.objs.size f cd)
  N := N
  s₀ := s
  H₀ := H
  env := envOfC qual scope s.heap.objs.size f cd
  outer := outer
  stack := envOfC qual scope s.heap.objs.size f cd :: outer
  ex := []
  calm := true
  fn := fun _ => true
  pn := []
  xe := fun e s' => wpAny (model P w) (A.deeper (envOfC qual scope s.heap.objs.size f cd)) (leaving (envOfC qual scope s.heap.objs.size f cd) e) (fun _ s'' => CX outer H s E e s'') (fun e' s'' => CX outer H s E e' s'') s'

theorem cell_has {sc : Scope} {n : Nat} {x : Str} (h : sc.names.lookup x = some .cell) : ∃ c, (cellsFrom n sc.names []).lookup x = some c := by
  have q := PySem.W.cellsFrom_some sc.names n [] (.inl h)
  exact Option.isSome_iff_exists.mp q

theorem inv_start {CX : CXT} {P : Program} {w : World} {K : PySem.W.Frag} {mg : Str → Option Value} {base : Heap} {N ps : List Str} {qual : Str} {scope : Scope} {f : Addr} {cd : Value} {A : Around} {outer : List Env} {s s1 : Shared} {H : Hp} {E : XK} {us : List Value} {vs : List V}
    (S : FnScope N ps scope) (hd : A.handled = none) (e0 : Env0 P w K mg base A outer s H) (hl : vs.length = ps.length) (r : Vals vs us)
    (x : InCallC s s.heap.objs.size (bindL (envOfC qual scope s.heap.objs.size f cd).kindOf (ps.zip us) fun _ => none) (cellsFrom (s.heap.objs.size + 1) scope.names []) (bindC (envOfC qual scope s.heap.objs.size f cd).kindOf (ps.zip us) fun _ => none) s1) :
    Inv (cxOf CX P w K mg base N qual scope f cd A outer s H E) [] (start N vs) H s1 := by
  have hpl : ps.length ≤ N.length := by have := congrArg List.length S.pre; rw [List.length_take] at this; omega
  obtain ⟨h1, tk, rfl, hk⟩ := x.done
  have noA : ∀ b : Addr, b ∉ (cxOf CX P w K mg base N qual scope f cd A outer s H E).ex := fun b z => absurd (show b ∈ ([] : List Addr) from z) (by simp)
  refine ⟨⟨e0.mod, S.kind, rfl, rfl, Nat.le_refl _, fun y z c h1 h2 => ?_, fun y hy => ?_, fun y c _ h => ?_, fun _ => hd, Around.frames_deeper e0.frames, .inr ⟨rfl, rfl⟩, fun b z => absurd z (noA b), e0.bs, e0.bsz, fun b _ _ => noA b, fun b z => absurd z (noA b), e0.funs, e0.frf⟩,
    rfl, e0.bare, Un.kept hk, ⟨_, x.toInCall.ns, fun i y v h1 h2 h3 => ?_⟩, fun y c h => ⟨_, x.cell y c h⟩, e0.hok.fresh (Nat.le_refl _), fun y c h => ?_, fun p hp => absurd (show p ∈ ([] : List (Addr × Obj)) from hp) (by simp), e0.hok.kept hk, ?_⟩
  · exact name_of_addr x.apart (PySem.mem_of_lookup h1) (PySem.mem_of_lookup h2)
  · have hy : scope.names.lookup y = some .cell ∨ scope.names.lookup y = some .free := hy
    rcases hy with hy | hy
    · exact cell_has hy
    · exact absurd rfl (S.nofree _ (PySem.mem_of_lookup hy))
  · exact Nat.le_of_lt (x.above y c (PySem.mem_of_lookup h))
  · have hi : i < vs.length := by
      unfold start at h2
      by_cases hi : i < vs.length
      · exact hi
      · rw [List.getElem?_append_right (by simpa using hi)] at h2
        rw [List.getElem?_replicate] at h2
        split at h2 <;> cases h2
    have ha : vs[i]? = some v := by
      unfold start at h2
      rw [List.getElem?_append_left (by simpa using hi), List.getElem?_map] at h2
      cases e : vs[i]? with
      | none => rw [e] at h2; cases h2
      | some a => rw [e] at h2; cases h2; rfl
    obtain ⟨u, hu, rv⟩ := r.get ha
    have hp : ps[i]? = some y := by
      rw [← S.pre, List.getElem?_take_of_lt (by omega)]; exact h1
    have ndP : ps.Nodup := by rw [← S.pre]; exact S.nd.sublist (List.take_sublist _ _)
    refine ⟨u, rv, ?_⟩
    rcases S.par y (List.mem_of_getElem? hp) with k | k
    · exact .inl ⟨k, bindL_get ndP hp hu k⟩
    · obtain ⟨c, e⟩ := cell_has (n := s.heap.objs.size + 1) k
      refine .inr ⟨.inl k, c, e, ?_⟩
      have q := x.cell y c e
      rw [bindC_get ndP hp hu (by show scope.names.lookup y ≠ _; rw [k]; decide)] at q
      exact q
  · exact e0.hok.fresh (Nat.le_of_lt (x.above y c (PySem.mem_of_lookup h)))
  · unfold start
    show _ = N.length
    rw [List.length_append, List.length_map, List.length_replicate]
    omega

/-- THE RULE: a def (or a method) of the text, by its body. The body's reading t is chosen for each entry; it is run at the parameters' values -/
theorem fn_of {CX : CXT} {P : Program} {w : World} {K : PySem.W.Frag} {mg : Str → Option Value} {base : Heap} {k : Nat} {f : Addr} {name qual : Str} {params : Arguments} {body : List Stmt} {scope : Scope} {dV kV doc pm cdv ct oc : Value} {an od : Option Addr}
    {osl : Array (Option Value)} {N ps : List Str} {sp : Sp} (lk : K.lookup f = some ⟨oc, od, .func (PySem.W.fnOf name qual params body scope dV kV doc pm an cdv ct), osl⟩) (hcd : PySem.W.codeIn K cdv qual = true) (S : FnScope N ps scope)
    (len : ∀ vs H Q E, sp vs H Q E → vs.length = ps.length)
    (hbody : ∀ (A : Around) (outer : List Env) (s : Shared) (H : Hp) (vs : List V) (Q : VK) (E : XK), Room k (A.deeper (envOfC qual scope s.heap.objs.size f cdv)) → sp vs H Q E →
      ∃ t, PSs (cxOf CX P w K mg base N qual scope f cdv A outer s H E) body t ∧ t { nx := fun _ H' => Q .non H', rt := Q } (start N vs) H) :
    FnOk P w K mg base CX (k + 1) f (PySem.W.fnOf name qual params body scope dV kV doc pm an cdv ct) ps sp := by
  refine ⟨len, fun A outer s H args us vs Q E hr e0 hb r hsp => ?_⟩
  have hl := len _ _ _ _ hsp
  have KX : K.In s.heap := e0.mod.kin.keeps fun b o e => (e0.bs b o e).1
  have lim : s.heap.NoLimit := e0.mod.nolimit.keeps fun b o e => (e0.bs b o e).1
  have hkind : ∀ y ∈ ps.zip us, scope.names.lookup y.1 = some .local ∨ (scope.names.lookup y.1 = some .cell ∧ ((cellsFrom (s.heap.objs.size + 1) scope.names []).lookup y.1).isSome = true) := fun ⟨n, v⟩ hy => by
    rcases S.par n (List.of_mem_zip hy).1 with q | q
    · exact .inl q
    · exact .inr ⟨q, PySem.W.cellsFrom_some _ _ _ (.inl q)⟩
  refine codeAny_call_function hr.depth (KX _ _ lk) rfl S.co S.gen rfl (PySem.W.codeRec_of KX hcd) (hb _ _ _ _ ?_)
  refine wpAny_newFunctionEnv_cells S.kind hkind fun env he s1 x => ?_
  subst he
  refine ⟨lim.keeps x.toInCall.keep, codeAny_func ?_⟩
  obtain ⟨t, ht, hq⟩ := hbody A outer s H vs Q E (hr.deeper _) hsp
  have I : Inv (cxOf CX P w K mg base N qual scope f cdv A outer s H E) [] (start N vs) H s1 := inv_start S hr.hd e0 hl r x
  refine wpAny_mono (ht [] s1 (start N vs) H _ I hq) (fun fl s' hs => ?_) fun e s' hs => hs
  have fin : ∀ {σ' : St} {H' : Hp} {v : V} {u : Value}, Inv (cxOf CX P w K mg base N qual scope f cdv A outer s H E) [] σ' H' s' → RelV v u → Q v H' → CE outer P w H s Q u s' :=
    fun {σ' H' v u} J rv q => ⟨v, H', J.os, J.bare, J.base, J.hok, rv, q⟩
  cases fl with
  | ret u =>
    obtain ⟨v, σ', H', J, rv, q⟩ := hs
    exact fin J rv q
  | next =>
    obtain ⟨σ', H', J, q⟩ := hs
    exact fin (v := V.non) (u := Value.none) J rfl q
  | brk =>
    obtain ⟨_, _, _, q⟩ := hs
    exact False.elim q
  | cont =>
    obtain ⟨_, _, _, q⟩ := hs
    exact False.elim q
end L2

namespace L2
open PySem PySem.Spec PyProof.Rows
section
variable {X : Cx} {x : Str} {p pos : Pos} {e : Expr} {es : List Expr} {t : TA} {id T : String} {r : List V → Hp → VK → Prop}

def tCB (r : List V → Hp → VK → Prop) (t : TA) : TE := fun σ H Q => t σ H fun vs H1 => r vs H1 Q
/-- f(e, ..), f a built-in function -/
theorem pe_callB (hc : CallR X (.builtin id) r) (hg : Gl X x) (hm : X.mg x = none) (hv : bootBuiltins x = some (.builtin id)) (ha : PA X (e :: es) t) (hn : x ≠ "__name__" := by decide) (hdb : (x == ("__debug__" : Str)) = false := by decide)
    (he : starEach (e :: es) X.env = (false, eval e X.env) :: starEach es X.env := by rfl) (hpl : (backTo pos (starEach es X.env)).any (·.1) = false := by rfl) : PE X (.Call (.Name x p) (e :: es) [] pos) (tCB r t) := by
  intro pins s σ H Q I h
  refine wpAny_Call_Name_kw (ld_blt I hg hm hv ?_ hn hdb)
  exact PyProof.Rows.callWith_builtin1 (thn (ha pos pins s σ H _ I h) fun us s1 ⟨vs, H1, I1, r1, q1⟩ => hc pins s1 σ H1 vs us Q I1 r1 q1) he hpl
/-- T(e, ..), T a built-in type -/
theorem pe_callTy (hc : CallR X (.type T) r) (hg : Gl X x) (hm : X.mg x = none) (hv : bootBuiltins x = some (.type T)) (ha : PA X (e :: es) t) (hn : x ≠ "__name__" := by decide) (hdb : (x == ("__debug__" : Str)) = false := by decide)
    (he : starEach (e :: es) X.env = (false, eval e X.env) :: starEach es X.env := by rfl) (hpl : (backTo pos (starEach es X.env)).any (·.1) = false := by rfl) : PE X (.Call (.Name x p) (e :: es) [] pos) (tCB r t) := by
  intro pins s σ H Q I h
  refine wpAny_Call_Name_kw (ld_blt I hg hm hv ?_ hn hdb)
  exact PyProof.Rows.callWith_type1 (thn (ha pos pins s σ H _ I h) fun us s1 ⟨vs, H1, I1, r1, q1⟩ => hc pins s1 σ H1 vs us Q I1 r1 q1) he hpl
end
end L2

namespace HT
open PySem PyProof.Rows

/-- t < u of tuples of ints -/
def lexLt : List Int → List Int → Bool
  | [], [] => false
  | [], _ :: _ => true
  | _ :: _, [] => false
  | x :: xs, y :: ys => if x = y then lexLt xs ys else decide (x < y)
theorem lexLt_cons (x y : Int) (xs ys : List Int) : lexLt (x :: xs) (y :: ys) = if x = y then lexLt xs ys else decide (x < y) := rfl
theorem lexLt_nil_nil : lexLt [] [] = false := rfl
theorem lexLt_nil_cons (y : Int) (ys : List Int) : lexLt [] (y :: ys) = true := rfl
theorem lexLt_cons_nil (x : Int) (xs : List Int) : lexLt (x :: xs) [] = false := rfl

theorem eqAt_int (A : Around) (s : Shared) (a : Int) (t : Tok) (c : Int) (u : Tok) : ∃ e, SeqAt.EqAt A s (.int a t) (.int c u) e ∧ (e = true ↔ a = c) :=
  ⟨(a == c), SeqAt.EqAt.int_int a t c u, by simp⟩
theorem rcLt_int (A : Around) (s : Shared) (a : Int) (t : Tok) (c : Int) (u : Tok) (prog : Program) (w : World) (E : Value → Shared → Prop) (Q : Value → Shared → Prop) (h : Q (.bool (decide (a < c))) s) :
    wpAny (model prog w) A (richCompare .Lt (.int a t) (.int c u)) Q E s :=
  (PyProof.Rows.lt_int h : wpAny (model prog w) A (compareOp .Lt (.int a t) (.int c u)) Q E s)

section
open PySem.SeqAt
open PySem.AutoSeq1 (wpAny_loadPart')
open PySem.MeetsSeq PySem.MeetsSeq2 PySem.MeetsSeq3

theorem tuple_lt_ints (l b : Addr) (items items2 : Array Value) (n n2 : Nat) (dd dd2 : Option Addr) (sl sl2 : Array (Option Value)) (ns ms : List Int) (hi : IntsAre items.toList ns) (hj : IntsAre items2.toList ms) :
    Meets (Builtin.«tuple.__lt__» ⟨[.ref l, .ref b], []⟩)
      (fun _ R s => s.heap.get? l = some { cls := .type "tuple", dict := dd, data := .seq items n, slots := sl } ∧ s.heap.get? b = some { cls := .type "tuple", dict := dd2, data := .seq items2 n2, slots := sl2 } ∧
        R (.ok (.ret (.bool (lexLt ns ms)))) s) :=
  .of_wp fun prog w A R s h => by
    obtain ⟨hp, g, d, tk, os⟩ := s; obtain ⟨hl, hb, h⟩ := h
    have f2 := AutoSeq1.sub_tuple_tuple
    have z1 : items.size = ns.length := by rw [← hi.length]; simp
    have z2 : items2.size = ms.length := by rw [← hj.length]; simp
    wp_walk using wpAny_loadPart' hl, wpAny_loadPart' hb, wpAny_forIn_list _ (fun rest b s' => b.1 = none ∧ s' = ⟨hp, g, d, tk, os⟩ ∧ ∃ (vs ws : List Value) (ns' ms' : List Int), rest = vs.zip ws ∧
      IntsAre vs ns' ∧ IntsAre ws ms' ∧ ns'.length + items2.size = ms'.length + items.size ∧ R (.ok (.ret (.bool (lexLt ns' ms')))) ⟨hp, g, d, tk, os⟩) _
    case turn =>
      rintro ⟨y, x⟩ rest b s' ⟨hb', rfl, vs, ws, ns', ms', hz, hvi, hwi, hlen, hR⟩
      cases hvi with
      | nil => rw [List.zip_nil_left] at hz; cases hz
      | cons a t hvi' =>
        cases hwi with
        | nil => rw [List.zip_nil_right] at hz; cases hz
        | cons c u hwi' =>
          rw [List.zip_cons_cons] at hz
          injection hz with hyx hrest
          injection hyx with hy hx
          subst hy hx
          rw [lexLt_cons] at hR
          simp only [List.length_cons] at hlen
          obtain ⟨e, he, hiff⟩ := eqAt_int A.in1 ⟨hp, g, d, tk, os⟩ a t c u
          refine wpAny_bind (he prog w _ _ ?_)
          cases e with
          | true =>
            rw [if_pos (hiff.mp rfl)] at hR
            wp_walk
            exact ⟨rfl, rfl, _, _, _, _, hrest, hvi', hwi', by omega, hR⟩
          | false =>
            rw [if_neg (fun q => absurd (hiff.mpr q) Bool.false_ne_true)] at hR
            have hri := rcLt_int A.in1 ⟨hp, g, d, tk, os⟩ a t c u prog w
            wp_walk using hri
            exact ⟨_, rfl, by simpa using hR⟩
    case fin =>
      rintro ⟨b1, b2⟩ s' ⟨hb', rfl, vs, ws, ns', ms', hz, hvi, hwi, hlen, hR⟩
      simp only at hb'
      subst hb'
      have hv : lexLt ns' ms' = decide (items.size < items2.size) := by
        cases hvi with
        | nil =>
          cases hwi with
          | nil =>
            simp only [List.length_nil] at hlen
            rw [lexLt_nil_nil]
            exact (decide_eq_false (by omega)).symm
          | cons c u hw =>
            simp only [List.length_nil, List.length_cons] at hlen
            rw [lexLt_nil_cons]
            exact (decide_eq_true (by omega)).symm
        | cons a t hv =>
          cases hwi with
          | nil =>
            simp only [List.length_nil, List.length_cons] at hlen
            rw [lexLt_cons_nil]
            exact (decide_eq_false (by omega)).symm
          | cons c u hw =>
            rw [List.zip_cons_cons] at hz
            cases hz
      rw [hv] at hR
      wp_walk
      exact ⟨_, rfl, by simpa [Builtin.Tuple.tupleCompareSizes] using hR⟩
    case h =>
      exact ⟨rfl, rfl, items.toList, items2.toList, ns, ms, rfl, hi, hj, by omega, h⟩
end

section
variable {prog : Program} {w : World} {A : Around} {E : Value → Shared → Prop} {s : Shared}

theorem lt_tupInts {l b : Addr} {items items2 : Array Value} {ns ms : List Int} {Q : Value → Shared → Prop} (hl : IsTup s.heap l items) (hb : IsTup s.heap b items2) (hi : IntsAre items.toList ns) (hj : IntsAre items2.toList ms)
    (hu : A.units < cLine) (h : Q (.bool (lexLt ns ms)) s) : wpAny (model prog w) A (compareOp .Lt (.ref l) (.ref b)) Q E s := by
  obtain ⟨⟨cls, dd, data, sl⟩, ho, hc, n, hd⟩ := id hl
  obtain ⟨⟨cls2, dd2, data2, sl2⟩, ho2, hc2, n2, hd2⟩ := id hb
  simp only at hc hd hc2 hd2
  subst hc hd hc2 hd2
  exact richCompare_meets_room (op := .Lt) ⟨_, ho, rfl⟩ ⟨_, ho2, rfl⟩ PySem.F.slot_tuple_lt PySem.F.entry_tuple_lt (PySem.F.args_tuple_lt_2 _ _) (tuple_lt_ints l b items items2 n n2 dd dd2 sl sl2 ns ms hi hj)
    ⟨ho, ho2, show Value.bool (lexLt ns ms) ≠ Value.notImplemented ∧ Q (.bool (lexLt ns ms)) s from ⟨(fun x => nomatch x), h⟩⟩ hu


/-! ### t[a:b], not the whole -/
/-- a slice's bound as a place among n (d where it is left out) -/
def sIx (n d : Nat) : Option Int → Nat
  | none => d
  | some v => if v < 0 then (v + (n : Int)).toNat else min v.toNat n

end
end HT

namespace L2
open PySem PySem.Spec PyProof.Rows

/-! ### the parts of a slice -/
abbrev TO := St → Hp → (Option Int → Hp → Prop) → Prop
/-- a slice's part (left out, or an int) -/
def PO (X : Cx) (e : Option Expr) (t : TO) : Prop :=
  ∀ (pins : List (Addr × Obj)) (s : Shared) (σ : St) (H : Hp) (Q : Option Int → Hp → Prop), Inv X pins σ H s → t σ H Q →
    wpAny (model X.prog X.w) X.A (evalPart e X.env) (fun u s' => ∃ o H', Inv X pins σ H' s' ∧ IsPart u o ∧ Q o H') X.xe s
def tNoPart : TO := fun _ H Q => Q none H
def tPart (t : TE) : TO := fun σ H Q => t σ H fun x H1 => ∃ i, x = .int i ∧ Q (some i) H1

theorem intsAre_of {ns : List Int} : ∀ {us : List Value}, Vals (ns.map V.int) us → IntsAre us ns := by
  induction ns with
  | nil => intro us r; rw [List.map_nil] at r; cases r; exact .nil
  | cons n ns ih =>
    intro us r
    rw [List.map_cons] at r
    cases r with
    | cons r1 r2 =>
      obtain ⟨t, e⟩ := r1
      subst e
      exact .cons n t (ih r2)

section
variable {X : Cx} {e : Expr} {te : TE} {lo hi : Option Expr} {tl th : TO} {pos p2 : Pos}


/-- what a slice of a value is, by values: the slice object stands at sl -/
def SlR (X : Cx) (r : V → Option Int → Option Int → Hp → VK → Prop) : Prop :=
  ∀ (pins : List (Addr × Obj)) (s : Shared) (σ : St) (H : Hp) (x : V) (v vl vu : Value) (lo hi : Option Int) (sl : Addr) (Q : VK), Inv X pins σ H s → RelV x v → s.heap.IsSliceOf sl vl vu .none → IsPart vl lo → IsPart vu hi → r x lo hi H Q →
    ∃ T id, typeLookup (.type T) "__getitem__" = pure (some (.builtin id)) ∧ s.TypeIs v T ∧ wpAny (model X.prog X.w) X.A (getItem v (.ref sl)) (EP X pins σ Q) X.xe s
theorem SlR.or {r r' : V → Option Int → Option Int → Hp → VK → Prop} (h : SlR X r) (h' : SlR X r') : SlR X (fun x lo hi H Q => r x lo hi H Q ∨ r' x lo hi H Q) := by
  intro pins s σ H x v vl vu lo hi sl Q I rx hs pl pu q
  rcases q with q | q
  · exact h pins s σ H x v vl vu lo hi sl Q I rx hs pl pu q
  · exact h' pins s σ H x v vl vu lo hi sl Q I rx hs pl pu q
def tSl (r : V → Option Int → Option Int → Hp → VK → Prop) (te : TE) (tl th : TO) : TE := fun σ H Q => te σ H fun x H1 => tl σ H1 fun l H2 => th σ H2 fun u H3 => r x l u H3 Q

/-- the items of xs[lo:hi] -/
def cutV (xs : List V) (lo hi : Option Int) : List V := (xs.drop (HT.sIx xs.length 0 lo)).take (HT.sIx xs.length xs.length hi - HT.sIx xs.length 0 lo)
/-- t[lo:hi], not the whole of it (the whole would be t itself) -/
def rSlT (K : PySem.W.Frag) : V → Option Int → Option Int → Hp → VK → Prop := fun x lo hi H Q => ∃ a xs, x = .ref a ∧ SqT K H a xs ∧
  ¬ (HT.sIx xs.length 0 lo = 0 ∧ HT.sIx xs.length xs.length hi = xs.length) ∧ ∀ p, H p = none → Q (.ref p) (upd H p (.tup (cutV xs lo hi)))

/-! ### t < u, t + u -/
def rLtT (K : PySem.W.Frag) : R2 := fun x y H Q => ∃ a b ns ms, x = .ref a ∧ y = .ref b ∧ SqT K H a (ns.map V.int) ∧ SqT K H b (ms.map V.int) ∧ Q (.bl (HT.lexLt ns ms)) H
/-- t + u, t not empty: u empty gives t itself -/
def rCatT (K : PySem.W.Frag) : R2 := fun x y H Q => ∃ a b xs ys, x = .ref a ∧ y = .ref b ∧ SqT K H a xs ∧ SqT K H b ys ∧ xs ≠ [] ∧ xs.length + ys.length ≤ sizeLine ∧
  (ys = [] → Q (.ref a) H) ∧ (ys ≠ [] → ∀ p, H p = none → Q (.ref p) (upd H p (.tup (xs ++ ys))))
end
end L2

namespace L2
open PySem PySem.Spec PyProof.Rows

/-! ### places -/
/-- the place that an index of any sign means -/
def ixN (n : Nat) (i : Int) : Option Nat := if 0 ≤ i then (if i < n then some i.toNat else none) else if -(n : Int) ≤ i then some (i + n).toNat else none
def atI {α : Type} (xs : List α) (i : Int) : Option α := (ixN xs.length i).bind fun j => xs[j]?
theorem ixN_seq {n : Nat} {i : Int} {j : Nat} (h : ixN n i = some j) : seqIndex? i n = some j ∧ j < n ∧ -(n : Int) ≤ i ∧ i < n := by
  unfold ixN at h
  by_cases h0 : 0 ≤ i
  · rw [if_pos h0] at h
    by_cases h1 : i < n
    · rw [if_pos h1] at h
      have e : i.toNat = j := Option.some.inj h
      exact ⟨by rw [seqIndex_of h0 h1, e], by omega, by omega, h1⟩
    · rw [if_neg h1] at h; cases h
  · rw [if_neg h0] at h
    by_cases h1 : -(n : Int) ≤ i
    · rw [if_pos h1] at h
      have e : (i + n).toNat = j := Option.some.inj h
      exact ⟨by rw [seqIndex_neg (by omega) h1, e], by omega, h1, by omega⟩
    · rw [if_neg h1] at h; cases h
theorem atI_get {α : Type} {xs : List α} {i : Int} {v : α} (h : atI xs i = some v) : ∃ j, seqIndex? i xs.length = some j ∧ xs[j]? = some v ∧ j < xs.length ∧ -(xs.length : Int) ≤ i ∧ i < xs.length := by
  unfold atI at h
  cases e : ixN xs.length i with
  | none => rw [e] at h; cases h
  | some j =>
    rw [e] at h
    obtain ⟨h1, h2, h3, h4⟩ := ixN_seq e
    exact ⟨j, h1, h, h2, h3, h4⟩
theorem atI_nat {α : Type} {xs : List α} {j : Nat} {v : α} (h : xs[j]? = some v) : atI xs (j : Int) = some v := by
  have hj : j < xs.length := (List.getElem?_eq_some_iff.mp h).1
  have e : ixN xs.length (j : Int) = some j := by
    unfold ixN
    rw [if_pos (by omega), if_pos (by omega)]; simp
  unfold atI; rw [e]; exact h

/-! ### what may be subscripted -/
/-- what stands as an index of a plain subscript -/
def PlainIx (b : Expr) : Prop := ∀ o i, subscripted b false o i = operate [o, i] (getItem o i)
/-- a subscript by values -/
def IxR (X : Cx) (r : R2) : Prop :=
  ∀ (value slice : Expr) (pins : List (Addr × Obj)) (s : Shared) (σ : St) (H : Hp) (x y : V) (v u : Value) (Q : VK), Inv X pins σ H s → RelV x v → RelV y u → r x y H Q →
    subscripted slice false v u = operate [v, u] (getItem v u) → wpAny (model X.prog X.w) X.A (subscriptTail value slice v u) (EP X pins σ Q) X.xe s
/-- a call of a builtin's method by values: the receiver, the arguments -/
def MtR (X : Cx) (id : String) (r : V → List V → Hp → VK → Prop) : Prop :=
  ∀ (pins : List (Addr × Obj)) (s : Shared) (σ : St) (H : Hp) (x : V) (xs : List V) (v : Value) (us : List Value) (Q : VK), Inv X pins σ H s → RelV x v → Vals xs us → r x xs H Q →
    wpAny (model X.prog X.w) X.A (call (.builtin id) (v :: us)) (EP X pins σ Q) X.xe s
section
variable {X : Cx} {a b : Expr} {ta tb : TE} {pos : Pos}
theorem IxR.or {r r' : R2} (h : IxR X r) (h' : IxR X r') : IxR X (fun x y H Q => r x y H Q ∨ r' x y H Q) := by
  intro value slice pins s σ H x y v u Q I rx ry q hs
  rcases q with q | q
  · exact h value slice pins s σ H x y v u Q I rx ry q hs
  · exact h' value slice pins s σ H x y v u Q I rx ry q hs
theorem MtR.or {id : String} {r r' : V → List V → Hp → VK → Prop} (h : MtR X id r) (h' : MtR X id r') : MtR X id (fun x xs H Q => r x xs H Q ∨ r' x xs H Q) := by
  intro pins s σ H x xs v us Q I rx rs q
  rcases q with q | q
  · exact h pins s σ H x xs v us Q I rx rs q
  · exact h' pins s σ H x xs v us Q I rx rs q
/-- a[b] -/
theorem pe_ix {r : R2} (hr : IxR X r) (ha : PE X a ta) (hb : PE X b tb) (hs : PlainIx b) : PE X (.Subscript a b pos) (tOp r ta tb) := by
  intro pins s σ H Q I h
  exact Subscript_ (binT ha hb I h fun v u s2 x y H2 I2 rx ry q => hr a b pins s2 σ H2 x y v u Q I2 rx ry q (hs _ _))

def rIxL (K : PySem.W.Frag) : R2 := fun x y H Q => ∃ p xs i v, x = .ref p ∧ y = .int i ∧ SqL K H p xs ∧ atI xs i = some v ∧ Q v H
def rIxT (K : PySem.W.Frag) : R2 := fun x y H Q => ∃ p xs i v, x = .ref p ∧ y = .int i ∧ SqT K H p xs ∧ atI xs i = some v ∧ Q v H
def rIxS : R2 := fun x y H Q => ∃ z i c, x = .str z ∧ y = .int i ∧ z.length ≤ sizeLine ∧ atI z.cps.toList i = some c ∧ Q (.str ⟨#[c]⟩) H
theorem ix_list : IxR X (rIxL X.K) := by
  intro value slice pins s σ H x y v u Q I rx ry h hs
  obtain ⟨p, xs, i, z, rfl, rfl, hq, he, q⟩ := h
  cases rx
  obtain ⟨t, rfl⟩ := ry
  obtain ⟨its, r, pl, hz⟩ := I.list hq
  obtain ⟨j, h1, h2, h3, h4, h5⟩ := atI_get he
  obtain ⟨w, ew, rw'⟩ := r.get h2
  have hl := r.length
  have hn := line63
  have fin : EP X pins σ Q w s := ⟨z, H, I, rw', q⟩
  by_cases h0 : 0 ≤ i
  · have hj : i.toNat = j := by
      rw [seqIndex_of h0 h5] at h1
      exact Option.some.inj h1
    exact item_listR pl.isList h0 (by omega) (by rw [hj]; simpa using ew) fin hs
  · have hj : (i + (its.toArray.size : Int)).toNat = j := by
      rw [seqIndex_neg (by omega) h4] at h1
      rw [List.size_toArray, ← hl]
      exact Option.some.inj h1
    exact subscriptTail_builtinR (x := w) pl.isList.typeIs slot_list_getitem.lookup
      (wpAny_getItem_list_neg (Q := fun r s' => r = w ∧ EP X pins σ Q r s') pl.isList (by omega) (by rw [List.size_toArray] <;> omega) (by omega) (by rw [hj]; simpa using ew) ⟨rfl, fin⟩) hs
theorem ix_tup : IxR X (rIxT X.K) := by
  intro value slice pins s σ H x y v u Q I rx ry h hs
  obtain ⟨p, xs, i, z, rfl, rfl, hq, he, q⟩ := h
  cases rx
  obtain ⟨t, rfl⟩ := ry
  obtain ⟨its, r, pl, hz⟩ := I.tuple hq
  obtain ⟨j, h1, h2, h3, h4, h5⟩ := atI_get he
  obtain ⟨w, ew, rw'⟩ := r.get h2
  have hl := r.length
  have hn := line63
  have fin : EP X pins σ Q w s := ⟨z, H, I, rw', q⟩
  exact subscriptTail_builtinR (x := w) pl.typeIs slot_tuple_getitem.lookup
    (getItem_tuple (j := j) (Q := fun r s' => r = w ∧ EP X pins σ Q r s') pl (by omega) (by omega) (by rw [List.size_toArray, ← hl]; exact h1) (by simpa using ew) ⟨rfl, fin⟩) hs
/-- list, tuple or str -/
def rIx (K : PySem.W.Frag) : R2 := fun x y H Q => rIxL K x y H Q ∨ rIxT K x y H Q ∨ rIxS x y H Q

/-! ### xs[i] = v, any sign -/
/-- the list's object behind a store -/
theorem mapSeq_set (its : List Value) (n j : Nat) (u : Value) : Obj.mapSeq (·.setIfInBounds j u) { cls := .type "list", data := .seq its.toArray n } = { cls := .type "list", data := .seq (its.set j u).toArray n } := by
  simp [Obj.mapSeq]
theorem Inv.lst {pins : List (Addr × Obj)} {σ : St} {H : Hp} {s : Shared} {p : Addr} {xs : List V} (I : Inv X pins σ H s) (h : H p = some (.lst xs)) :
    ∃ (its : List Value) (n : Nat), Vals xs its ∧ s.heap.get? p = some { cls := .type "list", data := .seq its.toArray n } ∧ xs.length ≤ sizeLine := by
  obtain ⟨z, its, n, r, e⟩ := I.hok p _ h
  exact ⟨its, n, r, e, z⟩
/-- the list at p is written by an update of its object -/
theorem Inv.lstUpd {pins : List (Addr × Obj)} {σ : St} {H : Hp} {s : Shared} {p : Addr} {xs ys : List V} {its its' : List Value} {n n' : Nat} {f : Obj → Obj} (I : Inv X pins σ H s) (h : H p = some (.lst xs))
    (ho : s.heap.get? p = some { cls := .type "list", data := .seq its.toArray n }) (hf : f { cls := .type "list", data := .seq its.toArray n } = { cls := .type "list", data := .seq its'.toArray n' }) (r : Vals ys its') (hz : ys.length ≤ sizeLine) (t : Nat) :
    Inv X pins σ (upd H p (.lst ys)) { s with heap := s.heap.update p f, toks := t } := by
  have e : (s.heap.update p f).get? p = some { cls := .type "list", data := .seq its'.toArray n' } := by
    rw [Heap.get?_update_self f ho (by rw [hf] <;> rfl), hf]
  refine I.write (x := p) (e := p) (by rw [h]; trivial) (.inl rfl) (fun b u hb q => (Heap.get?_update_other _ _ (Ne.symm hb)).trans q) ⟨_, e⟩ ?_
  exact ⟨hz, its', n', r, e⟩
def rSetL : V → V → V → Hp → (Hp → Prop) → Prop := fun o i v H Q => ∃ p xs k j, o = .ref p ∧ i = .int k ∧ H p = some (.lst xs) ∧ ixN xs.length k = some j ∧ Q (upd H p (.lst (xs.set j v)))
theorem set_list : PSet X rSetL := by
  intro pins s σ H o i v ov iv u Q I ro ri rv h
  obtain ⟨p, xs, k, j, rfl, rfl, hp, hj, q⟩ := h
  cases ro
  obtain ⟨t, rfl⟩ := ri
  obtain ⟨its, n, r, ho, hz⟩ := I.lst hp
  obtain ⟨h1, h2, h3, h4⟩ := ixN_seq hj
  have hl := r.length
  have hn := line63
  have I' : Inv X pins σ (upd H p (.lst (xs.set j v))) { s with heap := s.heap.update p (Obj.mapSeq (·.setIfInBounds j u)) } :=
    I.lstUpd hp ho (mapSeq_set its n j u) (r.set rv j) (by rw [List.length_set]; exact hz) s.toks
  by_cases h0 : 0 ≤ k
  · have hk : k.toNat = j := by
      rw [seqIndex_of h0 h4] at h1
      exact Option.some.inj h1
    exact PySem.W.ki_setAt ho h0 (by omega) (by rw [List.size_toArray, ← hl]; exact h4) (by rw [hk]; exact ⟨_, I', q⟩)
  · have hk : (k + (its.toArray.size : Int)).toNat = j := by
      rw [seqIndex_neg (by omega) h3] at h1
      rw [List.size_toArray, ← hl]
      exact Option.some.inj h1
    exact PySem.W.ki_setBack ho (by omega) (by rw [List.size_toArray, ← hl]; exact h3) (by omega) (by rw [hk]; exact ⟨_, I', q⟩)

/-! ### slices -/
/-- xs[lo:hi] of a list: a new list -/
def rSlL (K : PySem.W.Frag) : V → Option Int → Option Int → Hp → VK → Prop := fun x lo hi H Q => ∃ a xs, x = .ref a ∧ SqL K H a xs ∧ ∀ p, H p = none → Q (.ref p) (upd H p (.lst (cutV xs lo hi)))

/-! ### in, not in: flat items -/
def flatV : V → Bool
  | .non => true
  | .bl _ => true
  | .int _ => true
  | .str _ => true
  | _ => false
/-- == of flat values -/
def eqV : V → V → Bool
  | .non, .non => true
  | .bl a, .bl b => a == b
  | .bl a, .int b => (if a then 1 else 0) == b
  | .int a, .bl b => a == (if b then 1 else 0)
  | .int a, .int b => a == b
  | .str a, .str b => a == b
  | _, _ => false
/-- the items' answers, read off the values (a value's own answer does not lean on its token) -/
def eqU (x : V) (u : Value) : Bool := match u with
  | .none => eqV .non x
  | .bool b => eqV (.bl b) x
  | .int i _ => eqV (.int i) x
  | .str z _ => eqV (.str z) x
  | _ => false
def inV (x : V) (xs : List V) : Bool := xs.any fun y => eqV y x
/-- x in a list or tuple of flat items -/
def rIn (K : PySem.W.Frag) (neg : Bool) : R2 := fun x y H Q => ∃ p xs, y = .ref p ∧ (SqL K H p xs ∨ SqT K H p xs) ∧ flatV x = true ∧ xs.all flatV = true ∧ Q (.bl (if neg then !inV x xs else inV x xs)) H

/-! ### len, list(x), tuple(x) of any list or tuple that is read -/
theorem call_len_seq : CallR X (.builtin "len") (fun xs H Q => ∃ p ys, xs = [.ref p] ∧ (SqL X.K H p ys ∨ SqT X.K H p ys) ∧ Q (.int ys.length) H) := by
  intro pins s σ H xs us Q I r h
  obtain ⟨p, ys, rfl, hq, q⟩ := h
  obtain ⟨u, rfl, rx⟩ := vals1 r
  cases rx
  have hn := line63
  rcases hq with hq | hq
  · obtain ⟨its, r', pl, hz⟩ := I.list hq
    have hlen := r'.length
    exact Calls.call_len_list pl.isList (by simp only [List.size_toArray] <;> omega) ⟨.int ys.length, H, I.tok _, ⟨s.toks + 1, by rw [List.size_toArray, hlen]⟩, q⟩
  · obtain ⟨its, r', pl, hz⟩ := I.tuple hq
    have hlen := r'.length
    exact len_tuple pl (by simp only [List.size_toArray] <;> omega) ⟨.int ys.length, H, I.tok _, ⟨s.toks + 1, by rw [List.size_toArray, hlen]⟩, q⟩
theorem CallR.or {f : Value} {r r' : List V → Hp → VK → Prop} (h : CallR X f r) (h' : CallR X f r') : CallR X f (fun xs H Q => r xs H Q ∨ r' xs H Q) := by
  intro pins s σ H xs us Q I rs q
  rcases q with q | q
  · exact h pins s σ H xs us Q I rs q
  · exact h' pins s σ H xs us Q I rs q
theorem call_tuple_of : CallR X (.type "tuple") (fun xs H Q => ∃ p ys, xs = [.ref p] ∧ ((SqL X.K H p ys ∧ ∀ l, H l = none → Q (.ref l) (upd H l (.tup ys))) ∨ (SqT X.K H p ys ∧ Q (.ref p) H))) := by
  intro pins s σ H xs us Q I r h
  obtain ⟨p, ys, rfl, h⟩ := h
  obtain ⟨u, rfl, rx⟩ := vals1 r
  cases rx
  rcases h with ⟨hq, q⟩ | ⟨hq, q⟩
  · obtain ⟨its, r', pl, hz⟩ := I.list hq
    have hlen := r'.length
    refine call_tuple_list pl.isList (fun h' kp => ?_) (by simp only [List.size_toArray] <;> omega)
    have I1 : Inv X pins σ H { s with heap := h' } := I.kept (t' := s.toks) kp
    have I2 : Inv X pins σ (upd H h'.objs.size (.tup ys)) { s with heap := h'.push { cls := .type "tuple", data := .seq its.toArray } } :=
      I1.laid (t' := s.toks) (fun b o e => Heap.get?_push_of_some _ e) (Nat.le_refl _) (show ObjOk X.prog X.w _ _ _ (.tup ys) from ⟨hz, its, r', TupN.new _ _⟩)
    exact ⟨.ref h'.objs.size, _, I2, rfl, q _ (I1.hok.fresh (Nat.le_refl _))⟩
  · obtain ⟨its, r', pl, hz⟩ := I.tuple hq
    exact call_tuple_same pl ⟨.ref p, H, I, rfl, q⟩

/-! ### the call of a builtin's method: o.m(..) -/
/-- the value is of that builtin type -/
def tyV (K : PySem.W.Frag) (T : String) (x : V) (H : Hp) : Prop := match x with
  | .str _ => T = "str"
  | .int _ => T = "int"
  | .ref p => (T = "list" ∧ ∃ xs, SqL K H p xs) ∨ (T = "tuple" ∧ ∃ o, K.lookup p = some o ∧ o.cls = .type "tuple" ∧ o.dict = none) ∨
      (T = "dict" ∧ ((∃ kvs, H p = some (.dK kvs)) ∨ ∃ kvs, H p = some (.dT kvs))) ∨ (T = "set" ∧ ∃ S n, H p = some (.set S n))
  | _ => False
theorem tyV_is {pins : List (Addr × Obj)} {σ : St} {H : Hp} {s : Shared} {T : String} {x : V} {v : Value} (I : Inv X pins σ H s) (r : RelV x v) (ty : tyV X.K T x H) :
    s.TypeIs v T ∧ ∀ a, v = .ref a → ∃ ob, s.heap.get? a = some ob ∧ ob.dict = none := by
  cases x with
  | str z =>
    obtain ⟨t, rfl⟩ := r
    cases (show T = "str" from ty)
    exact ⟨typeIs_str s z t, fun _ e => nomatch e⟩
  | int i =>
    obtain ⟨t, rfl⟩ := r
    cases (show T = "int" from ty)
    exact ⟨typeIs_int s i t, fun _ e => nomatch e⟩
  | ref p =>
    cases r
    rcases ty with ⟨rfl, xs, hq⟩ | ⟨rfl, o, hk, hc, hd⟩ | ⟨rfl, hk⟩ | ⟨rfl, S, n, hk⟩
    · obtain ⟨its, _, pl, _⟩ := I.list hq
      refine ⟨pl.isList.typeIs, fun a e => ?_⟩
      cases e
      obtain ⟨o, n, e, c, hd, _⟩ := pl
      exact ⟨o, e, hd⟩
    · refine ⟨⟨o, I.kIn p o hk, hc⟩, fun a e => ?_⟩
      cases e
      exact ⟨o, I.kIn _ o hk, hd⟩
    · have z : ∃ o, s.heap.get? p = some o ∧ o.ExactDict := by
        rcases hk with ⟨kvs, hk⟩ | ⟨kvs, hk⟩
        · obtain ⟨_, _, _, _, o, _, _, e, ex, _⟩ := I.hok p _ hk
          exact ⟨o, e, ex⟩
        · obtain ⟨_, _, _, _, o, _, _, e, ex, _⟩ := I.hok p _ hk
          exact ⟨o, e, ex⟩
      obtain ⟨o, e, ex⟩ := z
      refine ⟨⟨o, e, ex.1⟩, fun a e2 => ?_⟩
      cases e2
      exact ⟨o, e, ex.2.1⟩
    · obtain ⟨o, _, _, _, e, ex, _⟩ := I.hok p _ hk
      refine ⟨⟨o, e, ex.1⟩, fun a e2 => ?_⟩
      cases e2
      exact ⟨o, e, ex.2.1⟩
  | _ => exact False.elim ty
def tBM0 (K : PySem.W.Frag) (T : String) (r : V → List V → Hp → VK → Prop) (to : TE) : TE := fun σ H Q => to σ H fun x H1 => tyV K T x H1 ∧ r x [] H1 Q
def tBM (K : PySem.W.Frag) (T : String) (r : V → List V → Hp → VK → Prop) (to : TE) (t : TA) : TE := fun σ H Q => to σ H fun x H1 => tyV K T x H1 ∧ t σ H1 fun xs H2 => r x xs H2 Q
variable {o e : Expr} {es : List Expr} {to : TE} {t : TA} {name : Str} {apos cpos : Pos} {T id : String} {r : V → List V → Hp → VK → Prop}
theorem pe_bm0 (pa : PlainAttrs T) (slot : Slot T name id) (hty : typeOf (.builtin id) = pure (.type "method_descriptor")) (hm : MtR X id r) (ho : PE X o to)
    (hbase : attributeBase o name X.env (eval o X.env) = eval o X.env := by rfl) (hline : (apos.endLine == cpos.line) = true := by rfl) : PE X (.Call (.Attribute o name apos) [] [] cpos) (tBM0 X.K T r to) := by
  intro pins s σ H Q I h
  refine wpAny_Call_method0_late hbase hline (thn (ho pins s σ H _ I h) fun v s1 ⟨x, H1, I1, r1, ty, q1⟩ => ?_)
  obtain ⟨h1, h2⟩ := tyV_is I1 r1 ty
  exact ⟨T, id, pa, slot, hty, h1, h2, Calls.callWith_builtin rfl (PySem.evalArgs_none (hm pins s1 σ H1 x [] v [] Q I1 r1 .nil q1))⟩
theorem pe_bm (pa : PlainAttrs T) (slot : Slot T name id) (hty : typeOf (.builtin id) = pure (.type "method_descriptor")) (hm : MtR X id r) (ho : PE X o to) (ha : PA X (e :: es) t)
    (hbase : attributeBase o name X.env (eval o X.env) = eval o X.env := by rfl)
    (hfew : ((backTo cpos (starEach (e :: es) X.env)).all (fun x => !x.1) && (backToKw cpos (keywordEach [] X.env)).all (fun x => x.1.isSome)
      && decide ((e :: es).length + ([] : List Keyword).length + (if ([] : List Keyword).isEmpty then 0 else 1) < 30)) = true := by rfl)
    (hline : (apos.endLine == cpos.line) = true := by rfl) (hs : starEach (e :: es) X.env = (false, eval e X.env) :: starEach es X.env := by rfl) (hplain : (backTo cpos (starEach es X.env)).any (·.1) = false := by rfl) :
    PE X (.Call (.Attribute o name apos) (e :: es) [] cpos) (tBM X.K T r to t) := by
  intro pins s σ H Q I h
  refine wpAny_Call_method_late hbase hfew hline rfl (thn (ho pins s σ H _ I h) fun v s1 ⟨x, H1, I1, r1, ty, q1⟩ => ?_)
  obtain ⟨h1, h2⟩ := tyV_is I1 r1 ty
  refine ⟨T, id, pa, slot, hty, h1, h2, ?_⟩
  have hA := ha cpos pins s1 σ H1 _ I1 q1
  rw [hs] at hA ⊢
  refine Calls.callWith_builtin (by show (false || (backTo cpos (starEach es X.env)).any (·.1)) = false; rw [hplain] <;> rfl) (Calls.evalArgs_plain ?_)
  exact thn hA fun us s2 ⟨vs, H2, I2, r2, q2⟩ => hm pins s2 σ H2 x vs v us Q I2 r1 r2 q2
/- xs.append(e), list.index on a module's tuple .. are MtR facts of 06m -/
end
end L2

namespace L2
open PySem PySem.Spec PyProof.Rows

def MtM (X : Cx) (id : String) (r : V → List V → Hp → VK → Prop) : Prop :=
  ∀ (pins : List (Addr × Obj)) (s : Shared) (σ : St) (H : Hp) (x : V) (xs : List V) (v : Value) (us : List Value) (Q : VK), Inv X pins σ H s → RelV x v → Vals xs us → r x xs H Q →
    wpAny (model X.prog X.w) X.A (call (.builtin id) (v :: us)) (EP X pins σ Q) X.xe s

/-! ### lists of values -/
theorem Vals.one : ∀ {x : V} {us : List Value}, Vals [x] us → ∃ u, us = [u] ∧ RelV x u
  | _, _, .cons r .nil => ⟨_, rfl, r⟩
theorem Vals.two : ∀ {x y : V} {us : List Value}, Vals [x, y] us → ∃ u v, us = [u, v] ∧ RelV x u ∧ RelV y v
  | _, _, _, .cons r (.cons q .nil) => ⟨_, _, rfl, r, q⟩
theorem Vals.zero : ∀ {us : List Value}, Vals [] us → us = []
  | _, .nil => rfl
theorem Vals.dropLast {xs : List V} {us : List Value} (h : Vals xs us) : Vals xs.dropLast us.dropLast := by
  induction h with
  | nil => exact .nil
  | cons r t ih =>
    cases t with
    | nil => exact .nil
    | cons q t' => exact .cons r ih
theorem Vals.eraseIdx : ∀ {xs : List V} {us : List Value} (i : Nat), Vals xs us → Vals (xs.eraseIdx i) (us.eraseIdx i)
  | _, _, _, .nil => .nil
  | _, _, 0, .cons _ t => t
  | _, _, i + 1, .cons r t => .cons r (Vals.eraseIdx i t)
theorem Vals.reverse {xs : List V} {us : List Value} (h : Vals xs us) : Vals xs.reverse us.reverse := by
  induction h with
  | nil => exact .nil
  | cons r t ih => rw [List.reverse_cons, List.reverse_cons]; exact Vals.append ih (.cons r .nil)

section
variable {X : Cx} {pins : List (Addr × Obj)} {σ : St} {H : Hp} {s : Shared} {l b : Addr} {xs ys zs : List V}

/-! ### the two steps: a tracked list is rewritten, a new list is laid -/
theorem Inv.lset {its its' : List Value} {n : Nat} {f : Array Value → Array Value} {t' : Nat} (I : Inv X pins σ H s) (hH : H l = some (.lst xs))
    (e : s.heap.get? l = some { cls := .type "list", data := .seq its.toArray n }) (hf : f its.toArray = its'.toArray) (hv : Vals ys its') (hz : ys.length ≤ sizeLine) :
    Inv X pins σ (upd H l (.lst ys)) { s with heap := s.heap.update l (Obj.mapSeq f), toks := t' } := by
  have q := PySem.IsL.update e f
  rw [hf] at q
  refine I.write (x := l) (e := l) (by rw [hH]; exact trivial) (.inl rfl) (fun b' u hb hu => (Heap.get?_update_other s.heap (Obj.mapSeq f) (Ne.symm hb)).trans hu) ⟨_, q⟩ ?_
  exact ⟨hz, its', _, hv, q⟩
theorem Inv.lnew {its : List Value} {t' : Nat} (I : Inv X pins σ H s) (hv : Vals ys its) (hz : ys.length ≤ sizeLine) :
    Inv X pins σ (upd H s.heap.objs.size (.lst ys)) { s with heap := s.heap.push { cls := .type "list", data := .seq its.toArray }, toks := t' } :=
  I.laid (fun _ _ q => Heap.get?_push_of_some _ q) (Nat.le_refl _) ⟨hz, its, 0, hv, Heap.get?_push_size _ rfl⟩
theorem Inv.fresh (I : Inv X pins σ H s) : H s.heap.objs.size = none := I.hok.fresh (Nat.le_refl _)
theorem Inv.lstM (I : Inv X pins σ H s) (hH : H l = some (.lst xs)) : xs.length ≤ sizeLine ∧ ∃ (its : List Value) (n : Nat), Vals xs its ∧ xs.length = its.length ∧ s.heap.get? l = some { cls := .type "list", data := .seq its.toArray n } := by
  obtain ⟨z, its, n, r, e⟩ := I.hok l _ hH
  exact ⟨z, its, n, r, r.length, e⟩

end

section
variable {X : Cx}

/-! ### methods -/
def rAppend : V → List V → Hp → VK → Prop := fun x vs H Q => ∃ l xs y, x = .ref l ∧ vs = [y] ∧ H l = some (.lst xs) ∧ xs.length < sizeLine ∧ Q .non (upd H l (.lst (xs ++ [y])))
theorem mt_append : MtM X "list.append" rAppend := by
  intro pins s σ H x vs v us Q I rx rv h
  obtain ⟨l, xs, y, rfl, rfl, hH, hz, q⟩ := h
  cases rx
  obtain ⟨u, rfl, ru⟩ := rv.one
  obtain ⟨z, its, n, r, hl, e⟩ := I.lstM hH
  refine call_meets F.slot_list_append ⟨_, e, rfl⟩ F.entry_list_append (F.args_list_append_2 _ _) (PySem.list_append l its.toArray n u (by rw [List.size_toArray]; omega)) ⟨e, ?_⟩
  refine ⟨.non, _, I.lset (its' := its ++ [u]) hH e (by simp) (r.append (.cons ru .nil)) ?_, rfl, q⟩
  rw [List.length_append, List.length_singleton]
  omega

def rExtend : V → List V → Hp → VK → Prop := fun x vs H Q => ∃ l b xs zs, x = .ref l ∧ vs = [.ref b] ∧ H l = some (.lst xs) ∧ H b = some (.lst zs) ∧ xs.length + zs.length ≤ sizeLine ∧ Q .non (upd H l (.lst (xs ++ zs)))

def rPop : V → List V → Hp → VK → Prop := fun x vs H Q => ∃ l xs y, x = .ref l ∧ vs = [] ∧ H l = some (.lst xs) ∧ xs[xs.length - 1]? = some y ∧ Q y (upd H l (.lst xs.dropLast))

def rPopAt : V → List V → Hp → VK → Prop := fun x vs H Q => ∃ l xs i k y, x = .ref l ∧ vs = [.int i] ∧ H l = some (.lst xs) ∧ -(2 ^ 63) ≤ i ∧ i < 2 ^ 63 ∧ seqIndex? i xs.length = some k ∧ xs[k]? = some y ∧ Q y (upd H l (.lst (xs.eraseIdx k)))

def rReverse : V → List V → Hp → VK → Prop := fun x vs H Q => ∃ l xs, x = .ref l ∧ vs = [] ∧ H l = some (.lst xs) ∧ Q .non (upd H l (.lst xs.reverse))

def rClear : V → List V → Hp → VK → Prop := fun x vs H Q => ∃ l xs, x = .ref l ∧ vs = [] ∧ H l = some (.lst xs) ∧ Q .non (upd H l (.lst []))

/-! ### list + list, list += list, list * int -/
def rCat : R2 := fun x y H Q => ∃ l b xs zs, x = .ref l ∧ y = .ref b ∧ H l = some (.lst xs) ∧ H b = some (.lst zs) ∧ xs.length + zs.length ≤ sizeLine ∧ ∀ p, H p = none → Q (.ref p) (upd H p (.lst (xs ++ zs)))
theorem op_cat : OpR X (binaryOp .Add) rCat := by
  intro pins s σ H x y v u Q I rx ry h
  obtain ⟨l, b, xs, zs, rfl, rfl, hH, hB, hz, q⟩ := h
  cases rx
  cases ry
  obtain ⟨z, its, n, r, hl, e⟩ := I.lstM hH
  obtain ⟨z2, its2, n2, r2, hl2, e2⟩ := I.lstM hB
  refine PySem.P.add_list e e2 ?_ (by rw [List.size_toArray, List.size_toArray]; omega)
  have ea : its.toArray ++ its2.toArray = (its ++ its2).toArray := by simp
  rw [ea]
  exact ⟨.ref _, _, I.lnew (t' := s.toks) (r.append r2) (by rw [List.length_append]; omega), rfl, q _ I.fresh⟩
/-- a list times an int (a negative one is nothing) -/
def rRep : R2 := fun x y H Q => ∃ l k xs, x = .ref l ∧ y = .int k ∧ H l = some (.lst xs) ∧ -(2 ^ 63) ≤ k ∧ k < 2 ^ 63 ∧ xs.length * k.toNat ≤ sizeLine ∧
  ∀ p, H p = none → Q (.ref p) (upd H p (.lst (List.replicate k.toNat xs).flatten))

/-! ### del xs[i] -/
end

/-! ### xs[a:b] = ys -/
section
variable {prog : Program} {w : World} {A : Around} {E : Value → Shared → Prop} {s : Shared}
end

section
variable {X : Cx}
end
end L2

namespace Att
open PySem PySem.W PySem.Calls PyProof.Rows

/-! ### the script -/
theorem ints_of_wellAll {P : Params} {h : Heap} : ∀ (ns : List Int) (vs : List Value), WellAll P h vs (ns.map WData.int) → IntsAre vs ns := by
  intro ns
  induction ns with
  | nil =>
    intro vs w
    rw [List.map_nil] at w
    cases w
    exact .nil
  | cons n ns ih =>
    intro vs w
    rw [List.map_cons] at w
    cases w with
    | cons a b =>
      cases a
      exact .cons _ _ (ih _ b)

theorem script_of {l : OpenLaw} {n : Nat} (hn : l.most = some n) {P : Params} {h : Heap} {args : List WData} {vals : List Value}
    (hpre : l.row.toRowW.claim.pre args = true) (hwl : WellAll P h vals args) :
    ∃ a vs ns, vals = [Value.ref a] ∧ args = [WData.list (ns.map WData.int)] ∧ h.get? a = some { cls := .type "list", data := .seq vs.toArray } ∧ IntsAre vs ns ∧ ns.length ≤ n := by
  have hsh : WShape.hasAll [] args [.list .int] = true := (pre_splitW hpre).1
  have hc : l.pre.holds [] { args := args } = true := (pre_splitW hpre).2
  obtain ⟨d, r, rfl, h1, h2⟩ := hasAllW_cons hsh
  obtain rfl := hasAllW_nil h2
  obtain ⟨xs, rfl, h3⟩ := hasW_list h1
  obtain ⟨ns, rfl⟩ := items_int h3
  have hlen : ns.length ≤ n := by
    unfold OpenLaw.pre at hc
    have h4 : (WTm.not (.lt (.lit (.int (n : Int))) (.len (.arg 0)))).holds [] { args := [.list (ns.map .int)] } = true := by
      have h4 := (holds_andW hc).1
      rw [hn] at h4
      exact h4
    have h5 := condW_of h4 (w_not (w_lt w_lit (w_len_list (w_arg rfl))))
    rw [List.length_map] at h5
    refine Nat.le_of_not_lt fun q => ?_
    have q' : (n : Int) < ((ns.length : Nat) : Int) := by omega
    first
      | (rw [decide_eq_true q'] at h5; exact absurd h5 (by decide))
      | (simp at h5; omega)
  cases hwl with
  | cons w1 w2 =>
    cases w2
    cases w1 with
    | list ho hall => exact ⟨_, _, ns, rfl, rfl, ho, ints_of_wellAll ns _ hall, hlen⟩

theorem post_true (l : OpenLaw) (args : List WData) : l.row.toRowW.claim.post args (.bool true) args = true :=
  postW_of (r := l.row.toRowW) (X := (true == true))
    (show WShape.has [] (.bool true) .bool = true by first | rfl | decide | simp [WShape.has, WShape.arms, WShape.armsAll])
    (show (WTm.eq .res (.lit (.bool true))).value [] { args := args, res := some (.bool true), after := args } = some (.bool (true == true)) from w_eq_bool (w_res rfl) w_lit) rfl

/-! ### the attachment: holds_open's last premise (the goal 'hc' behind k_head) from a wpAny of the law's body -/

/-- the same from a codeAny of the CALL (for a layer whose function contracts speak of calls) -/
theorem attach_call {l : OpenLaw} {n : Nat} {q : Program} {loose : List Str} {XP : (Str → Option Value) → Heap → Prop} {YP : World → Heap → Prop} {d : DefRec}
    (hn : l.most = some n) (hdf : d.params.defaults = [])
    (call : ∀ (w : World) (s₀ s₁ : Shared) (mg mb : Str → Option Value) (fa : Addr) (o : Obj) (pm cd doc : Value) (a : Addr) (vs : List Value) (ns : List Int),
      Ground q loose [] XP w s₀ mg mb s₁.heap → YP w s₁.heap →
      s₁.heap.get? fa = some o → o.data = .func (docDef d.name d.params d.body d.scope pm cd doc) → s₁.heap.CodeRec cd d.name → mg d.name = some (.ref fa) →
      s₁.heap.get? a = some { cls := .type "list", data := .seq vs.toArray } → IntsAre vs ns → ns.length ≤ n → s₁.gens = #[] →
      codeAny (model l.prog w) callerA (.call (.ref fa) ⟨[.ref a], []⟩) (fun r s' => r = .ok (.ret (.bool true)) ∧ OldK s₁.heap s'.heap ∧ s'.os = s₁.os ∧ AllBare s'.gens) s₁) :
    WalkO q loose XP YP l.row.toRowW d [] (fun f vs => PySem.call f vs) := by
  intro w s₀ s₁ mg mb G Y fa o pm cd doc dV kV ho hd hcd hD hmg hg args vals as hpre hlay hrd hwl hlo
  obtain rfl : dV = .none := Dflts.none hD hdf
  obtain rfl : kV = .none := Dflts.noKw hD
  obtain ⟨a, vs, ns, rfl, rfl, hobj, hints, hlen⟩ := script_of hn hpre hwl
  refine enter_call (codeAny_mono (call w s₀ s₁ mg mb fa o pm cd doc a vs ns G Y ho (fd_plain hd) hcd hmg hobj hints hlen hg) fun r s' hq => ?_)
  obtain ⟨rfl, h2, h3, h4⟩ := hq
  exact ⟨.inl ⟨.bool true, .bool true, [], rfl, fun _ => rfl, .bool true, post_true l _, fun _ => ⟨List.Pairwise.nil, fun _ hm => (nomatch hm)⟩⟩, h2, h3, h4⟩


/-! ### rules over ANY heap (no ledger) from facts about the written part K: the library's own take a ledger (News) for what they write -/
section
variable {prog : Program} {w : World} {A : Around} {E : Value → Shared → Prop} {s : Shared} {K : Frag}





/-! the whole heap as the ledger: makes every rule that writes through a ledger a rule over any heap -/
def noObjs (h : Heap) : Heap := { h with objs := #[] }
def ledger (h : Heap) (L d : Addr) : List (Addr × Obj) := (List.range h.objs.size).filterMap fun a => if a = L ∨ a = d then none else (h.get? a).map fun o => (a, o)

end
end Att

namespace L2
open PySem PySem.Spec PyProof.Rows

theorem vals_ints : ∀ {vs : List Value} {ns : List Int}, IntsAre vs ns → Vals (ns.map V.int) vs
  | _, _, .nil => .nil
  | _, _, .cons n t h => .cons ⟨t, rfl⟩ (vals_ints h)

/-- nothing is tracked but the script, known to the object (or it is an object of the module) -/
def Only (H : Hp) : Prop := ∀ b, H b = none ∨ ∃ o xs, H b = some (.frz o (.lst xs))

/-- THE HEAD: the law's promise, at the heap behind the top. F, the promise of the law's def, may use that base is part of the heap (so K.In base, base.Ns mainGlobals mg stand in Mod) -/
theorem law_call {P : Program} {w : World} {K : PySem.W.Frag} {mg mb : Str → Option Value} {CX : CXT} {k : Nat} {fa a : Addr} {fd : FuncData} {x : Str} {sp : Sp} {s₁ : Shared} {vs : List Value} {ns : List Int}
    (KX : K.In s₁.heap) (hns : s₁.heap.Ns mainGlobals mg) (hb : s₁.heap.Ns builtinsNs mb) (hbb : ∀ x : Str, x ≠ "__name__" → mb x = bootBuiltins x) (hlim : s₁.heap.NoLimit) (hg : s₁.gens = #[])
    (ha : s₁.heap.get? a = some { cls := .type "list", data := .seq vs.toArray }) (hi : IntsAre vs ns) (hl : ns.length ≤ sizeLine) (hr : Room k callerA)
    (F : ∀ base : Heap, K.In base → base.Ns mainGlobals mg → FnOk P w K mg base CX k fa fd [x] sp) (hbind : ∀ (s : Shared) (u : Value), BindsTo s fd ⟨[u], []⟩ [(x, u)])
    (hsp : ∀ H : Hp, Only H → SqL K H a (ns.map V.int) → sp [.ref a] H (fun v _ => v = .bl true) fun _ _ _ => False)
    (hCX : ∀ H e s', CX [] H s₁ (fun _ _ _ => False) e s' → False) :
    codeAny (model P w) callerA (.call (.ref fa) ⟨[.ref a], []⟩) (fun r s' => r = .ok (.ret (.bool true)) ∧ OldK s₁.heap s'.heap ∧ s'.os = s₁.os ∧ AllBare s'.gens) s₁ := by
  have rv := vals_ints hi
  have lenV := hi.length
  -- from an abstract heap in which nothing but the script may be tracked
  have core : ∀ H : Hp, Only H → SqL K H a (ns.map V.int) → HOk P w H s₁.heap → (∀ b, H b ≠ none → b = a) → (H a ≠ none → K.lookup a = none) →
      codeAny (model P w) callerA (.call (.ref fa) ⟨[.ref a], []⟩) (fun r s' => r = .ok (.ret (.bool true)) ∧ OldK s₁.heap s'.heap ∧ s'.os = s₁.os ∧ AllBare s'.gens) s₁ := by
    intro H hO hS hok hA hK
    have base_of : ∀ {b : Addr} {o : Obj}, s₁.heap.get? b = some o → H b = none → (hidT s₁.heap H).get? b = some o := fun e n => hidT_get e n
    have noA : ∀ {b : Addr} {o : Obj} {es : Array DictEntry} {ep : Nat}, s₁.heap.get? b = some o → o.data = .dict es ep → H b = none := fun {b o es ep} e d => by
      cases q : H b with
      | none => rfl
      | some u =>
        have e' : b = a := hA b (by rw [q]; simp)
        subst e'
        rw [ha] at e; cases e
        have d' : Data.seq vs.toArray _ = Data.dict es ep := d
        cases d'
    have nsK : ∀ {b : Addr} {m : Str → Option Value}, s₁.heap.Ns b m → (hidT s₁.heap H).Ns b m := fun {b m} ⟨o, es, ep, e, d, r⟩ => ⟨o, es, ep, base_of e (noA e d), d, r⟩
    have hKb : K.In (hidT s₁.heap H) := fun b o e => base_of (KX b o e) (by
      cases q : H b with
      | none => rfl
      | some u =>
        have e' : b = a := hA b (by rw [q]; simp)
        subst e'
        rw [hK (by rw [q]; simp)] at e; cases e)
    have hM : Mod K mg (hidT s₁.heap H) := ⟨hKb, nsK hns, ⟨mb, nsK hb, hbb⟩, let ⟨mc, h1, h2⟩ := hlim; ⟨mc, nsK h1, h2⟩⟩
    have e0 : Env0 P w K mg (hidT s₁.heap H) callerA [] s₁ H := ⟨rfl, hM, fun b o e => of_hidT e, Nat.le_of_eq (hidT_size _ _), trivial, fun b hb => absurd (show b ∈ ([] : List Addr) from hb) (by simp), hok, .of_eq hg⟩
    refine codeAny_mono ((F _ hKb (nsK hns)).run callerA [] s₁ H ⟨[.ref a], []⟩ [.ref a] [.ref a] _ _ hr e0 (hbind s₁ (.ref a)) (.cons rfl .nil) (hsp H hO hS)) fun r s' h => ?_
    cases r with
    | error e => exact (hCX H e s' h).elim
    | ok fl =>
      cases fl with
      | next => exact False.elim h
      | brk => exact False.elim h
      | cont => exact False.elim h
      | ret u =>
        obtain ⟨v, H', os, bare, un, hok', r', q⟩ := h
        have q' : v = .bl true := q
        subst q'
        obtain rfl : u = Value.bool true := r'
        refine ⟨rfl, OldK.of_keep fun b o e => ?_, os, bare⟩
        cases q : H b with
        | none => exact un.keep b o e q (by intro z; exact absurd (show b ∈ ([] : List Addr) from z) (by simp)) (by simp)
        | some u =>
          rcases hO b with z | ⟨ob, xs, z⟩
          · rw [q] at z; cases z
          · have z2 := un.frzs b ob _ z
            obtain ⟨e1, _⟩ := hok b _ z
            obtain ⟨e2, _⟩ := hok' b _ z2
            rw [e] at e1; cases e1
            exact e2
  cases hk : K.lookup a with
  | some o =>
    -- the script is one of the module's own objects
    have e := KX a o hk
    rw [ha] at e
    cases e
    refine core (fun _ => none) (fun _ => .inl rfl) (.inr ⟨_, vs.toArray, _, hk, rfl, rfl, rfl, by rw [List.size_toArray, lenV]; exact hl, by simpa using rv⟩) (fun b u z => by have z' : (none : Option HO) = some u := z; cases z') (fun b z => absurd rfl z) fun z => absurd rfl z
  | none =>
    refine core (fun b => if b = a then some (.frz { cls := .type "list", data := .seq vs.toArray } (.lst (ns.map V.int))) else none) (fun b => ?_) (.inl (.inr ⟨{ cls := .type "list", data := .seq vs.toArray }, if_pos rfl⟩)) (fun b u z => ?_) (fun b z => ?_) fun _ => hk
    · by_cases hb : b = a
      · exact .inr ⟨_, _, if_pos hb⟩
      · exact .inl (if_neg hb)
    · by_cases hb : b = a
      · have z' := (if_pos hb).symm.trans z
        cases z'
        subst hb
        exact ⟨ha, by rw [List.length_map]; exact hl, vs, _, rv, ha⟩
      · have z' := (if_neg hb).symm.trans z
        cases z'
    · by_cases hb : b = a
      · exact hb
      · exact absurd (if_neg hb) z
end L2

namespace L2
open PySem PySem.Spec PyProof.Rows

abbrev KOf {K : PySem.W.Frag} {h : Heap} (_ : K.In h) : PySem.W.Frag := K

/-- the goal that k_head leaves (case hc), from the law's promise. F gives the function object fd (K's own) once, then the promise over every base -/
theorem walk_of {l : PySem.W.OpenLaw} {n k : Nat} {q : Program} {loose : List Str} {XP : (Str → Option Value) → Heap → Prop} {YP : World → Heap → Prop} {d : DefRec} {K : Params → PySem.W.Frag} {CX : World → CXT} {sp : World → Sp} {x : Str}
    (hn : l.most = some n) (hn2 : n ≤ sizeLine) (hdf : d.params.defaults = []) (hr : Room k callerA)
    (hY : ∀ (w : World) (h : Heap), YP w h → (K w.params).In h)
    (F : ∀ (w : World) (mg : Str → Option Value) (fa : Addr) (h : Heap), (K w.params).In h → h.Ns mainGlobals mg → mg d.name = some (.ref fa) →
      ∃ fd : FuncData, (∀ (s : Shared) (u : Value), BindsTo s fd ⟨[u], []⟩ [(x, u)]) ∧
        ∀ base : Heap, (K w.params).In base → base.Ns mainGlobals mg → FnOk l.prog w (K w.params) mg base (CX w) k fa fd [x] (sp w))
    (hsp : ∀ (w : World) (H : Hp) (a : Addr) (ns : List Int), ns.length ≤ n → Only H → SqL (K w.params) H a (ns.map V.int) → sp w [.ref a] H (fun v _ => v = .bl true) fun _ _ _ => False)
    (hCX : ∀ (w : World) (H : Hp) (s : Shared) (e : Value) (s' : Shared), CX w [] H s (fun _ _ _ => False) e s' → False) :
    PySem.W.WalkO q loose XP YP l.row.toRowW d [] (fun f vs => PySem.call f vs) := by
  refine Att.attach_call hn hdf fun w s₀ s₁ mg mb fa o pm cd doc a vs ns G Y ho hd hcd hmg hobj hints hlen hg => ?_
  have KX := hY w _ Y
  obtain ⟨fd, hb, hF⟩ := F w mg fa _ KX G.T.g hmg
  exact law_call KX G.T.g G.T.b G.T.builtins G.T.nolimit hg hobj hints (Nat.le_trans hlen hn2) hr hF hb (fun H hO hS => hsp w H a ns hlen hO hS) fun H e s' => hCX w H s₁ e s'
end L2

/- THE LAST THEOREM (shape; LID, My.* are yours):
   My.Adr: a structure of the addresses that your layer names (classes, functions); My.Txt K t: a structure (Prop) of the equations over K;
   My.txt_mk : {K} {implicit addresses ..} (e1 : nsIn K mainGlobals "law" = some (some (.ref f))) (e2 : K.lookup f = some ⟨oc, od, .func (fnOf "law" "law" params body scope dV kV doc pm an cdv ct), sl⟩) (e3 : codeIn K cdv "law" = true) .. : ∃ t, My.Txt K t

set_option maxRecDepth 100000 in
set_option maxHeartbeats 0 in
theorem PySem.Challenge.cw_LID_holds : PySem.Challenge.rw_LID.Holds := by
  w_on; o_law; k_head; (case hw => w_witness2)
  k_fill
  refine L2.walk_of (l := PySem.Challenge.rw_LID) (n := 63) (k := 40) (x := "script") (CX := fun w => ..) (sp := fun _ => My.sp_law) rfl (by decide) rfl ⟨rfl, by decide, by decide⟩ (fun w h Y => PySem.W.kIn_of Y) ?F ?S ?C
  case F =>
    intro w mg fa h KX G hmg
    have T : ∃ t, My.Txt (L2.KOf KX) t := by
      dsimp only [L2.KOf]                          -- K must stand as «<heap const> w.params» for k_is
      refine' My.txt_mk ?e1 ?e2 ?e3 ..
      (case e1 => PySem.W.k_is)                    -- in the order: a name -> its address -> its object -> its parts
      (case e2 => PySem.W.k_is)
      ..
    obtain ⟨t, T⟩ := T
    have e0 := hmg.symm.trans (PySem.W.mg_of KX G T.law)
    cases e0                                       -- fa is the law's own address
    exact ⟨_, fun s u => .of_eq rfl, fun base kb nb => My.law_fn T kb nb⟩     -- if «.of_eq rfl» comes too early: refine' ⟨_, ?b, fun base kb nb => My.law_fn T kb nb⟩; exact fun s u => .of_eq rfl
  case S => exact fun w H a ns hl hO hS => ..
  case C => exact ..
(the tactic k_is has no namespace: write k_is) -/

/-! SHORT WORDS over the layer: a def of the text, its body, what a loop and a test want. -/
namespace L2
open PySem PySem.Spec PyProof.Rows

/-! ### the text by places -/
/-- the j-th statement of a class's body -/
def inClass (s : Stmt) (j : Nat) : Stmt := match s with
  | .ClassDef _ _ _ body _ _ _ _ _ _ _ => body.getD j (.Pass ⟨0, 0, 0, 0⟩)
  | _ => .Pass ⟨0, 0, 0, 0⟩
def defArgs (s : Stmt) : Arguments := match s with
  | .FunctionDef _ a _ _ _ _ _ _ _ _ => a
  | _ => { posonlyargs := [], args := [], vararg := none, kwonlyargs := [], kw_defaults := [], kwarg := none, defaults := [] }
def defBody (s : Stmt) : List Stmt := match s with
  | .FunctionDef _ _ b _ _ _ _ _ _ _ => b
  | _ => []
def defScope (s : Stmt) : Scope := match s with
  | .FunctionDef _ _ _ _ _ _ sc _ _ _ => sc
  | _ => { kind := .function, names := [], isGenerator := false, isCoroutine := false }

/-! ### no exception leaves a def -/
abbrev CX0 : CXT := fun _ _ _ _ _ _ => False
abbrev E0 : XK := fun _ _ _ => False

/-! ### a def (or method) of the text as it stands behind the top -/
structure Fun (K : PySem.W.Frag) (x qual : Str) (st : Stmt) (f : Addr) (fd : FuncData) : Prop where
  ex : ∃ (oc : Value) (od : Option Addr) (kV doc pm : Value) (an : Option Addr) (cdv ct : Value) (osl : Array (Option Value)),
    fd = PySem.W.fnOf x qual (defArgs st) (defBody st) (defScope st) .none kV doc pm an cdv ct ∧ K.lookup f = some ⟨oc, od, .func fd, osl⟩ ∧ PySem.W.codeIn K cdv qual = true
  kp : PySem.W.keepIn K (.ref f) = true
section
variable {P : Program} {w : World} {K : PySem.W.Frag} {mg : Str → Option Value} {base : Heap}
/-- THE RULE for a def: its body as a term of rules, and the reading of that term -/
theorem Fun.ok {x qual : Str} {st : Stmt} {f : Addr} {fd : FuncData} {N ps : List Str} {k : Nat} {sp : Sp} (F : Fun K x qual st f fd) (S : FnScope N ps (defScope st)) (len : ∀ vs H Q E, sp vs H Q E → vs.length = ps.length)
    (hbody : ∀ (cdv : Value) (A : Around) (outer : List Env) (s : Shared) (H : Hp) (vs : List V) (Q : VK) (E : XK), Room k (A.deeper (envOfC qual (defScope st) s.heap.objs.size f cdv)) → sp vs H Q E →
      ∃ t, PSs (cxOf CX0 P w K mg base N qual (defScope st) f cdv A outer s H E).nox (defBody st) t ∧ t { nx := fun _ H' => Q .non H', rt := Q } (start N vs) H) : FnOk P w K mg base CX0 (k + 1) f fd ps sp := by
  obtain ⟨oc, od, kV, doc, pm, an, cdv, ct, osl, rfl, lk, hcd⟩ := F.ex
  refine fn_of lk hcd S len fun A outer s H vs Q E hr hsp => ?_
  obtain ⟨t, h, q⟩ := hbody cdv A outer s H vs Q E hr hsp
  exact ⟨t, h.nox, q⟩
/-- how its arguments bind (no defaults): h is «fun _ _ _ _ _ _ us hl => match us, hl with | [_, _], _ => rfl», one _ a parameter -/
theorem Fun.binds {x qual : Str} {st : Stmt} {f : Addr} {fd : FuncData} {ps : List Str} (F : Fun K x qual st f fd)
    (h : ∀ (kV doc pm : Value) (an : Option Addr) (cdv ct : Value) (us : List Value), us.length = ps.length → bindArgs (PySem.W.fnOf x qual (defArgs st) (defBody st) (defScope st) .none kV doc pm an cdv ct) ⟨us, []⟩ = pure (ps.zip us)) : Binds K fd ps [] := by
  obtain ⟨oc, od, kV, doc, pm, an, cdv, ct, osl, rfl, lk, hcd⟩ := F.ex
  exact .all (h kV doc pm an cdv ct)
theorem fun_mk {x qual : Str} {st : Stmt} {f : Addr} {oc : Value} {od an : Option Addr} {osl : Array (Option Value)} {kV doc pm cdv ct : Value} (l : K.lookup f = some ⟨oc, od, .func (PySem.W.fnOf x qual (defArgs st) (defBody st) (defScope st) .none kV doc pm an cdv ct), osl⟩)
    (c : PySem.W.codeIn K cdv qual = true) (k : PySem.W.keepIn K (.ref f) = true) : Fun K x qual st f (PySem.W.fnOf x qual (defArgs st) (defBody st) (defScope st) .none kV doc pm an cdv ct) := ⟨⟨oc, od, kV, doc, pm, an, cdv, ct, osl, rfl, l, c⟩, k⟩
end
theorem hu_of {A : Around} {k : Nat} (hr : Room k A) : A.units + 1 < cLine := Nat.lt_of_le_of_lt (Nat.add_le_add_left (by decide : 1 ≤ 64) _) hr.units

/-! ### expressions in short: the name that stands in the i-th slot -/
section
variable {X : Cx}
theorem pv (i : Nat) {x : Str} {pos : Pos} (hN : X.N[i]? = some x := by rfl) (hv : Vis X.env.scope x := by first | exact Or.inl rfl | exact Or.inr (Or.inl rfl) | exact Or.inr (Or.inr rfl)) (hd : (x == ("__debug__" : Str)) = false := by decide)
    (hcd : (x == ("__classdict__" : Str)) = false := by decide) : PE X (.Name x pos) (tVar i) := pe_var hN hv hd hcd
end

/-! ### tests -/
theorem iteF {A B : Prop} (h : B) : if false = true then A else B := by
  rw [if_neg Bool.false_ne_true]
  exact h
theorem iteT {A B : Prop} (h : A) : if true = true then A else B := by
  rw [if_pos rfl]
  exact h
theorem ite2 {c A B : Prop} [Decidable c] (h1 : c → A) (h2 : ¬ c → B) : if c then A else B := by
  by_cases h : c
  · rw [if_pos h]
    exact h1 h
  · rw [if_neg h]
    exact h2 h

/-! ### heaps -/
/-- all that was tracked is as it was -/
def Same (H H' : Hp) : Prop := ∀ b o, H b = some o → H' b = some o
theorem Same.refl (H : Hp) : Same H H := fun _ _ h => h
theorem Same.trans {H H1 H2 : Hp} (a : Same H H1) (b : Same H1 H2) : Same H H2 := fun c o h => b c o (a c o h)
theorem Same.free {H H' : Hp} (e : Same H H') {l : Addr} (h : H' l = Option.none) : H l = Option.none := by
  cases q : H l with
  | none => rfl
  | some o =>
    rw [e l o q] at h
    cases h
theorem Same.seq {K : PySem.W.Frag} {H H' : Hp} {a : Addr} {xs : List V} (e : Same H H') (h : SqL K H a xs) : SqL K H' a xs := by
  rcases h with (h | ⟨o, h⟩) | h
  · exact .inl (.inl (e _ _ h))
  · exact .inl (.inr ⟨o, e _ _ h⟩)
  · exact .inr h

end L2

set_option maxHeartbeats 4000000

namespace L2
open PySem PySem.Spec PyProof.Rows

/-! ### the cells that a block closes over -/
theorem forIn_pure {α β : Type} {f : α → β → Sem (ForInStep β)} {g : β → α → β} : ∀ (l : List α) (c : β), (∀ x ∈ l, ∀ c, f x c = pure (.yield (g c x))) → forIn l c f = pure (l.foldl g c)
  | [], _, _ => rfl
  | x :: l, c, h => by
    rw [List.forIn_cons, h x List.mem_cons_self, pure_bind]
    exact forIn_pure l (g c x) fun y hy => h y (List.mem_cons_of_mem _ hy)
def closStep (env : Env) (acc : List (Str × Addr)) (x : Str × NameKind) : List (Str × Addr) := if x.2 == .free then (x.1, (env.cells.lookup x.1).getD 0) :: acc else acc
def closL (env : Env) (names : List (Str × NameKind)) : List (Str × Addr) := names.foldl (closStep env) []
theorem closureFor_eq {scope : Scope} {env : Env} (h : ∀ x ∈ scope.names, x.2 = .free → ∃ c, env.cells.lookup x.1 = some c) : closureFor scope env = pure (closL env scope.names) := by
  simp only [closureFor]
  rw [forIn_pure (g := closStep env) scope.names [] (fun x hx c => by
    obtain ⟨n, kind⟩ := x
    by_cases hk : kind = .free
    · subst hk
      obtain ⟨a, ha⟩ := h _ hx rfl
      have ha' : env.cells.lookup n = some a := ha
      simp [closStep, cellOf, ha']
    · have hb : (kind == NameKind.free) = false := by simpa using hk
      simp [closStep, hb])]
  rfl
theorem closL_mem {env : Env} : ∀ (names : List (Str × NameKind)) (acc : List (Str × Addr)), (∀ x ∈ names, x.2 = .free → ∃ c, env.cells.lookup x.1 = some c) → (∀ p ∈ acc, env.cells.lookup p.1 = some p.2) →
    ∀ p ∈ names.foldl (closStep env) acc, env.cells.lookup p.1 = some p.2
  | [], _, _, h => h
  | x :: r, acc, hn, h => by
    refine closL_mem r _ (fun y hy => hn y (List.mem_cons_of_mem _ hy)) ?_
    intro p hp
    unfold closStep at hp
    split at hp
    · rename_i hk
      rcases List.mem_cons.mp hp with e | e
      · subst e
        obtain ⟨c, hc⟩ := hn x List.mem_cons_self (by simpa using hk)
        show env.cells.lookup x.1 = some ((env.cells.lookup x.1).getD 0)
        rw [hc]
        rfl
      · exact h p e
    · exact h p hp
theorem closL_sub {env : Env} : ∀ (names : List (Str × NameKind)) (acc : List (Str × Addr)) (p : Str × Addr), p ∈ acc → p ∈ names.foldl (closStep env) acc
  | [], _, _, h => h
  | x :: r, acc, p, h => by
    refine closL_sub r _ p ?_
    unfold closStep
    split
    · exact List.mem_cons_of_mem _ h
    · exact h
theorem closL_has {env : Env} : ∀ (names : List (Str × NameKind)) (acc : List (Str × Addr)) (x : Str), (x, NameKind.free) ∈ names → ∃ c, (x, c) ∈ names.foldl (closStep env) acc
  | y :: r, acc, x, h => by
    rcases List.mem_cons.mp h with e | e
    · subst e
      exact ⟨_, closL_sub r _ _ (by unfold closStep; rw [if_pos (by rfl)]; exact List.mem_cons_self)⟩
    · exact closL_has r _ x e
theorem lookup_of_mem {α : Type} : ∀ {l : List (Str × α)} {x : Str} {c : α}, (x, c) ∈ l → ∃ d, l.lookup x = some d
  | (y, d) :: r, x, c, h => by
    rw [List.lookup_cons]
    cases e : x == y with
    | true => exact ⟨d, rfl⟩
    | false =>
      rcases List.mem_cons.mp h with q | q
      · cases q
        rw [beq_self_eq_true] at e
        cases e
      · exact lookup_of_mem q
theorem lookup_relabel (env : Env) : ∀ (names : List (Str × NameKind)) (x : Str), (names.map fun (n, k) => if (k == NameKind.free && env.scope.kind == .function && env.kindOf n == some .cell) then (n, NameKind.cell) else (n, k)).lookup x =
    (names.lookup x).map fun k => if (k == NameKind.free && env.scope.kind == .function && env.kindOf x == some .cell) then NameKind.cell else k
  | [], _ => rfl
  | (n, k) :: r, x => by
    have ih := lookup_relabel env r x
    show List.lookup x ((if (k == NameKind.free && env.scope.kind == .function && env.kindOf n == some .cell) = true then (n, NameKind.cell) else (n, k)) :: _) = _
    have hr : ((n, k) :: r).lookup x = (match x == n with | true => some k | false => r.lookup x) := List.lookup_cons ..
    rw [hr]
    by_cases hc : (k == NameKind.free && env.scope.kind == .function && env.kindOf n == some .cell) = true
    · rw [if_pos hc, List.lookup_cons]
      cases hx : x == n with
      | true =>
        have e : x = n := eq_of_beq hx
        subst e
        show some NameKind.cell = some (if (k == NameKind.free && env.scope.kind == .function && env.kindOf x == some .cell) = true then NameKind.cell else k)
        rw [if_pos hc]
      | false => exact ih
    · rw [if_neg hc, List.lookup_cons]
      cases hx : x == n with
      | true =>
        have e : x = n := eq_of_beq hx
        subst e
        show some k = some (if (k == NameKind.free && env.scope.kind == .function && env.kindOf x == some .cell) = true then NameKind.cell else k)
        rw [if_neg hc]
      | false => exact ih

/-! ### the context of a comprehension's block -/
def cxC (X : Cx) (own : List Str) (scope : Scope) (cl : List (Str × Addr)) (C : Addr) (s : Shared) (H : Hp) (fp : List Addr) : Cx :=
  { X with N := own ++ X.N, s₀ := s, H₀ := H, env := compEnvC scope cl C X.env, outer := X.stack, stack := X.stack, ex := fp, fn := fun _ => false, xe := fun _ _ => False }
/-- the tests of a clause, one after another -/
def PTs (X : Cx) (ifs : List Expr) (t : TT) : Prop :=
  ∀ (pins : List (Addr × Obj)) (s : Shared) (σ : St) (H : Hp) (Q : Bool → Hp → Prop), Inv X pins σ H s → t σ H Q →
    wpAny (model X.prog X.w) X.A (forIn ifs true fun c r => if r = true then do let ok ← isTrue c X.env (eval c X.env); pure (ForInStep.yield ok) else pure (ForInStep.yield r)) (TP X pins σ Q) X.xe s
def tAll : TT := fun _ H Q => Q true H
theorem pts_nil {X : Cx} : PTs X [] tAll := fun _ _ _ H _ I h => wpAny_tests_nil ⟨H, I, h⟩
theorem pts_one {X : Cx} {c : Expr} {t : TT} (h : PT X c t) : PTs X [c] t := fun pins s σ H Q I q => wpAny_tests_one (h pins s σ H Q I q)
/-- the slots of the one are those of the other, or forgotten there -/
def Wk : St → St → Prop
  | [], [] => True
  | _ :: r, none :: t => Wk r t
  | a :: r, some v :: t => a = some v ∧ Wk r t
  | _, _ => False
theorem Wk.len : ∀ {a b : St}, Wk a b → b.length = a.length
  | [], [], _ => rfl
  | _ :: r, none :: t, h => congrArg (· + 1) (Wk.len (a := r) (b := t) h)
  | _ :: r, some _ :: t, h => congrArg (· + 1) (Wk.len (a := r) (b := t) h.2)
  | [], none :: _, h => h.elim
  | [], some _ :: _, h => h.elim
  | _ :: _, [], h => h.elim
theorem Wk.get : ∀ {a b : St} (i : Nat) (v : V), Wk a b → b[i]? = some (some v) → a[i]? = some (some v)
  | _ :: _, none :: _, 0, v, _, e => by simp at e
  | _ :: _, some _ :: _, 0, v, h, e => by simp at e ⊢; rw [h.1, e]
  | _ :: r, none :: t, i + 1, v, h, e => by simp at e ⊢; exact Wk.get (a := r) (b := t) i v h e
  | _ :: r, some _ :: t, i + 1, v, h, e => by simp at e ⊢; exact Wk.get (a := r) (b := t) i v h.2 e
  | [], [], i, v, h, e => by simp at e
  | [], none :: _, _, _, h, _ => h.elim
  | [], some _ :: _, _, _, h, _ => h.elim
  | _ :: _, [], _, _, h, _ => h.elim
theorem Wk.refl : ∀ (a : St), Wk a a
  | [] => trivial
  | none :: r => Wk.refl r
  | some _ :: r => ⟨rfl, Wk.refl r⟩
/-- what a comprehension does with the iterator J: W is what holds ahead of turn i, with a measure and what has been made -/
def CompR (J : It) (H : Hp) (k : Nat) (g : TG) (tt : TT) (te : TE) (σ : St) (Q : VK) : Prop := ∃ W : Nat → Nat → List V → Hp → Prop, (∃ m, W 0 m [] H) ∧ ∀ i m ys H, W i m ys H →
  (J.stop i H ∧ ys.length ≤ sizeLine ∧ ∀ p, H p = none → Q (.ref p) (upd H p (.lst ys))) ∨
  (J.go i H ∧ ys.length < sizeLine ∧ ∀ x H', J.yld i H x H' → g x (List.replicate k none ++ σ) H' fun σ2 H2 => Wk σ2 (List.replicate k none ++ σ) ∧ tt σ2 H2 fun ok H3 =>
    if ok = true then te σ2 H3 fun y H4 => ∃ m', m' < m ∧ W (i + 1) m' (ys ++ [y]) H4 else ∃ m', m' < m ∧ W (i + 1) m' ys H3)
/-- [elt for tg in iter if ..] -/
def tComp (wi : TI) (g : TG) (tt : TT) (te : TE) (k : Nat) : TE := fun σ H Q => wi σ H fun J H1 => CompR J H1 k g tt te σ Q

theorem compLoop_go {prog : Program} {w : World} {A : Around} {R : Result → Shared → Prop} {s : Shared} {elt target iter : Expr} {ifs : List Expr} {scope : Scope} {pos : Pos} {it acc : Value} {env : Env} (I : Nat → Shared → Prop)
    (turn : ∀ n s, I n s → wpAny (model prog w) A (pyNext it) (fun r s₁ => match r with
      | none => R (.ok .next) s₁
      | some v => wpAny (model prog w) A (letOwnedTupleGo target it v) (fun _ s₁' => wpAny (model prog w) A (assign target env v) (fun _ s₂ =>
          wpAny (model prog w) A (forIn ifs true fun c r => if r = true then do let ok ← isTrue c env (eval c env); pure (ForInStep.yield ok) else pure (ForInStep.yield r)) (fun ok s₃ =>
            if ok = true then wpAny (model prog w) A (eval elt env) (fun x s₄ =>
              wpAny (model prog w) A (call (.builtin "list.append") [acc, x]) (fun _ s₅ => ∃ m, m < n ∧ I m s₅) (fun _ _ => False) s₄) (fun _ _ => False) s₃
            else ∃ m, m < n ∧ I m s₃) (fun _ _ => False) s₂) (fun _ _ => False) s₁') (fun _ _ => False) s₁) (fun _ _ => False) s)
    (n : Nat) (h : I n s) :
    codeAny (model prog w) A (.compLoop (.ListComp elt [⟨target, iter, ifs, 0⟩] scope pos) 0 it acc env) R s := by
  refine codeAny_loop rfl I (fun n s hI => ?_) n h
  show wpAny _ A ((compTurn (.ListComp elt [⟨target, iter, ifs, 0⟩] scope pos) 0 it acc env).onRaise (fun x => do noteFrame x env; theTreesLotGoes x)) _ _ s
  refine wpAny_noted ?_
  rw [compTurn_list]
  refine wpAny_bind (wpAny_standAt (wpAny_bind (wpAny_mono (turn n s hI) (fun r s₁ h₁ => ?_) fun _ _ h' => h'.elim)))
  cases r with
  | none => exact wpAny_pure h₁
  | some v =>
    refine wpAny_bind (wpAny_mono h₁ (fun _ s₁' h₁' => ?_) fun _ _ h' => h'.elim)
    refine wpAny_bind (wpAny_mono h₁' (fun _ s₂ h₂ => wpAny_bind (wpAny_mono h₂ (fun ok s₃ h₃ => ?_) fun _ _ h' => h'.elim)) fun _ _ h' => h'.elim)
    cases ok with
    | false => exact wpAny_pure ⟨rfl, h₃⟩
    | true =>
      exact wpAny_bind (wpAny_bind (wpAny_mono h₃ (fun x s₄ h₄ => wpAny_bind (wpAny_mono h₄ (fun _ s₅ h₅ => wpAny_pure (wpAny_pure ⟨rfl, h₅⟩)) fun _ _ h' => h'.elim)) fun _ _ h' => h'.elim))

/-- the list that is being made -/
abbrev lo (its : List Value) (n : Nat) : Obj := { cls := .type "list", data := .seq its.toArray n }

structure CompOk (X : Cx) (own : List Str) (scope : Scope) : Prop where
  calm : X.calm = true
  cell : ∀ y ∈ scope.names, y.2 ≠ .cell
  kind : scope.kind = .function
  names : ∀ y ∈ scope.names, y.2 = .local → scope.names.lookup y.1 = some .local
  fr : ∀ y ∈ scope.names, y.2 = .free → X.env.scope.names.lookup y.1 = some .cell ∨ X.env.scope.names.lookup y.1 = some .free
  loc : ∀ y ∈ X.N, scope.names.lookup y ≠ some .local

/-- the same as tests, for closed texts -/
def compT1 (names : List (Str × NameKind)) : Bool := names.all fun y => (y.2 != .cell) && (y.2 != .local || names.lookup y.1 == some .local)
def compT2 (outer names : List (Str × NameKind)) : Bool := names.all fun y => y.2 != .free || outer.lookup y.1 == some .cell || outer.lookup y.1 == some .free
def compT3 (N : List Str) (names : List (Str × NameKind)) : Bool := N.all fun y => names.lookup y != some .local
theorem CompOk.of {X : Cx} {own : List Str} {scope : Scope} (hc : X.calm = true) (hk : scope.kind = .function) (h1 : compT1 scope.names = true) (h2 : compT2 X.env.scope.names scope.names = true) (h3 : compT3 X.N scope.names = true) : CompOk X own scope := by
  unfold compT1 at h1
  unfold compT2 at h2
  unfold compT3 at h3
  rw [List.all_eq_true] at h1 h2 h3
  refine ⟨hc, fun y hy => ?_, hk, fun y hy hl => ?_, fun y hy hf => ?_, fun y hy => ?_⟩
  · have := h1 y hy
    rw [Bool.and_eq_true] at this
    exact bne_iff_ne.mp this.1
  · have := h1 y hy
    rw [Bool.and_eq_true, hl] at this
    simpa using this.2
  · have := h2 y hy
    rw [hf] at this
    simpa using this
  · exact bne_iff_ne.mp (h3 y hy)
section
variable {X : Cx} {own : List Str} {scope : Scope} {pins : List (Addr × Obj)} {σ : St} {H : Hp} {s : Shared} {fp : List Addr}

theorem CompOk.cells (O : CompOk X own scope) (ok : X.Ok) : ∀ x ∈ scope.names, x.2 = .free → ∃ c, X.env.cells.lookup x.1 = some c := fun x hx hk => ok.has x.1 (O.fr x hx hk)
theorem CompOk.sub (O : CompOk X own scope) (ok : X.Ok) : ∀ x c, (closL X.env scope.names).lookup x = some c → X.env.cells.lookup x = some c := fun x c e =>
  closL_mem scope.names [] (O.cells ok) (fun _ h => nomatch h) (x, c) (PySem.mem_of_lookup e)
theorem CompOk.free_of (O : CompOk X own scope) {cl : List (Str × Addr)} {C : Addr} {x : Str} (h : (compEnvC scope cl C X.env).kindOf x = some .cell ∨ (compEnvC scope cl C X.env).kindOf x = some .free) : scope.names.lookup x = some .free := by
  have e : (compEnvC scope cl C X.env).kindOf x = (scope.names.lookup x).map fun k => if (k == NameKind.free && X.env.scope.kind == .function && X.env.kindOf x == some .cell) then NameKind.cell else k := lookup_relabel X.env scope.names x
  rw [e] at h
  cases q : scope.names.lookup x with
  | none => rw [q] at h; simp at h
  | some k =>
    rw [q] at h
    by_cases hk : k = .free
    · rw [hk]
    · have hc : k ≠ .cell := O.cell (x, k) (PySem.mem_of_lookup q)
      have hb : (k == NameKind.free) = false := by simpa using hk
      have hr : ¬ ((k == NameKind.free && X.env.scope.kind == .function && X.env.kindOf x == some .cell) = true) := by rw [hb]; exact Bool.false_ne_true
      have h : some (if (k == NameKind.free && X.env.scope.kind == .function && X.env.kindOf x == some .cell) = true then NameKind.cell else k) = some NameKind.cell ∨ some (if (k == NameKind.free && X.env.scope.kind == .function && X.env.kindOf x == some .cell) = true then NameKind.cell else k) = some NameKind.free := h
      rw [if_neg hr] at h
      rcases h with h | h
      · exact absurd (Option.some.inj h) hc
      · exact absurd (Option.some.inj h) hk
theorem CompOk.look (O : CompOk X own scope) (ok : X.Ok) {x : Str} (h : scope.names.lookup x = some .free) : ∃ c, (closL X.env scope.names).lookup x = some c ∧ X.env.cells.lookup x = some c := by
  obtain ⟨c, hc⟩ := closL_has scope.names [] (env := X.env) x (PySem.mem_of_lookup h)
  obtain ⟨d, hd⟩ := lookup_of_mem hc
  exact ⟨d, hd, O.sub ok x d hd⟩
theorem stk_of (I : Inv X pins σ H s) {b : Addr} (h1 : b ≠ X.env.locals) (h2 : b ∉ X.fs) : b ∉ frs X.stack := fun z => (List.mem_cons.mp (I.stkSub b z)).elim h1 h2

theorem comp_inv (O : CompOk X own scope) (I : Inv X pins σ H s) (hf : ∀ b ∈ fp, FpOk X pins H b) (ho : ∀ b ∈ fp, ∃ o, s.heap.get? b = some o) {h₁ : Heap} {C : Addr} {tk : Nat} {m : Str → Option Value}
    (hC : s.heap.objs.size < C) (hD : h₁.get? s.heap.objs.size = some (lo [] 0)) (old : ∀ b o, s.heap.get? b = some o → h₁.get? b = some o) (hns : h₁.Ns C m) :
    Inv (cxC X own scope (closL X.env scope.names) C s H fp) (pins ++ [(s.heap.objs.size, lo [] 0)]) (List.replicate own.length none ++ σ) H { s with heap := h₁, toks := tk } := by
  have ltD : ∀ {b : Addr} {o : Obj}, s.heap.get? b = some o → b < s.heap.objs.size := fun e => Heap.lt_size e
  have nC : ∀ {b : Addr} {o : Obj}, s.heap.get? b = some o → b ≠ C := fun e => Nat.ne_of_lt (Nat.lt_trans (ltD e) hC)
  have hsub := O.sub I.ok
  refine ⟨⟨I.ok.mod, by show (relabel scope X.env).kind = _; exact O.kind, I.ok.glob, I.ok.blt, Nat.le_of_lt hC, fun x y c h1 h2 => I.ok.inj x y c (hsub x c h1) (hsub y c h2), fun x hx => ?_, fun x c hx _ => absurd (show false = true from hx) Bool.false_ne_true, I.ok.hd, I.ok.frames, .inl rfl, fun b hb => ⟨?_, fun x c e => ?_⟩, I.bs, Nat.le_trans I.ok.bsz I.sz, fun b o e hb => ?_, fun b hb => stk_of I (hf b hb).2.1 (hf b hb).2.2.1, I.stack, I.stkFree⟩,
    rfl, I.bare, Un.kept old, ⟨m, hns, fun i x v e1 e2 e3 => ?_⟩, fun x c e => ?_, I.hok.fresh (Nat.le_of_lt hC), fun x c e => I.freeC x c (hsub x c e), fun p hp => ?_, I.hok.kept old, ?_⟩
  · obtain ⟨c, hc, _⟩ := O.look I.ok (O.free_of hx)
    exact ⟨c, hc⟩
  · obtain ⟨o, e⟩ := ho b hb
    exact nC e
  · exact (hf b hb).2.2.2.2.1 x c (hsub x c e)
  · rcases (hf b hb).2.2.2.1 with z | z
    · exact I.ok.noex b o e z
    · exact absurd (Nat.lt_of_lt_of_le (Heap.lt_size e) (Nat.le_trans I.ok.bsz z)) (Nat.lt_irrefl _)
  · have e1 : (own ++ X.N)[i]? = some x := e1
    by_cases hi : i < own.length
    · rw [List.getElem?_append_left (by simpa using hi), List.getElem?_replicate, if_pos hi] at e2
      cases e2
    · rw [List.getElem?_append_right (by simpa using hi), List.length_replicate] at e2
      rw [List.getElem?_append_right (by simpa using hi)] at e1
      have nl : (compEnvC scope (closL X.env scope.names) C X.env).kindOf x ≠ some .local := by
        have e : (compEnvC scope (closL X.env scope.names) C X.env).kindOf x = (scope.names.lookup x).map fun k => if (k == NameKind.free && X.env.scope.kind == .function && X.env.kindOf x == some .cell) then NameKind.cell else k := lookup_relabel X.env scope.names x
        rw [e]
        intro z
        cases q : scope.names.lookup x with
        | none => rw [q] at z; simp at z
        | some k =>
          rw [q] at z
          by_cases hk : k = .local
          · exact O.loc x (List.mem_of_getElem? e1) (by rw [q, hk])
          · have z : some (if (k == NameKind.free && X.env.scope.kind == .function && X.env.kindOf x == some .cell) = true then NameKind.cell else k) = some NameKind.local := z
            by_cases hc : (k == NameKind.free && X.env.scope.kind == .function && X.env.kindOf x == some .cell) = true
            · rw [if_pos hc] at z
              cases z
            · rw [if_neg hc] at z
              exact hk (Option.some.inj z)
      have hv : (compEnvC scope (closL X.env scope.names) C X.env).kindOf x = some .cell ∨ (compEnvC scope (closL X.env scope.names) C X.env).kindOf x = some .free := by
        rcases e3 with z | z | z
        · exact absurd z nl
        · exact .inl z
        · exact .inr z
      have hfree := O.free_of hv
      have hout := O.fr (x, .free) (PySem.mem_of_lookup hfree) rfl
      obtain ⟨m0, hn0, hl0⟩ := I.loc
      obtain ⟨u, r, l⟩ := hl0 _ x v e1 e2 (hout.elim (fun z => .inr (.inl z)) fun z => .inr (.inr z))
      refine ⟨u, r, .inr ⟨hv, ?_⟩⟩
      rcases l with ⟨k, _⟩ | ⟨_, c, ec, z⟩
      · have k' : X.env.scope.names.lookup x = some .local := k
        rcases hout with q | q
        · rw [q] at k'; cases k'
        · rw [q] at k'; cases k'
      · obtain ⟨d, hd1, hd2⟩ := O.look I.ok hfree
        rw [ec] at hd2
        cases hd2
        obtain ⟨oc, hoc, hdc⟩ := z
        exact ⟨c, hd1, oc, old _ _ hoc, hdc⟩
  · obtain ⟨v, o, hoc, hdc⟩ := I.cell x c (hsub x c e)
    exact ⟨v, o, old _ _ hoc, hdc⟩
  · have hp : p ∈ X.pn ++ (pins ++ [(s.heap.objs.size, lo [] 0)]) := hp
    rw [← List.append_assoc] at hp
    rcases List.mem_append.mp hp with hp | hp
    · obtain ⟨e, n, ne, nf, d⟩ := I.pin p hp
      exact ⟨old _ _ e, n, nC e, stk_of I ne nf, d⟩
    · cases List.mem_singleton.mp hp
      refine ⟨hD, I.hok.fresh (Nat.le_refl _), Nat.ne_of_lt hC, fun z => ?_, fun v z => by cases z⟩
      have z := I.stkSub _ z
      rcases List.mem_cons.mp z with z | z
      · exact absurd z (Nat.ne_of_gt I.lt)
      · exact I.nofs (Nat.le_refl _) z
  · show (List.replicate own.length none ++ σ).length = (own ++ X.N).length
    rw [List.length_append, List.length_append, List.length_replicate, I.len]

theorem comp_exit {cl : List (Str × Addr)} {C : Addr} {its : List Value} {n : Nat} {σ' : St} {H' : Hp} {s' : Shared} {ys : List V} {h' : Heap} (I : Inv X pins σ H s) (hf : ∀ b ∈ fp, FpOk X pins H b) (hC : s.heap.objs.size < C)
    (I' : Inv (cxC X own scope cl C s H fp) (pins ++ [(s.heap.objs.size, lo its n)]) σ' H' s') (hv : Vals ys its) (hz : ys.length ≤ sizeLine) (hs : Heap.SameBut C s'.heap h') :
    Inv X pins σ (upd H' s.heap.objs.size (.lst ys)) { s' with heap := h' } := by
  obtain ⟨eD, nD, neD, _, _⟩ := I'.pin (s.heap.objs.size, lo its n) (List.mem_append_right _ (List.mem_append_right _ List.mem_cons_self))
  have nC : ∀ {b : Addr} {o : Obj}, s.heap.get? b = some o → b ≠ C := fun e => Nat.ne_of_lt (Nat.lt_trans (Heap.lt_size e) hC)
  have nDD : ∀ {b : Addr} {o : Obj}, s.heap.get? b = some o → b ≠ s.heap.objs.size := fun e => Nat.ne_of_lt (Heap.lt_size e)
  have same : ∀ {b : Addr} {o : Obj}, b ≠ C → s'.heap.get? b = some o → h'.get? b = some o := fun hb e => (hs.2 _ hb).trans e
  have fC : H' C = none := I'.free
  have hb : Un (frs X.stack) fp H H' s.heap s'.heap := I'.base
  have hot : ∀ {b : Addr} {u : HO}, H b = some u → b ≠ s.heap.objs.size := fun e => Nat.ne_of_lt (I.hok.lt e)
  refine I.call' (s' := { s' with heap := h' }) (ch := fp) I'.os ⟨fun b o e q n1 n2 => same (nC e) (hb.keep b o e q n1 n2), fun b o e q n1 n2 => ?_, fun b o e q n2 => ?_, fun b o e n2 => ?_, fun b xs e => ?_, fun b o u e => ?_, fun b ps e => ?_⟩ ?_ I'.bare fun b hb' => ?_
  · obtain ⟨sl, q2⟩ := hb.slot b o e q n1 n2
    exact ⟨sl, same (nC e) q2⟩
  · rw [upd_ne (nDD e)]
    exact hb.free b o e q n2
  · obtain ⟨o', q2⟩ := hb.there b o e n2
    exact ⟨o', same (nC e) q2⟩
  · rw [upd_ne (hot e)]
    exact hb.tups b xs e
  · rw [upd_ne (hot e)]
    exact hb.frzs b o u e
  · obtain ⟨more, q2⟩ := hb.tbls b ps e
    exact ⟨more, by rw [upd_ne (hot e)]; exact q2⟩
  · intro b u e
    by_cases hbD : b = s.heap.objs.size
    · subst hbD
      rw [upd_same] at e
      cases e
      exact ⟨hz, its, n, hv, same neD eD⟩
    · rw [upd_ne hbD] at e
      have nD' : ∀ {c : Addr} {w : HO}, H' c = some w → c ≠ s.heap.objs.size := fun q z => by
        rw [z] at q
        have z2 : H' s.heap.objs.size = none := nD
        rw [z2] at q
        cases q
      refine (I'.hok b u e).stay (fun c v hc q => same ?_ q) (fun c q => by rw [upd_ne (nD' q)]; exact q) fun c xs q => by rw [upd_ne (nD' q)]; exact q
      rintro rfl
      rcases hc with z | z
      · rw [← z, fC] at e; cases e
      · rw [fC] at z; cases z
  · obtain ⟨_, f1, _, f3, f4, f5⟩ := hf b hb'
    exact ⟨f3, f1, f4, f5⟩

theorem append_at' {prog : Program} {w : World} {A : Around} {E : Value → Shared → Prop} {s : Shared} {l : Addr} {its : List Value} {n : Nat} {u : Value} {Q : Value → Shared → Prop} (e : s.heap.get? l = some (lo its n)) (hz : its.length ≤ sizeLine)
    (h : Q .none { s with heap := s.heap.update l (Obj.mapSeq (·.push u)) }) : wpAny (model prog w) A (call (.builtin "list.append") [.ref l, u]) Q E s :=
  call_meets F.slot_list_append ⟨_, e, rfl⟩ F.entry_list_append (F.args_list_append_2 _ _) (PySem.list_append l its.toArray n u (by rw [List.size_toArray]; omega)) ⟨e, h⟩

/-- what a comprehension comes to, used at once (use) or handed on -/
theorem comp_core {tg iter elt : Expr} {ifs : List Expr} {pos pos0 : Pos} {wi : TI} {g : TG} {tt : TT} {te : TE} {use : Option (Value → Sem Unit)} {Qp : Value → Shared → Prop} (O : CompOk X own scope) (hi : PI X tg iter wi)
    (hg : ∀ cl C s H fp, PG (cxC X own scope cl C s H fp) tg g) (ht : ∀ cl C s H fp, PTs (cxC X own scope cl C s H fp) ifs tt) (he : ∀ cl C s H fp, PE (cxC X own scope cl C s H fp) elt te)
    (hs : ∀ x, foldedSetIterable iter X.env x = pure x) {pins : List (Addr × Obj)} {s : Shared} {σ : St} {H : Hp} {Q : VK} (I : Inv X pins σ H s) (h : tComp wi g tt te own.length σ H Q)
    (fin : ∀ (s2 : Shared) (H2 : Hp) (fp : List Addr) (C : Addr) (cl : List (Str × Addr)) (its : List Value) (nn : Nat) (σ' : St) (H' : Hp) (s5 : Shared) (ys : List V), Inv X pins σ H2 s2 → (∀ b ∈ fp, FpOk X pins H2 b) → s2.heap.objs.size < C →
      Inv (cxC X own scope cl C s2 H2 fp) (pins ++ [(s2.heap.objs.size, lo its nn)]) σ' H' s5 → Vals ys its → ys.length ≤ sizeLine → (∀ p, H' p = none → Q (.ref p) (upd H' p (.lst ys))) →
      compPost (model X.prog X.w) X.A X.xe use Qp (.ref s2.heap.objs.size) C (.ok .next) s5) :
    wpAny (model X.prog X.w) X.A (comprehension (.ListComp elt [⟨tg, iter, ifs, 0⟩] scope pos) scope X.env pos0 (newList []) false (eval iter X.env) use) Qp X.xe s := by
  refine wpAny_comprehension_free (use := use) rfl hs (closureFor_eq (O.cells I.ok)) O.kind O.names (thn (hi pins s σ H _ I h) fun v s1 h1 => thn h1 fun itv s2 h2 => ?_)
  obtain ⟨it, fp, tn, J, H2, rfl, I2, T, st2, f2, W, ⟨m0, w0⟩, turn⟩ := h2
  refine wpAny_newObj_type (wpAny_newFunctionEnv O.cell (by intro y hy; simp at hy) (fun h₁ hns₁ hsb₁ => ?_) O.kind)
  dsimp only at hns₁ hsb₁ ⊢
  generalize hH2 : s2.heap.push { cls := .type "list", dict := none, data := .seq ([] : List Value).toArray } = Hh at hns₁ hsb₁ ⊢
  have hCs : Hh.objs.size = s2.heap.objs.size + 1 := by rw [← hH2, Heap.size_push]
  have hC : s2.heap.objs.size < Hh.objs.size := by rw [hCs]; exact Nat.lt_succ_self _
  have old : ∀ b o, s2.heap.get? b = some o → h₁.get? b = some o := fun b o e => hsb₁.extBut b o (Nat.ne_of_lt (Nat.lt_trans (Heap.lt_size e) hC)) (Heap.get?_push_of_some _ (hH2 ▸ Heap.get?_push_of_some _ e))
  have hacc : h₁.get? s2.heap.objs.size = some (lo [] 0) := hsb₁.extBut _ _ (Nat.ne_of_lt hC) (Heap.get?_push_of_some _ (hH2 ▸ Heap.get?_push_size _ rfl))
  have hob : ∀ b ∈ fp, ∃ o, s2.heap.get? b = some o := fun b hb => let ⟨o, e, _⟩ := T.obj _ _ st2 b hb; ⟨o, e⟩
  have st3 : tn 0 h₁ := T.keep _ _ _ st2 fun b _ o e => old b o e
  have pinlt : ∀ p ∈ X.pn ++ pins, p.1 < s2.heap.objs.size := fun p hp => Heap.lt_size (I2.pin p hp).1
  have loop : ∀ s₃ : Shared, s₃ = { s2 with heap := h₁, toks := s2.toks + ([] : List (Str × Value)).length } →
      codeAny (model X.prog X.w) X.A (.compLoop (.ListComp elt [⟨tg, iter, ifs, 0⟩] scope pos) 0 (.ref it) (.ref s2.heap.objs.size) (compEnvC scope (closL X.env scope.names) Hh.objs.size X.env))
        (compPost (model X.prog X.w) X.A X.xe use Qp (.ref s2.heap.objs.size) Hh.objs.size) s₃ := by
    rintro s₃ rfl
    have I3 := comp_inv (tk := s2.toks + ([] : List (Str × Value)).length) O I2 f2 hob hC hacc old hns₁
    have stat : ∀ {o : Obj} {H' : Hp}, (∀ b ∈ fp, H' b = none) → ∀ b ∈ fp, FpOk (cxC X own scope (closL X.env scope.names) Hh.objs.size s2 H2 fp) (pins ++ [(s2.heap.objs.size, o)]) H' b := fun {o H'} hn b hb => by
      obtain ⟨o', eo⟩ := hob b hb
      refine ⟨hn b hb, Nat.ne_of_lt (Nat.lt_trans (Heap.lt_size eo) hC), stk_of I2 (f2 b hb).2.1 (f2 b hb).2.2.1, .inl hb, fun x c e => (f2 b hb).2.2.2.2.1 x c (O.sub I2.ok x c e), fun p hp => ?_⟩
      have hp : p ∈ X.pn ++ (pins ++ [(s2.heap.objs.size, o)]) := hp
      rw [← List.append_assoc] at hp
      rcases List.mem_append.mp hp with hp | hp
      · exact (f2 b hb).2.2.2.2.2 p hp
      · cases List.mem_singleton.mp hp
        exact Nat.ne_of_gt (Heap.lt_size eo)
    refine compLoop_go (fun n s' => ∃ i ys its nn σ' H', Inv (cxC X own scope (closL X.env scope.names) Hh.objs.size s2 H2 fp) (pins ++ [(s2.heap.objs.size, lo its nn)]) σ' H' s' ∧ Wk σ' (List.replicate own.length none ++ σ) ∧ tn i s'.heap ∧ (∀ b ∈ fp, H' b = none) ∧ Vals ys its ∧ W i n ys H')
      ?_ m0 ⟨0, [], [], 0, _, H2, I3, Wk.refl _, st3, fun b hb => (f2 b hb).1, .nil, w0⟩
    rintro n s4 ⟨i, ys, its, nn, σ4, H4, I4', wk4, st4, fr4, vs4, w4⟩
    have I4 := I4'.weak (σ' := List.replicate own.length none ++ σ) wk4.len (fun i v => wk4.get i v)
    rcases turn i n ys H4 w4 with ⟨stop, hz, qn⟩ | ⟨go, hz, step⟩
    · refine thn (T.done (cxC X own scope (closL X.env scope.names) Hh.objs.size s2 H2 fp) rfl rfl rfl O.calm i _ s4 _ H4 (fun _ _ => False) I4 (stat fr4) st4 stop) fun r s5 ⟨hr, I5⟩ => ?_
      subst hr
      exact fin s2 H2 fp Hh.objs.size _ its nn _ H4 s5 ys I2 f2 hC I5 vs4 hz qn
    · refine thn (T.item (cxC X own scope (closL X.env scope.names) Hh.objs.size s2 H2 fp) rfl rfl rfl O.calm i _ s4 _ H4 (fun _ _ => False) I4 (stat fr4) st4 go) fun r s5 ⟨u, hr, h5⟩ => ?_
      subst hr
      refine thn h5 fun _ s6 ⟨x, H6, I6, r6, y6, st6, fr6⟩ => ?_
      have I6' := I6.pinned (stat fr6) (T.obj _ _ st6)
      refine thn (hg _ _ _ _ _ _ s6 _ H6 x u _ I6' r6 (step x H6 y6)) fun _ s7 ⟨σ7, H7, I7, wk7, q7⟩ => ?_
      refine thn (ht _ _ _ _ _ _ s7 σ7 H7 _ I7 q7) fun ok s8 ⟨H8, I8, q8⟩ => ?_
      have again : ∀ {σ9 : St} {H9 : Hp} {s9 : Shared}, Inv (cxC X own scope (closL X.env scope.names) Hh.objs.size s2 H2 fp) ((pins ++ [(s2.heap.objs.size, lo its nn)]) ++ pinsAt fp s6.heap) σ9 H9 s9 → tn (i + 1) s9.heap ∧ ∀ b ∈ fp, H9 b = none := fun {σ9 H9 s9} I9 =>
        ⟨T.keep _ _ _ st6 fun b hb o e => (I9.pin (b, o) (List.mem_append_right _ (List.mem_append_right _ (mem_pinsAt hb e)))).1, fun b hb => by
          obtain ⟨o, e, d⟩ := T.obj _ _ st6 b hb
          exact (I9.pin (b, o) (List.mem_append_right _ (List.mem_append_right _ (mem_pinsAt hb e)))).2.1⟩
      cases ok with
      | false =>
        rw [if_neg Bool.false_ne_true] at q8 ⊢
        obtain ⟨m', hm, w8⟩ := q8
        obtain ⟨a1, a2⟩ := again I8
        exact ⟨m', hm, i + 1, ys, its, nn, σ7, H8, I8.unpinned, wk7, a1, a2, vs4, w8⟩
      | true =>
        rw [if_pos rfl] at q8 ⊢
        refine thn (he _ _ _ _ _ _ s8 σ7 H8 _ I8 q8) fun yv s9 ⟨y, H9, I9, r9, m', hm, w9⟩ => ?_
        obtain ⟨a1, a2⟩ := again I9
        obtain ⟨eD, nD, neD, nfD, _⟩ := I9.pin (s2.heap.objs.size, lo its nn) (List.mem_append_right _ (List.mem_append_left _ (List.mem_append_right _ List.mem_cons_self)))
        have hlen := vs4.length
        refine append_at' eD (by omega) ?_
        have upd9 := PySem.IsL.update (l := s2.heap.objs.size) eD (·.push yv)
        have uother : ∀ b o, b ≠ s2.heap.objs.size → s9.heap.get? b = some o → (s9.heap.update s2.heap.objs.size (Obj.mapSeq (·.push yv))).get? b = some o := fun b o hb e => (Heap.get?_update_other s9.heap (Obj.mapSeq (·.push yv)) (Ne.symm hb)).trans e
        have I9a : Inv (cxC X own scope (closL X.env scope.names) Hh.objs.size s2 H2 fp) pins σ7 H9 s9 := I9.unpinned.unpinned
        have I9b : Inv (cxC X own scope (closL X.env scope.names) Hh.objs.size s2 H2 fp) pins σ7 H9 { s9 with heap := s9.heap.update s2.heap.objs.size (Obj.mapSeq (·.push yv)) } :=
          I9a.turned (t' := s9.toks) uother nD neD (.inr (Nat.le_refl _)) (fun x c e z => by
            obtain ⟨v, o, hoc, _⟩ := I2.cell x c (O.sub I2.ok x c e)
            exact absurd z (Nat.ne_of_lt (Heap.lt_size hoc))) fun p hp => Nat.ne_of_lt (pinlt p hp)
        have e2 : (its.toArray.push yv) = (its ++ [yv]).toArray := by simp
        have upd9' : ∃ n2, (s9.heap.update s2.heap.objs.size (Obj.mapSeq (·.push yv))).get? s2.heap.objs.size = some (lo (its ++ [yv]) n2) := ⟨_, by rw [upd9, e2]⟩
        obtain ⟨n2, upd9'⟩ := upd9'
        have I9c := I9b.pins_of (pins' := pins ++ [(s2.heap.objs.size, lo (its ++ [yv]) n2)]) fun p hp => by
          rcases List.mem_append.mp hp with hp | hp
          · exact I9b.pin p (List.mem_append_right _ hp)
          · cases List.mem_singleton.mp hp
            exact ⟨upd9', nD, neD, nfD, fun v z => by cases z⟩
        refine ⟨m', hm, i + 1, ys ++ [y], its ++ [yv], n2, σ7, H9, I9c, wk7, T.keep _ _ _ a1 fun b hb o e => uother b o ?_ e, a2, vs4.append (.cons r9 .nil), w9⟩
        obtain ⟨o', eo⟩ := hob b hb
        exact Nat.ne_of_lt (Heap.lt_size eo)
  exact codeAny_compStart_list (loop _ rfl) (T.self _ 0 _ _ _ st3 (loop _ rfl))
theorem pe_comp {tg iter elt : Expr} {ifs : List Expr} {pos : Pos} {wi : TI} {g : TG} {tt : TT} {te : TE} (O : CompOk X own scope) (hi : PI X tg iter wi)
    (hg : ∀ cl C s H fp, PG (cxC X own scope cl C s H fp) tg g) (ht : ∀ cl C s H fp, PTs (cxC X own scope cl C s H fp) ifs tt) (he : ∀ cl C s H fp, PE (cxC X own scope cl C s H fp) elt te)
    (hs : ∀ x, foldedSetIterable iter X.env x = pure x := by intro _; rfl) :
    PE X (.ListComp elt [⟨tg, iter, ifs, 0⟩] scope pos) (tComp wi g tt te own.length) := by
  intro pins s σ H Q I h
  rw [eval_ListComp]
  refine comp_core O hi hg ht he hs I h fun s2 H2 fp C cl its nn σ' H' s5 ys I2 f2 hC I5 vs hz qn => ?_
  obtain ⟨mm, hnm, _⟩ := I5.loc
  exact ⟨mm, hnm, fun h' hs' => ⟨.ref s2.heap.objs.size, _, comp_exit I2 f2 hC I5 vs hz hs', rfl, qn _ (I5.pin (s2.heap.objs.size, lo its nn) (List.mem_append_right _ (List.mem_append_right _ List.mem_cons_self))).2.1⟩⟩
/-- x = [elt for ..], x a plain local name -/
theorem ps_setC {i : Nat} {x : Str} {tg iter elt : Expr} {ifs : List Expr} {pos pos' cpos : Pos} {wi : TI} {g : TG} {tt : TT} {te : TE} (hN : X.N.Nodup) (hix : X.N[i]? = some x) (hl : X.env.scope.names.lookup x = some .local) (O : CompOk X own scope) (hi : PI X tg iter wi)
    (hg : ∀ cl C s H fp, PG (cxC X own scope cl C s H fp) tg g) (ht : ∀ cl C s H fp, PTs (cxC X own scope cl C s H fp) ifs tt) (he : ∀ cl C s H fp, PE (cxC X own scope cl C s H fp) elt te)
    (hs : ∀ x, foldedSetIterable iter X.env x = pure x := by intro _; rfl) (hsw : swapsWith (.ListComp elt [⟨tg, iter, ifs, 0⟩] scope cpos) (some (.Name x pos')) pos.line X.env = pure true := by rfl) :
    PS X (.Assign [.Name x pos'] (.ListComp elt [⟨tg, iter, ifs, 0⟩] scope cpos) pos) (tAsg (tComp wi g tt te own.length) (gName i)) := by
  intro pins s σ H D I h
  rw [exec_Assign_Name_used _ _ _ _ hsw]
  refine wpAny_bind (wpAny_standAt (wpAny_bind (m := evalThenUse _ X.env _) ?_))
  show wpAny _ _ (comprehension (.ListComp elt [⟨tg, iter, ifs, 0⟩] scope cpos) scope X.env _ (newList []) false (eval iter X.env) (some (assign (.Name x pos') X.env)) >>= fun _ => _) _ _ s
  refine wpAny_bind (thn (comp_core (Qp := fun _ s' => SP X pins D .next s') O hi hg ht he hs I h fun s2 H2 fp C cl its nn σ' H' s5 ys I2 f2 hC I5 vs hz qn => ?_) fun _ s' hq => wpAny_pure (wpAny_pure hq))
  have Ix : Inv X pins σ (upd H' s2.heap.objs.size (.lst ys)) s5 := comp_exit I2 f2 hC I5 vs hz (Heap.SameBut.refl _ _)
  obtain ⟨mm, hnm, _⟩ := I5.loc
  have fC : H' C = none := I5.free
  have nCD : C ≠ s2.heap.objs.size := Nat.ne_of_gt hC
  refine wpAny_assign_Name (store_ok2 (v := .ref s2.heap.objs.size) Ix hN hix (.inl hl) rfl (fun s6 I6 sb => ?_) (.inr hl))
  obtain ⟨a, sb, ha⟩ := sb
  have nLC : X.env.locals ≠ C := Nat.ne_of_lt (Nat.lt_trans I2.lt hC)
  have cC : ∀ y c, X.env.cells.lookup y = some c → c ≠ C := fun y c e => by
    obtain ⟨v, o, ho, _⟩ := I2.cell y c e
    exact Nat.ne_of_lt (Nat.lt_trans (Heap.lt_size ho) hC)
  have naC : C ≠ a := by
    rcases ha with rfl | ha
    · exact Ne.symm nLC
    · exact Ne.symm (cC x a ha)
  refine ⟨mm, hnm.sameBut sb naC, fun h' hs' => ⟨_, _, I6.turned (t' := s6.toks) (fun b o hb e => (hs'.2 b hb).trans e) (by rw [upd_ne nCD]; exact fC) (Ne.symm nLC) (.inr (Nat.le_trans I2.sz (Nat.le_of_lt hC))) cC (fun p hp => Nat.ne_of_lt (Nat.lt_trans (Heap.lt_size (I2.pin p hp).1) hC)), qn _ (I5.pin (s2.heap.objs.size, lo its nn) (List.mem_append_right _ (List.mem_append_right _ List.mem_cons_self))).2.1⟩⟩
end
/-! ### rules with the module's part named, for a comprehension's block -/
section
variable {X : Cx} {pos : Pos}
theorem pg_tupK (K : PySem.W.Frag) (n : Nat) {es : List Expr} {k : Nat} {t : TGs} (hK : X.K = K) (hc : X.calm = true) (h : PGs X es t)
    (hn : (assignEach es X.env).length = n := by rfl) (hst : (assignEach es X.env).findIdx? (·.1) = none := by rfl) : PG X (.Tuple es k pos) (gTup K n t) := by
  subst hK
  exact pg_tup hc h hn hst
end
end L2

namespace L2
open PySem PySem.Spec PyProof.Rows

/-! ### data in the abstract heap -/
mutual
inductive DV (H : Hp) : V → PyData → Prop
  | non : DV H .non .none
  | bl (b : Bool) : DV H (.bl b) (.bool b)
  | int (i : Int) : DV H (.int i) (.int i)
  | str (x : Str) : DV H (.str x) (.str x)
  | lst {a : Addr} {xs : List V} {ds : List PyData} : H a = some (.lst xs) → DVs H xs ds → DV H (.ref a) (.list ds)
  | tup {a : Addr} {xs : List V} {ds : List PyData} : H a = some (.tup xs) → DVs H xs ds → DV H (.ref a) (.tuple ds)
inductive DVs (H : Hp) : List V → List PyData → Prop
  | nil : DVs H [] []
  | cons {v : V} {vs : List V} {d : PyData} {ds : List PyData} : DV H v d → DVs H vs ds → DVs H (v :: vs) (d :: ds)
end
mutual
theorem DV.mono {H H' : Hp} (g : Same H H') : ∀ {v : V} {d : PyData}, DV H v d → DV H' v d
  | _, _, .non => .non
  | _, _, .bl b => .bl b
  | _, _, .int i => .int i
  | _, _, .str x => .str x
  | _, _, .lst e r => .lst (g _ _ e) (DVs.mono g r)
  | _, _, .tup e r => .tup (g _ _ e) (DVs.mono g r)
theorem DVs.mono {H H' : Hp} (g : Same H H') : ∀ {vs : List V} {ds : List PyData}, DVs H vs ds → DVs H' vs ds
  | _, _, .nil => .nil
  | _, _, .cons h r => .cons (DV.mono g h) (DVs.mono g r)
end
theorem DVs.length {H : Hp} : ∀ {vs : List V} {ds : List PyData}, DVs H vs ds → vs.length = ds.length
  | _, _, .nil => rfl
  | _, _, .cons _ r => congrArg (· + 1) r.length
theorem DVs.append {H : Hp} : ∀ {vs ws : List V} {ds es : List PyData}, DVs H vs ds → DVs H ws es → DVs H (vs ++ ws) (ds ++ es)
  | _, _, _, _, .nil, s => s
  | _, _, _, _, .cons h r, s => .cons h (DVs.append r s)
theorem DVs.get {H : Hp} : ∀ {vs : List V} {ds : List PyData} {i : Nat} {d : PyData}, DVs H vs ds → ds[i]? = some d → ∃ v, vs[i]? = some v ∧ DV H v d
  | _, _, _, _, .nil, e => by simp at e
  | _, _, 0, _, .cons h _, e => by simp at e; subst e; exact ⟨_, rfl, h⟩
  | _, _, i + 1, d, .cons _ r, e => by
    obtain ⟨v, h1, h2⟩ := DVs.get (i := i) (d := d) r (by simpa using e)
    exact ⟨v, by simpa using h1, h2⟩
section
variable {X : Cx} {pins : List (Addr × Obj)} {σ : St} {H : Hp} {s : Shared}
mutual
theorem DV.reads (I : Inv X pins σ H s) : ∀ {v : V} {d : PyData} {u : Value}, DV H v d → RelV v u → ∃ as, Reads s.heap u d as
  | _, _, _, .non, r => by cases r; exact ⟨_, Reads.none⟩
  | _, _, _, .bl b, r => by cases r; exact ⟨_, Reads.bool b⟩
  | _, _, _, .int i, r => by obtain ⟨t, rfl⟩ := r; exact ⟨_, Reads.int i t⟩
  | _, _, _, .str x, r => by obtain ⟨t, rfl⟩ := r; exact ⟨_, Reads.str x t⟩
  | _, _, _, .lst e q, r => by
    cases r
    obtain ⟨its, n, rv, ho, _⟩ := I.lst e
    obtain ⟨as, p⟩ := DVs.reads I q rv
    exact ⟨_, reads_list_at ho rfl rfl (by simpa using p)⟩
  | _, _, _, .tup e q, r => by
    cases r
    obtain ⟨its, rv, ⟨o, ho, hc, n, hd⟩, _⟩ := I.tuple (SqT.of e)
    obtain ⟨as, p⟩ := DVs.reads I q rv
    exact ⟨_, reads_tuple_at ho hc hd (by simpa using p)⟩
theorem DVs.reads (I : Inv X pins σ H s) : ∀ {vs : List V} {ds : List PyData} {us : List Value}, DVs H vs ds → Vals vs us → ∃ as, ReadsAll s.heap us ds as
  | _, _, _, .nil, r => by cases r; exact ⟨_, ReadsAll.nil⟩
  | _, _, _, .cons h t, r => by
    cases r with
    | cons r1 r2 =>
      obtain ⟨as, p⟩ := DV.reads I h r1
      obtain ⟨bs, q⟩ := DVs.reads I t r2
      exact ⟨_, ReadsAll.cons p q⟩
end
end
/-- == and != of data -/
def rEqD : R2 := fun x y H Q => ∃ d e, DV H x d ∧ DV H y e ∧ SeqAt.shaped d = true ∧ SeqAt.shaped e = true ∧ Q (.bl (PyData.eqv d e)) H
def rNeD : R2 := fun x y H Q => ∃ d e, DV H x d ∧ DV H y e ∧ SeqAt.shaped d = true ∧ SeqAt.shaped e = true ∧ Q (.bl (!PyData.eqv d e)) H
section
variable {X : Cx}
theorem op_neD (hu : X.A.units + 64 < cLine) : OpR X (compareOp .NotEq) rNeD := by
  intro pins s σ H x y v u Q I rx ry h
  obtain ⟨d, e, h1, h2, s1, s2, q⟩ := h
  obtain ⟨as, p1⟩ := h1.reads I rx
  obtain ⟨bs, p2⟩ := h2.reads I ry
  exact ne_dataH p1 p2 s1 s2 hu ⟨.bl _, H, I, rfl, q⟩

/-! ### isinstance(x, T), T a built-in type's name -/
def rIs (K : PySem.W.Frag) : List V → Hp → VK → Prop := fun xs H Q => ∃ x t T b, xs = [x, .ty T] ∧ TyOf K H x t ∧ PySem.W.kitOne K t (.type T) = some b ∧ Q (.bl b) H
theorem call_is : CallR X (.builtin "isinstance") (rIs X.K) := by
  intro pins s σ H xs us Q I r h
  obtain ⟨x, t, T, b, rfl, ty, e, q⟩ := h
  obtain ⟨u, w', rfl, ru, rt⟩ := vals2 r
  cases (show w' = Value.type T from rt)
  exact isinst_ok I ru ty e fun tk => ⟨.bl b, H, I.tok _, rfl, q⟩


/-! ### x.split(y) -/
def rSplit : V → List V → Hp → VK → Prop := fun x vs H Q => ∃ z y ps, x = .str z ∧ vs = [.str y] ∧ (decide (z.length < y.length) || decide (Builtin.Str.strKind z < Builtin.Str.strKind y)) = false ∧ (y.length == 0) = false ∧
  (Builtin.Str.occurrences z y 0 z.length (z.length + 1)).isEmpty = false ∧ z.length ≤ sizeLine ∧ Builtin.Str.partsBetween z (Builtin.Str.occurrences z y 0 z.length (z.length + 1)) y.length = ps ∧ ps.length ≤ sizeLine ∧ ∀ l, H l = none → Q (.ref l) (upd H l (.lst (ps.map V.str)))
end
end L2

namespace L2
open PySem PySem.Spec PyProof.Rows

/-! ### a def of the module that keeps its promise, by its name -/
structure Has (P : Program) (w : World) (K : PySem.W.Frag) (mg : Str → Option Value) (base : Heap) (x : Str) (k : Nat) (ps : List Str) (sp : Sp) : Prop where
  ex : ∃ f fd, FnOk P w K mg base CX0 k f fd ps sp ∧ Binds K fd ps [] ∧ PySem.W.keepIn K (.ref f) = true ∧ mg x = some (.ref f)
theorem Has.mono {P : Program} {w : World} {K : PySem.W.Frag} {mg : Str → Option Value} {base : Heap} {x : Str} {j k : Nat} {ps : List Str} {sp : Sp} (h : Has P w K mg base x j ps sp) (hj : j ≤ k) : Has P w K mg base x k ps sp := by
  obtain ⟨f, fd, F, b, q, m⟩ := h.ex
  exact ⟨f, fd, F.mono hj, b, q, m⟩
section
variable {X : Cx} {j k : Nat} {ps : List Str} {sp : Sp} {x : Str} {p pos : Pos} {e : Expr} {es : List Expr} {t : TA}
theorem pe_callH (h : Has X.prog X.w X.K X.mg X.base x j ps sp) (hr : Room k X.A) (ha : PA X (e :: es) t) (hg : Gl X x := by rfl) (hj : j ≤ k := by first | decide | omega)
    (hdb : (x == ("__debug__" : Str)) = false := by decide) (he : starEach (e :: es) X.env = (false, eval e X.env) :: starEach es X.env := by rfl) (hpl : (backTo pos (starEach es X.env)).any (·.1) = false := by rfl) :
    PE X (.Call (.Name x p) (e :: es) [] pos) (tCall sp [] E0 t) := by
  intro pins s σ H Q I q
  obtain ⟨f, fd, F, b, kp, m⟩ := h.ex
  refine pe_call (CX := CX0) (E := E0) (dvs := []) (F.mono hj) hr hg m kp b .nil ?_ ha hdb he hpl pins s σ H Q I q
  exact fun _ _ _ _ _ _ _ z => z.elim
end

/-! ### heaps without one address; what is laid anew -/
def hide (a : Addr) (H : Hp) : Hp := fun b => if b = a then none else H b
theorem hide_self {a : Addr} {H : Hp} : hide a H a = none := by unfold hide; rw [if_pos rfl]
theorem hide_ne {a b : Addr} {H : Hp} (h : b ≠ a) : hide a H b = H b := by unfold hide; rw [if_neg h]
theorem hide_some {a b : Addr} {H : Hp} {o : HO} (h : hide a H b = some o) : b ≠ a ∧ H b = some o := by
  unfold hide at h
  by_cases e : b = a
  · rw [if_pos e] at h; cases h
  · rw [if_neg e] at h; exact ⟨e, h⟩
theorem same_laid {H : Hp} {p : Addr} (h : H p = none) (o : HO) : Same H (upd H p o) := fun b u q => by rw [upd_ne (ne_of_none q h)]; exact q
/-- all but what stands at a is as it was -/
abbrev Grw (a : Addr) (H H' : Hp) : Prop := Same (hide a H) (hide a H')
theorem grw_same {a : Addr} {H H' : Hp} {o : HO} (ha : H a = some o) (g : Same H H') : Grw a H H' := fun b u q => by
  obtain ⟨h1, h2⟩ := hide_some q
  rw [hide_ne h1]; exact g b u h2
theorem grw_upd {a : Addr} {H : Hp} {o : HO} : Grw a H (upd H a o) := fun b u q => by
  obtain ⟨h1, h2⟩ := hide_some q
  rw [hide_ne h1, upd_ne h1]; exact h2

/-! ### a pen: three ints, as the draws leave it -/
def PenAt (H : Hp) (a : Addr) : Prop := ∃ p q r : Int, H a = some (.lst [.int p, .int q, .int r])
theorem PenAt.same {H H' : Hp} {a : Addr} (h : PenAt H a) (g : Same H H') : PenAt H' a := by
  obtain ⟨p, q, r, e⟩ := h
  exact ⟨p, q, r, g _ _ e⟩
theorem PenAt.laid {H : Hp} {a p : Addr} {o : HO} (h : PenAt H a) (hp : H p = none) : PenAt (upd H p o) a := h.same (same_laid hp o)
theorem PenAt.ne {H : Hp} {a p : Addr} (h : PenAt H a) (hp : H p = none) : p ≠ a := by
  obtain ⟨x, y, z, e⟩ := h
  exact fun q => by rw [q, e] at hp; cases hp
end L2

namespace L2
open PySem PySem.Spec PyProof.Rows
/-! ### small facts -/
theorem posI {j : Int} (h : decide (0 < j) = true) : 0 < j := of_decide_eq_true h
theorem ltI {i j : Int} (h : decide (i < j) = true) : i < j := of_decide_eq_true h
theorem leN {i j : Nat} (h : decide (i ≤ j) = true) : i ≤ j := of_decide_eq_true h
theorem cdivI {i j : Int} (h1 : decide (0 < j) = true) (h2 : decide (j < 1073741824) = true) : CDiv i j := ⟨of_decide_eq_true h1, of_decide_eq_true h2⟩
theorem powI {i j : Int} (h1 : decide (0 ≤ j) = true) (h2 : decide (j ≤ 1000000) = true) (h3 : decide (i.natAbs < 2 ^ 64) = true) : CPow i j := ⟨of_decide_eq_true h1, of_decide_eq_true h2, of_decide_eq_true h3⟩
theorem mulL {i j : Int} (h1 : decide (-(2 ^ 64) < i) = true) (h2 : decide (i < 2 ^ 64) = true) : CMul i j := Or.inl ⟨of_decide_eq_true h1, of_decide_eq_true h2⟩
theorem mulR {i j : Int} (h1 : decide (-(2 ^ 64) < j) = true) (h2 : decide (j < 2 ^ 64) = true) : CMul i j := Or.inr ⟨of_decide_eq_true h1, of_decide_eq_true h2⟩
theorem mulM (x m y : Int) (h0 : decide (0 < m) = true) (h1 : decide (m < 4294967296) = true) : CMul (x % m) y := by
  have h0 := of_decide_eq_true h0
  have h1 := of_decide_eq_true h1
  exact Or.inl ⟨by have := Int.emod_nonneg x (show m ≠ 0 by omega); omega, by have := Int.emod_lt_of_pos x h0; omega⟩
theorem at3_0 (a b c : V) : atI [a, b, c] 0 = some a := rfl
theorem at3_1 (a b c : V) : atI [a, b, c] 1 = some b := rfl
theorem at3_2 (a b c : V) : atI [a, b, c] 2 = some c := rfl
theorem atI_in {α : Type} {xs : List α} {i : Int} (h0 : 0 ≤ i) (h1 : i < xs.length) : ∃ v, atI xs i = some v ∧ v ∈ xs := by
  have hi : i.toNat < xs.length := by omega
  have e : ((i.toNat : Nat) : Int) = i := by omega
  refine ⟨xs[i.toNat], ?_, List.getElem_mem hi⟩
  have q := atI_nat (xs := xs) (j := i.toNat) (v := xs[i.toNat]) (List.getElem?_eq_getElem hi)
  rw [e] at q
  exact q
theorem small_le {n : Nat} (h : n ≤ 1000000) : n ≤ sizeLine := Nat.le_trans h (by decide)
theorem small_lt {n : Nat} (h : n < 1000000) : n < sizeLine := Nat.lt_of_lt_of_le h (by decide)

/-! ### comprehensions over a range, over a list -/
theorem comp_list {K : PySem.W.Frag} {a : Addr} {xs : List V} {k : Nat} {g : TG} {tt : TT} {te : TE} {σ : St} {H : Hp} {Q : VK} (Pv : Nat → List V → Hp → Prop) (h0 : Pv 0 [] H) (hl : ∀ i ys H, i ≤ xs.length → Pv i ys H → SqL K H a xs)
    (hs : ∀ i x ys H (C : List V → Hp → Prop), xs[i]? = some x → Pv i ys H → (∀ ys' H', Pv (i + 1) ys' H' → C ys' H') → ys.length < sizeLine ∧ g x (List.replicate k none ++ σ) H fun σ2 H2 => Wk σ2 (List.replicate k none ++ σ) ∧ tt σ2 H2 fun ok H3 =>
      if ok = true then te σ2 H3 fun y H4 => C (ys ++ [y]) H4 else C ys H3)
    (hd : ∀ ys H, Pv xs.length ys H → ys.length ≤ sizeLine ∧ ∀ p, H p = none → Q (.ref p) (upd H p (.lst ys))) :
    CompR (Itl K a) H k g tt te σ Q := by
  refine ⟨fun i m ys H => m = xs.length - i ∧ i ≤ xs.length ∧ Pv i ys H, ⟨xs.length, by simp, Nat.zero_le _, h0⟩, ?_⟩
  rintro i m ys H ⟨rfl, hi, p⟩
  have q := hl i ys H hi p
  by_cases hlt : i < xs.length
  · have r := hs i xs[i] ys H (fun ys' H' => ∃ m', m' < xs.length - i ∧ m' = xs.length - (i + 1) ∧ i + 1 ≤ xs.length ∧ Pv (i + 1) ys' H') (by simp [hlt]) p fun ys' H' p' => ⟨_, by omega, rfl, hlt, p'⟩
    refine .inr ⟨⟨xs, xs[i], q, by simp [hlt]⟩, r.1, fun x H' y => ?_⟩
    obtain ⟨e, y⟩ := y
    subst e
    have ex : xs[i]? = some x := y xs q
    have ex2 : xs[i] = x := by simpa [hlt] using ex
    rw [← ex2]
    exact r.2
  · have e : i = xs.length := by omega
    subst e
    exact .inl ⟨⟨xs, q, Nat.le_refl _⟩, hd ys H p⟩

/-! ### the words -/
def wordA : Str := "q abcdefgh aq qa abcdefgi ea zz eaq abd abc e bcdefgh za "
def wordB : Str := "qae acb ae abcdefg z qq aea az abcd xabcd eae abce eq"
def words : List Str := ["q", "abcdefgh", "aq", "qa", "abcdefgi", "ea", "zz", "eaq", "abd", "abc", "e", "bcdefgh", "za", "qae", "acb", "ae", "abcdefg", "z", "qq", "aea", "az", "abcd", "xabcd", "eae", "abce", "eq"]
/-! ### things -/
structure Th where
  day : Int
  word : Str
  num : Int
  many : Int
def Th.D (t : Th) : PyData := .tuple [.int t.day, .str t.word, .int t.num, .int t.many]
def Th.vs (t : Th) : List V := [.int t.day, .str t.word, .int t.num, .int t.many]
structure Th.Ok (t : Th) : Prop where
  day : 0 ≤ t.day
  word : t.word ∈ words
  num : 0 ≤ t.num
  many : 1 ≤ t.many
  numU : t.num < 1073741824
  manyU : t.many ≤ 1000000000
theorem Th.dv {H : Hp} {r : Addr} {t : Th} (h : H r = some (.tup t.vs)) : DV H (.ref r) t.D := .tup h (.cons (.int _) (.cons (.str _) (.cons (.int _) (.cons (.int _) .nil))))
end L2

namespace L2
open PySem PySem.Spec PyProof.Rows
/-! ### trees of streams -/
inductive Tr where
  | leaf (ts : List Th)
  | node (l r : Tr)
abbrev strD (ts : List Th) : PyData := .list (ts.map Th.D)
def Tr.D : Tr → PyData
  | .leaf ts => strD ts
  | .node l r => .tuple [.str "merged", l.D, r.D]
def Tr.streams : Tr → List (List Th)
  | .leaf ts => [ts]
  | .node l r => l.streams ++ r.streams
def Tr.size : Tr → Nat
  | .leaf _ => 1
  | .node l r => l.size + r.size + 1
def Tr.ht : Tr → Nat
  | .leaf _ => 0
  | .node l r => max l.ht r.ht + 1
def Tr.all : Tr → List Th
  | .leaf ts => ts
  | .node l r => l.all ++ r.all
def Tr.Ok : Tr → Prop
  | .leaf ts => ∀ t ∈ ts, t.Ok
  | .node l r => l.Ok ∧ r.Ok
/-! ### their data are of a shape that is compared -/
theorem lay_all {α : Type} {f : α → PyData} {n : Nat} : ∀ (xs : List α), (∀ x ∈ xs, (f x).canLay0 = true ∧ (f x).depth ≤ n) → PyData.canLayAll0 (xs.map f) = true ∧ PyData.depthAll (xs.map f) ≤ n
  | [], _ => by simp [PyData.canLayAll0, PyData.depthAll]
  | x :: xs, h => by
    have h1 := h x List.mem_cons_self
    have h2 := lay_all xs fun y hy => h y (List.mem_cons_of_mem _ hy)
    rw [List.map_cons, PyData.canLayAll0, PyData.depthAll, h1.1, h2.1]
    exact ⟨rfl, Nat.max_le.mpr ⟨h1.2, h2.2⟩⟩
theorem lay_list {α : Type} {f : α → PyData} {n : Nat} (xs : List α) (h : ∀ x ∈ xs, (f x).canLay0 = true ∧ (f x).depth ≤ n) : (PyData.list (xs.map f)).canLay0 = true ∧ (PyData.list (xs.map f)).depth ≤ n + 1 := by
  have q := lay_all xs h
  rw [PyData.canLay0, PyData.depth]
  exact ⟨q.1, Nat.succ_le_succ q.2⟩
theorem shaped_of {d : PyData} {n : Nat} (h : d.canLay0 = true ∧ d.depth ≤ n) (hn : n ≤ 64) : SeqAt.shaped d = true := by
  unfold SeqAt.shaped
  rw [h.1, Bool.true_and]
  exact decide_eq_true (Nat.le_trans h.2 hn)
theorem eqv_self {d : PyData} {n : Nat} (h : d.canLay0 = true ∧ d.depth ≤ n) : PyData.eqv d d = true := SeqAt.eqv_refl d h.1
theorem eqv_nil (ds : List PyData) : PyData.eqv (.list ds) (.list []) = ds.isEmpty := by
  cases ds <;> simp [PyData.eqv, PyData.eqvAll]
/-! ### what a datum's value is -/
theorem DV.tup_inv {H : Hp} {v : V} {ds : List PyData} (h : DV H v (.tuple ds)) : ∃ a xs, v = .ref a ∧ H a = some (.tup xs) ∧ DVs H xs ds := by
  cases h with
  | tup e r => exact ⟨_, _, rfl, e, r⟩
theorem DVs.cons_inv {H : Hp} {vs : List V} {d : PyData} {ds : List PyData} (h : DVs H vs (d :: ds)) : ∃ x r, vs = x :: r ∧ DV H x d ∧ DVs H r ds := by
  cases h with
  | cons a b => exact ⟨_, _, rfl, a, b⟩
theorem DVs.nil_inv {H : Hp} {vs : List V} (h : DVs H vs []) : vs = [] := by
  cases h with
  | nil => rfl
/-! ### two lists that are being made are left out -/
abbrev hide2 (a b : Addr) (H : Hp) : Hp := hide a (hide b H)
end L2

namespace L2
open PySem PySem.Spec PyProof.Rows
theorem Has.of {P : Program} {w : World} {K : PySem.W.Frag} {mg : Str → Option Value} {base : Heap} {x : Str} {k : Nat} {ps : List Str} {sp : Sp} {f : Addr} {fd : FuncData} (F : FnOk P w K mg base CX0 k f fd ps sp) (b : Binds K fd ps []) (kp : PySem.W.keepIn K (.ref f) = true) (m : mg x = some (.ref f)) :
    Has P w K mg base x k ps sp := ⟨f, fd, F, b, kp, m⟩
/-- is the built-in type t under T? -/
def kitT (t T : String) : Option Bool := if (Value.type t == Value.type T) = true then some true else if PySem.W.kitMeta T = true then (PySem.fastBuiltinMro t).map (·.contains (.type T)) else none
theorem kit_t {K : PySem.W.Frag} {t T : String} {b : Bool} (h : kitT t T = some b) : PySem.W.kitOne K (.type t) (.type T) = some b := h
end L2

namespace L2
open PySem PySem.Spec PyProof.Rows
section
variable {X : Cx}
theorem ints_at {ns : List Int} {us : List Value} (r : Vals (ns.map V.int) us) {i : Nat} {u : Value} (h : us[i]? = some u) : ∃ t, u = .int (ns.getD i 0) t := IntsAre.int_at (intsAre_of r) i u h
/-- sum(xs) of a list of ints -/
theorem call_sum (hc : X.calm = true) : CallR X (.builtin "sum") (fun xs H Q => ∃ (p : Addr) (ns : List Int), xs = [.ref p] ∧ SqL X.K H p (ns.map V.int) ∧ Q (.int ns.sum) H) := by
  intro pins s σ H xs us Q I r h
  obtain ⟨p, ns, rfl, hq, q⟩ := h
  obtain ⟨u, rfl, ru⟩ := vals1 r
  cases ru
  obtain ⟨its, rv, pl, hz⟩ := I.list hq
  have hl := rv.length
  rw [List.length_map] at hl
  have hlt : p < s.heap.objs.size := by
    obtain ⟨o, n, e, _⟩ := pl
    exact Heap.lt_size e
  refine call_sum_walkG (wpAny_pyIter_list pl.isList ?_)
  have hh : X.A.in1.handled = none := by simpa using I.ok.hd hc
  refine ⟨s.heap.objs.size, _, _, _, _, _, fun i => ns.getD i 0, rfl, Walks.list hh _ p (Nat.ne_of_lt hlt) its.toArray, ⟨⟨_, Heap.get?_push_size _ rfl, rfl, rfl⟩, pl.isList.push _⟩, fun b hb => ?_, fun i v hv => ?_, fun h' tk t' kp => ?_⟩
  · rw [Heap.size_push]
    rcases List.mem_cons.mp hb with e | e
    · rw [e]; exact Nat.lt_succ_self _
    · rw [List.mem_singleton.mp e]; exact Nat.lt_succ_of_lt hlt
  · exact ints_at rv (by simpa using hv)
  · have e : preSum (fun i => ns.getD i 0) its.toArray.size = ns.sum := by
      rw [PyProof.Rows.preSum_getD, List.size_toArray, ← hl, List.take_length]
    rw [e]
    refine ⟨.int ns.sum, H, I.kept fun b o eb => kp b o ?_ (Heap.get?_push_of_some _ eb), ⟨_, rfl⟩, q⟩
    intro hb
    rw [List.mem_singleton.mp hb] at eb
    exact absurd (Heap.lt_size eb) (Nat.lt_irrefl _)
end

/-! ### set(xs) of a list of texts: how many unlike ones there are -/
def dd : List Str → List Str → List Str
  | acc, [] => acc
  | acc, z :: r => dd (if z ∈ acc then acc else acc ++ [z]) r
def inF (l : List Str) (k : Key) : Bool := l.any fun z => decide (k = (Sum.inr z : Key))
section
variable {prog : Program} {w : World} {A : Around} {R : Result → Shared → Prop} {I : Addr} {fp wr : List Addr} {n : Nat} {P : Nat → Value → Prop} {St : Nat → Heap → Prop}
end
end L2

namespace L2
open PySem PySem.Spec PyProof.Rows
section
variable {prog : Program} {w : World} {A : Around} {E : Value → Shared → Prop} {s : Shared}
abbrev bareSet (led : Bool) : Obj := { cls := .type "set", dict := none, data := .set #[] 0 (.fresh 0 0 led) }
end
/-- a set of texts that nothing changes -/
def txtSet (prog : Program) (w : World) (a : Addr) (n : Nat) : HO := .ext fun h => ∃ F, h.SetOf (mixKind prog w) a F n
section
variable {X : Cx}
end
end L2

namespace L2
open PySem PySem.Spec PyProof.Rows
theorem take_one {α : Type} {l : List α} {i : Nat} {x : α} (h : l[i]? = some x) : l.take (i + 1) = l.take i ++ [x] := by rw [List.take_add_one, h]; rfl
theorem dvs_ints {H : Hp} : ∀ ns : List Int, DVs H (ns.map V.int) (ns.map PyData.int)
  | [] => .nil
  | n :: r => .cons (.int n) (dvs_ints r)
end L2

namespace L2
open PySem PySem.Spec PyProof.Rows
/-! ### lists of pairs as tables -/
section
variable {κ : Type} [DecidableEq κ]
def valV (kvs : List (κ × V)) (k : κ) : Option V := (kvs.find? fun kv => decide (kv.1 = k)).map (·.2)
/-- in its place, or at the end -/
def putK (kvs : List (κ × V)) (k : κ) (v : V) : List (κ × V) :=
  if (kvs.any fun kv => decide (kv.1 = k)) = true then kvs.map (fun kv => if kv.1 = k then (kv.1, v) else kv) else kvs ++ [(k, v)]
def dropK (kvs : List (κ × V)) (k : κ) : List (κ × V) := kvs.filter fun kv => decide (kv.1 ≠ k)

theorem valV_pos {p : κ × V} {r : List (κ × V)} {k : κ} (e : p.1 = k) : valV (p :: r) k = some p.2 := by simp [valV, List.find?_cons, e]
theorem valV_neg {p : κ × V} {r : List (κ × V)} {k : κ} (e : ¬ p.1 = k) : valV (p :: r) k = valV r k := by simp [valV, List.find?_cons, e]
theorem valV_any (k : κ) : ∀ kvs : List (κ × V), (kvs.any fun kv => decide (kv.1 = k)) = (valV kvs k).isSome
  | [] => rfl
  | p :: r => by
    rw [List.any_cons]
    by_cases e : p.1 = k
    · simp only [valV_pos e, decide_eq_true e, Bool.true_or, Option.isSome_some]
    · rw [valV_neg e, decide_eq_false e, Bool.false_or]; exact valV_any k r
theorem valV_map (k j : κ) (y : V) : ∀ kvs : List (κ × V), valV (kvs.map fun kv => if kv.1 = k then (kv.1, y) else kv) j = (valV kvs j).map fun x => if j = k then y else x
  | [] => rfl
  | p :: r => by
    have ih := valV_map k j y r
    rw [List.map_cons]
    by_cases h : p.1 = k
    · rw [if_pos h]
      by_cases e : p.1 = j
      · rw [valV_pos (p := (p.1, y)) e, valV_pos e, Option.map_some, if_pos (e.symm.trans h)]
      · rw [valV_neg (p := (p.1, y)) e, valV_neg e, ih]
    · rw [if_neg h]
      by_cases e : p.1 = j
      · rw [valV_pos (p := p) e, valV_pos e, Option.map_some, if_neg (fun z => h (e.trans z))]
      · rw [valV_neg (p := p) e, valV_neg e, ih]
theorem valV_snoc (k j : κ) (y : V) : ∀ kvs : List (κ × V), valV kvs k = none → valV (kvs ++ [(k, y)]) j = if j = k then some y else valV kvs j
  | [], _ => by
    by_cases e : k = j
    · rw [if_pos e.symm]; exact valV_pos (p := (k, y)) e
    · rw [if_neg (fun z => e z.symm)]; exact valV_neg (p := (k, y)) e
  | p :: r, hn => by
    rw [List.cons_append]
    have hk : ¬ p.1 = k := fun z => by rw [valV_pos z] at hn; cases hn
    rw [valV_neg hk] at hn
    have ih := valV_snoc k j y r hn
    by_cases e : p.1 = j
    · rw [valV_pos e, valV_pos e, if_neg (fun z => hk (e.trans z))]
    · rw [valV_neg e, valV_neg e, ih]
theorem valV_put (kvs : List (κ × V)) (k j : κ) (y : V) : valV (putK kvs k y) j = if j = k then some y else valV kvs j := by
  unfold putK
  by_cases a : (kvs.any fun kv => decide (kv.1 = k)) = true
  · rw [if_pos a, valV_map]
    rw [valV_any] at a
    by_cases e : j = k
    · obtain ⟨x, hx⟩ := Option.isSome_iff_exists.mp a
      rw [if_pos e, e, hx, Option.map_some, if_pos rfl]
    · rw [if_neg e]
      cases valV kvs j with
      | none => rfl
      | some x => rw [Option.map_some, if_neg e]
  · rw [if_neg a]
    refine valV_snoc k j y kvs ?_
    rw [valV_any] at a
    cases q : valV kvs k with
    | none => rfl
    | some x => rw [q] at a; exact (a rfl).elim
theorem length_putK (kvs : List (κ × V)) (k : κ) (v : V) : (putK kvs k v).length ≤ kvs.length + 1 := by
  unfold putK
  split
  · rw [List.length_map]; omega
  · rw [List.length_append, List.length_cons, List.length_nil]; omega
theorem putK_new {kvs : List (κ × V)} {k : κ} (v : V) (h : valV kvs k = none) : putK kvs k v = kvs ++ [(k, v)] := by
  unfold putK
  rw [valV_any, h]
  exact if_neg (by decide)

theorem RelO.isSome_eq {o : Option V} {u : Option Value} (r : RelO o u) : o.isSome = u.isSome := by
  cases o with
  | none => cases u with
    | none => rfl
    | some _ => exact (show False from r).elim
  | some _ => cases u with
    | none => exact (show False from r).elim
    | some _ => rfl
theorem RelO.getD {o : Option V} {u : Option Value} {d : V} {d' : Value} (r : RelO o u) (rd : RelV d d') : RelV (o.getD d) (u.getD d') := by
  cases o with
  | none => cases u with
    | none => exact rd
    | some _ => exact (show False from r).elim
  | some _ => cases u with
    | none => exact (show False from r).elim
    | some _ => exact r

/-- raw tables of the same keys -/
theorem KV.val {kvs : List (κ × V)} {vs : List (κ × Value)} (r : KV kvs vs) (k : κ) : RelO (valV kvs k) (valueAt vs k) := by
  unfold KV at r
  induction r with
  | nil => exact True.intro
  | @cons p q ps qs h t ih =>
    obtain ⟨h1, h2⟩ := h
    by_cases e : p.1 = k
    · have e' : q.1 = k := h1.symm.trans e
      have b : valueAt (q :: qs) k = some q.2 := by simp [valueAt, List.find?_cons, e']
      rw [valV_pos e, b]; exact h2
    · have e' : ¬ q.1 = k := fun z => e (h1.trans z)
      have b : valueAt (q :: qs) k = valueAt qs k := by simp [valueAt, List.find?_cons, e']
      rw [valV_neg e, b]; exact ih
theorem KV.any {kvs : List (κ × V)} {vs : List (κ × Value)} (r : KV kvs vs) (k : κ) : (kvs.any fun kv => decide (kv.1 = k)) = vs.any fun kv => decide (kv.1 = k) := by
  unfold KV at r
  induction r with
  | nil => rfl
  | cons h t ih => rw [List.any_cons, List.any_cons, ih, h.1]
theorem KV.repl {kvs : List (κ × V)} {vs : List (κ × Value)} (r : KV kvs vs) (k : κ) {y : V} {u : Value} (ry : RelV y u) :
    KV (kvs.map fun kv => if kv.1 = k then (kv.1, y) else kv) (vs.map fun kv => if kv.1 = k then (kv.1, u) else kv) := by
  unfold KV at r ⊢
  induction r with
  | nil => exact .nil
  | @cons p q ps qs h t ih =>
    rw [List.map_cons, List.map_cons]
    refine .cons ?_ ih
    obtain ⟨h1, h2⟩ := h
    by_cases e : p.1 = k
    · rw [if_pos e, if_pos (h1.symm.trans e)]; exact ⟨h1, ry⟩
    · rw [if_neg e, if_neg (fun z => e (h1.trans z))]; exact ⟨h1, h2⟩
theorem KV.put {kvs : List (κ × V)} {vs : List (κ × Value)} (r : KV kvs vs) (k : κ) {y : V} {u : Value} (ry : RelV y u) : KV (putK kvs k y) (stored vs k u) := by
  unfold putK stored
  rw [r.any k]
  by_cases e : (vs.any fun kv => decide (kv.1 = k)) = true
  · rw [if_pos e, if_pos e]; exact r.repl k ry
  · rw [if_neg e, if_neg e]; exact Paired.snoc r ⟨rfl, ry⟩
theorem KV.drop {kvs : List (κ × V)} {vs : List (κ × Value)} (r : KV kvs vs) (k : κ) : KV (dropK kvs k) (without vs k) := by
  unfold KV at r ⊢
  unfold dropK without
  induction r with
  | nil => exact .nil
  | @cons p q ps qs h t ih =>
    obtain ⟨h1, h2⟩ := h
    rw [List.filter_cons, List.filter_cons]
    by_cases e : p.1 = k
    · have a : ¬ decide (p.1 ≠ k) = true := by simp [e]
      have b : ¬ decide (q.1 ≠ k) = true := by simp [h1.symm.trans e]
      rw [if_neg a, if_neg b]; exact ih
    · have e' : ¬ q.1 = k := fun z => e (h1.trans z)
      have a : decide (p.1 ≠ k) = true := by simp [e]
      have b : decide (q.1 ≠ k) = true := by simp [e']
      rw [if_pos a, if_pos b]; exact .cons ⟨h1, h2⟩ ih
theorem KV.keys {kvs : List (κ × V)} {vs : List (κ × Value)} (r : KV kvs vs) : kvs.map (·.1) = vs.map (·.1) := by
  unfold KV at r
  induction r with
  | nil => rfl
  | cons h t ih => rw [List.map_cons, List.map_cons, ih, h.1]
theorem KV.length {kvs : List (κ × V)} {vs : List (κ × Value)} (r : KV kvs vs) : kvs.length = vs.length := Paired.length r
end


/-! ### a tracked dict, its keys ints and texts or tuples of these -/
theorem kV_is {P : Program} {w : World} {k : Key} {u : Value} (r : RelV (kV k) u) : (mixKind P w).is k u = true := by
  cases k with
  | inl i => obtain ⟨t, e⟩ := (show ∃ t, u = Value.int i t from r); subst e; exact mixKind_int P w i t
  | inr x => obtain ⟨t, e⟩ := (show ∃ t, u = Value.str x t from r); subst e; exact mixKind_str P w x t
theorem items_are {P : Program} {w : World} : ∀ {ks : List Key} {us : List Value}, Vals (ks.map kV) us → ItemsAre (mixKind P w) ks us
  | [], _, r => by rw [List.map_nil] at r; cases r; exact .nil
  | k :: ks, _, r => by
    rw [List.map_cons] at r
    cases r with
    | cons h t => exact .cons (kV_is h) (items_are t)

/-- raw entries of a dict with tuple keys -/
abbrev KT (H : Hp) : List (List Key × V) → List (List Key × Addr × Value) → Prop := Paired fun p q => p.1 = q.1 ∧ H q.2.1 = some (.tup (p.1.map kV)) ∧ RelV p.2 q.2.2
theorem KT.val {H : Hp} {kvs : List (List Key × V)} {xs : List (List Key × Addr × Value)} (r : KT H kvs xs) (k : List Key) : RelO (valV kvs k) ((atKey xs k).map (·.2)) := by
  induction r with
  | nil => exact True.intro
  | @cons p q ps qs h t ih =>
    obtain ⟨h1, _, h2⟩ := h
    by_cases e : p.1 = k
    · have e' : q.1 = k := h1.symm.trans e
      have b : atKey (q :: qs) k = some q.2 := by simp [atKey, List.find?_cons, e']
      rw [valV_pos e, b]; exact h2
    · have e' : ¬ q.1 = k := fun z => e (h1.trans z)
      have b : atKey (q :: qs) k = atKey qs k := by simp [atKey, List.find?_cons, e']
      rw [valV_neg e, b]; exact ih
theorem KT.repl {H : Hp} {kvs : List (List Key × V)} {xs : List (List Key × Addr × Value)} (r : KT H kvs xs) (k : List Key) {y : V} {u : Value} (ry : RelV y u) :
    KT H (kvs.map fun kv => if kv.1 = k then (kv.1, y) else kv) (xs.map (putAt k u)) := by
  induction r with
  | nil => exact .nil
  | @cons p q ps qs h t ih =>
    rw [List.map_cons, List.map_cons]
    refine .cons ?_ ih
    obtain ⟨h1, h2, h3⟩ := h
    unfold putAt
    by_cases e : p.1 = k
    · rw [if_pos e, if_pos (h1.symm.trans e)]; exact ⟨h1, h2, ry⟩
    · rw [if_neg e, if_neg (fun z => e (h1.trans z))]; exact ⟨h1, h2, h3⟩
theorem KT.put {H : Hp} {kvs : List (List Key × V)} {xs : List (List Key × Addr × Value)} (r : KT H kvs xs) (k : List Key) {b : Addr} {y : V} {u : Value} (hb : H b = some (.tup (k.map kV))) (ry : RelV y u) :
    KT H (putK kvs k y) (storedH xs k b u) := by
  have e : (kvs.any fun kv => decide (kv.1 = k)) = (atKey xs k).isSome := by
    rw [valV_any, (r.val k).isSome_eq, Option.isSome_map]
  unfold putK storedH
  rw [e]
  by_cases q : (atKey xs k).isSome = true
  · rw [if_pos q, if_pos q]; exact r.repl k ry
  · rw [if_neg q, if_neg q]; exact Paired.snoc r ⟨rfl, hb, ry⟩
theorem KT.keeps {H H' : Hp} {kvs : List (List Key × V)} {xs : List (List Key × Addr × Value)} (r : KT H kvs xs) (ht : ∀ b ys, H b = some (.tup ys) → H' b = some (.tup ys)) : KT H' kvs xs :=
  Paired.mapP r fun _ _ z => ⟨z.1, ht _ _ z.2.1, z.2.2⟩

section
variable {P : Program} {w : World} {H : Hp} {h : Heap} {a : Addr}
theorem rd_of {u : HO} (ok : HOk P w H h) (e : Rd H a u) : ObjOk P w H h a u := e.ok ok
theorem dk_rd {kvs : List (Key × V)} (ok : HOk P w H h) (e : Rd H a (.dK kvs)) : kvs.length ≤ sizeLine ∧ (a == sysModules) = false ∧ ∃ vs, KV kvs vs ∧ h.DictOf (mixKind P w) a vs :=
  show ObjOk P w H h a (.dK kvs) from rd_of ok e
theorem dk_of {kvs : List (Key × V)} (ok : HOk P w H h) (e : H a = some (.dK kvs)) : kvs.length ≤ sizeLine ∧ (a == sysModules) = false ∧ ∃ vs, KV kvs vs ∧ h.DictOf (mixKind P w) a vs := dk_rd ok (.inl e)
/-- a tracked tuple of ints and texts is a key -/
theorem key_of {ks : List Key} (ok : HOk P w H h) (e : H a = some (.tup (ks.map kV))) : (tupleKind (mixKind P w)).is h ks a := by
  obtain ⟨_, its, r, o, h1, h2, n, h3⟩ := (show ObjOk P w H h a (.tup (ks.map kV)) from ok a _ e)
  exact ⟨o, its.toArray, n, h1, h2.1, h3, by simpa using items_are r⟩
theorem dt_rd {kvs : List (List Key × V)} (ok : HOk P w H h) (e : Rd H a (.dT kvs)) : kvs.length ≤ sizeLine ∧ (a == sysModules) = false ∧
    ∃ xs, KT H kvs xs ∧ h.DictOfH (tupleKind (mixKind P w)) a xs := by
  obtain ⟨z, y, xs, r, o, es, ep, h1, h2, h3, h4, h5⟩ := (show ObjOk P w H h a (.dT kvs) from rd_of ok e)
  refine ⟨z, y, xs, r, o, es, ep, h1, h2, h3, h4, fun x hx => ?_, h5⟩
  have all : ∀ {l : List (List Key × V)} {m : List (List Key × Addr × Value)}, KT H l m → ∀ x ∈ m, (tupleKind (mixKind P w)).is h x.1 x.2.1 := by
    intro l m q
    induction q with
    | nil => intro x hx; exact nomatch hx
    | @cons p q ps qs hq t ih =>
      intro x hx
      rcases List.mem_cons.mp hx with e | hx
      · subst e
        exact key_of ok (by rw [← hq.1]; exact hq.2.1)
      · exact ih x hx
  exact all r x hx
theorem dt_of {kvs : List (List Key × V)} (ok : HOk P w H h) (e : H a = some (.dT kvs)) : kvs.length ≤ sizeLine ∧ (a == sysModules) = false ∧
    ∃ xs, KT H kvs xs ∧ h.DictOfH (tupleKind (mixKind P w)) a xs := dt_rd ok (.inl e)
end

/-- what the dict at a holds at the key y -/
def DGet (H : Hp) (a : Addr) (y : V) (r : Option V) : Prop :=
  (∃ kvs k, Rd H a (.dK kvs) ∧ y = kV k ∧ r = valV kvs k) ∨ ∃ kvs k b, Rd H a (.dT kvs) ∧ y = .ref b ∧ H b = some (.tup (k.map kV)) ∧ r = valV kvs k
/-- the heap behind a[y] = v -/
def DPut (H : Hp) (a : Addr) (y v : V) (H' : Hp) : Prop :=
  (∃ kvs k, H a = some (.dK kvs) ∧ y = kV k ∧ kvs.length < sizeLine ∧ H' = upd H a (.dK (putK kvs k v))) ∨
  ∃ kvs k b, H a = some (.dT kvs) ∧ y = .ref b ∧ H b = some (.tup (k.map kV)) ∧ kvs.length < sizeLine ∧ H' = upd H a (.dT (putK kvs k v))
theorem DGet.k {H : Hp} {a : Addr} {kvs : List (Key × V)} {k : Key} (e : H a = some (.dK kvs)) : DGet H a (kV k) (valV kvs k) := .inl ⟨kvs, k, .inl e, rfl, rfl⟩
theorem DGet.t {H : Hp} {a b : Addr} {kvs : List (List Key × V)} {k : List Key} (e : H a = some (.dT kvs)) (eb : H b = some (.tup (k.map kV))) : DGet H a (.ref b) (valV kvs k) := .inr ⟨kvs, k, b, .inl e, rfl, eb, rfl⟩
theorem DPut.k {H : Hp} {a : Addr} {kvs : List (Key × V)} {k : Key} {v : V} (e : H a = some (.dK kvs)) (hl : kvs.length < sizeLine) : DPut H a (kV k) v (upd H a (.dK (putK kvs k v))) := .inl ⟨kvs, k, e, rfl, hl, rfl⟩
theorem DPut.t {H : Hp} {a b : Addr} {kvs : List (List Key × V)} {k : List Key} {v : V} (e : H a = some (.dT kvs)) (eb : H b = some (.tup (k.map kV))) (hl : kvs.length < sizeLine) :
    DPut H a (.ref b) v (upd H a (.dT (putK kvs k v))) := .inr ⟨kvs, k, b, e, rfl, eb, hl, rfl⟩


section
variable {X : Cx} {pins : List (Addr × Obj)} {σ : St} {H : Hp} {s : Shared} {a : Addr} {y v : V} {u r : Value} {o : Option V} {A : Around} {E : Value → Shared → Prop}

theorem Inv.big (I : Inv X pins σ H s) : sysModules < s.heap.objs.size := by
  have h : mainGlobals < s.heap.objs.size := (I.mod.glob.keeps I.bk).lt
  exact Nat.lt_trans (by decide) h

/-- d[y], there -/
theorem d_getItem {Q : Value → Shared → Prop} (hu : A.units + 1 < cLine) (I : Inv X pins σ H s) (g : DGet H a y (some v)) (ry : RelV y u) (h : ∀ w' s', Inv X pins σ H s' → RelV v w' → Q w' s') :
    wpAny (model X.prog X.w) A (getItem (.ref a) u) Q E s := by
  rcases g with ⟨kvs, k, e, ey, l⟩ | ⟨kvs, k, b, e, ey, eb, l⟩
  · subst ey
    obtain ⟨z, hd, vs, rel, dd⟩ := dk_rd I.hok e
    obtain ⟨w', hw, rw'⟩ := RelO.some_of (v := v) (o := valueAt vs k) (by rw [l]; exact rel.val k)
    exact wpAny_getItem_of (kV_is ry) dd.mapOf hw (h w' _ (I.tok _) rw')
  · subst ey
    cases (show u = Value.ref b from ry)
    obtain ⟨z, hd, xs, rel, dd⟩ := dt_rd I.hok e
    obtain ⟨w', hw, rw'⟩ := RelO.some_of (v := v) (o := (atKey xs k).map (·.2)) (by rw [l]; exact rel.val k)
    obtain ⟨p, hp, hp2⟩ := Option.map_eq_some_iff.mp hw
    refine wpAny_getItem_heap (tupleKind_room_in1 hu) (key_of I.hok eb) dd hp ?_
    rw [hp2]
    exact h w' _ (I.tok _) rw'
/-- y in d -/
theorem d_in {Q : Value → Shared → Prop} (hu : A.units + 1 < cLine) (I : Inv X pins σ H s) (g : DGet H a y o) (ry : RelV y u) (h : ∀ s', Inv X pins σ H s' → Q (.bool o.isSome) s') :
    wpAny (model X.prog X.w) A (compareOp .In u (.ref a)) Q E s := by
  rcases g with ⟨kvs, k, e, ey, l⟩ | ⟨kvs, k, b, e, ey, eb, l⟩
  · subst ey
    obtain ⟨z, hd, vs, rel, dd⟩ := dk_rd I.hok e
    refine wpAny_in_of (kV_is ry) hd dd.mapOf ?_
    rw [← (rel.val k).isSome_eq, ← l]
    exact h _ (I.tok _)
  · subst ey
    cases (show u = Value.ref b from ry)
    obtain ⟨z, hd, xs, rel, dd⟩ := dt_rd I.hok e
    refine wpAny_in_heap (tupleKind_room_in1 hu) (key_of I.hok eb) hd dd ?_
    have q := (rel.val k).isSome_eq
    rw [Option.isSome_map] at q
    rw [← q, ← l]
    exact h _ (I.tok _)
/-- a dict's object is replaced -/
theorem d_write {h' : Heap} {t' : Nat} {ob : HO} (I : Inv X pins σ H s) (mu : Mut (H a)) (hs : Heap.SameBut a s.heap h') (he : ∃ q, h'.get? a = some q) (new : ObjOk X.prog X.w (upd H a ob) h' a ob) :
    Inv X pins σ (upd H a ob) { s with heap := h', toks := t' } :=
  I.write (x := a) (e := a) mu (.inl rfl) (fun b q hb z => (hs.2 b hb).trans z) he new
theorem dk_new {P : Program} {w : World} {H' : Hp} {h' : Heap} {kvs : List (Key × V)} {vs : List (Key × Value)} (z : kvs.length ≤ sizeLine) (hd : (a == sysModules) = false) (rel : KV kvs vs) (dd : h'.DictOf (mixKind P w) a vs) :
    ObjOk P w H' h' a (.dK kvs) := ⟨z, hd, vs, rel, dd⟩
/-- d[y] = v -/
theorem d_setItem {H' : Hp} {Q : Unit → Shared → Prop} (hu : A.units + 1 < cLine) (I : Inv X pins σ H s) (g : DPut H a y v H') (ry : RelV y u) (rv : RelV v r) (h : ∀ s', Inv X pins σ H' s' → Q () s') :
    wpAny (model X.prog X.w) A (setItem (.ref a) u r) Q E s := by
  rcases g with ⟨kvs, k, e, ey, l, eH⟩ | ⟨kvs, k, b, e, ey, eb, l, eH⟩
  · subst ey eH
    obtain ⟨z, hd, vs, rel, dd⟩ := dk_of I.hok e
    have hz : vs.length ≤ sizeLine := by rw [← rel.length]; exact z
    have hl : (putK kvs k v).length ≤ sizeLine := by have := length_putK kvs k v; omega
    refine wpAny_setItem_pairs (hsz := hz) (kV_is ry) dd fun h' dd' hs => h _ ?_
    have he : ∃ q, h'.get? a = some q := let ⟨q, _, _, hq, _⟩ := dd'; ⟨q, hq⟩
    exact d_write I (by rw [e]; exact True.intro) hs he (dk_new hl hd (rel.put k rv) dd')
  · subst ey eH
    cases (show u = Value.ref b from ry)
    obtain ⟨z, hd, xs, rel, dd⟩ := dt_of I.hok e
    have hz : xs.length ≤ sizeLine := by rw [← Paired.length rel]; exact z
    have hl : (putK kvs k v).length ≤ sizeLine := by have := length_putK kvs k v; omega
    refine wpAny_setItem_heap (hsz := hz) (tupleKind_room_in1 hu) (key_of I.hok eb) dd fun h' dd' hs => h _ ?_
    obtain ⟨q, es, ep, hq, h2, h3, h4, _, h5⟩ := dd'
    refine d_write I (by rw [e]; exact True.intro) hs ⟨q, hq⟩ ⟨hl, hd, _, (rel.put k eb rv).keeps fun c ys ec => ?_, q, es, ep, hq, h2, h3, h4, h5⟩
    rw [upd_ne (ne_of ec e (fun z => nomatch z))]
    exact ec
end

section
variable {X : Cx} {pins : List (Addr × Obj)} {σ : St} {H : Hp} {s : Shared} {a : Addr} {kvs : List (Key × V)} {k : Key} {u : Value} {A : Around} {E : Value → Shared → Prop}
end


/-! ### readings and rules -/
/-- the element of a subscription, not a slice -/
def NoSl (i : Expr) : Prop := ∀ ov iv, subscripted i false ov iv = operate [ov, iv] (getItem ov iv)
theorem subD_of {prog : Program} {w : World} {A : Around} {E : Value → Shared → Prop} {s : Shared} {env : Env} {value slice : Expr} {pos : Pos} {T id : String} {Q : Value → Shared → Prop}
    (hl : typeLookup (.type T) "__getitem__" = pure (some (.builtin id))) (hs : NoSl slice)
    (h : wpAny (model prog w) A (eval value env) (fun o s₁ => wpAny (model prog w) A (eval slice env) (fun i s₂ => s₂.TypeIs o T ∧ wpAny (model prog w) A (getItem o i) Q E s₂) E s₁) E s) :
    wpAny (model prog w) A (eval (.Subscript value slice pos) env) Q E s := by
  refine Subscript_ (wpAny_mono h (fun o s₁ h₁ => wpAny_mono h₁ (fun i s₂ h₂ => ?_) fun _ _ x => x) fun _ _ x => x)
  obtain ⟨hT, h₂⟩ := h₂
  unfold subscriptTail
  refine wpAny_bind ?_
  rw [getitemInPython_of_ne hT.not_modules]
  refine wpAny_bind (wpAny_specialOf hT hl ?_)
  have fin : wpAny (model prog w) A (subscripted slice false o i) (fun r s₃ => wpAny (model prog w) A (letTemporaryGo value o r >>= fun _ => pure r) Q E s₃) E s₂ := by
    rw [hs o i]
    exact wpAny_operating (wpAny_mono h₂ (fun r s₃ h₃ => wpAny_bind (wpAny_letTemporaryGo (wpAny_pure h₃))) fun _ _ x => x)
  first
    | exact wpAny_pure (wpAny_bind fin)
    | exact wpAny_bind (wpAny_pure (wpAny_bind fin))
    | exact wpAny_bind fin

theorem dict_typeIs {X : Cx} {pins : List (Addr × Obj)} {σ : St} {H : Hp} {s : Shared} {a : Addr} {y : V} {o : Option V} (I : Inv X pins σ H s) (g : DGet H a y o) : s.TypeIs (.ref a) "dict" := by
  rcases g with ⟨kvs, k, e, _, _⟩ | ⟨kvs, k, b, e, _, _, _⟩
  · obtain ⟨_, _, vs, _, dd⟩ := dk_rd I.hok e
    exact dd.typeIs
  · obtain ⟨_, _, xs, _, dd⟩ := dt_rd I.hok e
    exact dd.typeIs

/-- d[y] -/
def tDGet (td ty : TE) : TE := fun σ H Q => td σ H fun x H1 => ty σ H1 fun y H2 => ∃ a v, x = .ref a ∧ DGet H2 a y (some v) ∧ Q v H2
/-- y in d, y not in d -/
def tDIn (ty td : TE) : TE := fun σ H Q => ty σ H fun y H1 => td σ H1 fun x H2 => ∃ a o, x = .ref a ∧ DGet H2 a y o ∧ Q (.bl o.isSome) H2
def tDNotIn (ty td : TE) : TE := fun σ H Q => ty σ H fun y H1 => td σ H1 fun x H2 => ∃ a o, x = .ref a ∧ DGet H2 a y o ∧ Q (.bl (!o.isSome)) H2
/-- d[y] = v -/
def sDPut (td ty tv : TE) : TS := fun D σ H => tv σ H fun v H1 => td σ H1 fun x H2 => ty σ H2 fun y H3 => ∃ a H4, x = .ref a ∧ DPut H3 a y v H4 ∧ D.nx σ H4
/-- d[y] op= v -/
def sDAug (td ty tv : TE) (rd : V → V → Hp → VK → Prop) : TS := fun D σ H => td σ H fun x H1 => ty σ H1 fun y H2 => ∃ a v, x = .ref a ∧ DGet H2 a y (some v) ∧
  tv σ H2 fun y2 H3 => rd v y2 H3 fun z H4 => ∃ H5, DPut H4 a y z H5 ∧ D.nx σ H5
/-- del d[y] -/
def sDDel (td ty : TE) : TS := fun D σ H => td σ H fun x H1 => ty σ H1 fun y H2 => ∃ a kvs k, x = .ref a ∧ H2 a = some (.dK kvs) ∧ y = kV k ∧ (valV kvs k).isSome = true ∧ D.nx σ (upd H2 a (.dK (dropK kvs k)))

section
variable {X : Cx} {o i e value : Expr} {pos pos' tpos : Pos} {td ty tv : TE}
theorem pe_dget (hu : X.A.units + 1 < cLine) (ho : PE X o td) (hi : PE X i ty) (hs : NoSl i) : PE X (.Subscript o i pos) (tDGet td ty) := by
  intro pins s σ H Q I h
  refine subD_of PySem.F.slot_dict_getitem.lookup hs (thn (ho pins s σ H _ I h) fun u s1 ⟨x, H1, I1, rx, q1⟩ => thn (hi pins s1 σ H1 _ I1 q1) fun iv s2 ⟨y, H2, I2, ry, a, v, ex, g, q2⟩ => ?_)
  subst ex
  obtain rfl : u = Value.ref a := rx
  exact ⟨dict_typeIs I2 g, d_getItem hu I2 g ry fun w' s3 I3 rw' => ⟨v, H2, I3, rw', q2⟩⟩
theorem ps_dput (hu : X.A.units + 1 < cLine) (ho : PE X o td) (hi : PE X i ty) (hv : PE X value tv) (hs : swapsWith value (some (.Subscript o i pos')) pos.line X.env = pure false) :
    PS X (.Assign [.Subscript o i pos'] value pos) (sDPut td ty tv) := by
  intro pins s σ H D I h
  refine wpAny_Assign_Subscript (thn (hv pins s σ H _ I h) fun r s1 ⟨v, H1, I1, rv, q1⟩ => thn (ho pins s1 σ H1 _ I1 q1) fun u s2 ⟨x, H2, I2, rx, q2⟩ => thn (hi pins s2 σ H2 _ I2 q2) fun iv s3 ⟨y, H3, I3, ry, a, H4, ex, g, q3⟩ => ?_) hs
  subst ex
  obtain rfl : u = Value.ref a := rx
  exact d_setItem hu I3 g ry rv fun s4 I4 => ⟨σ, H4, I4, q3⟩
end


/-! ### displays -/
theorem dt_empty {P : Program} {w : World} {H : Hp} (h : Heap) (hb : sysModules < h.objs.size) : ObjOk P w H (h.push { cls := .type "dict", data := .dict #[] }) h.objs.size (.dT []) :=
  ⟨Nat.zero_le _, beq_eq_false_iff_ne.mpr (Ne.symm (Nat.ne_of_lt hb)), [], .nil, _, #[], 0, Heap.get?_push_size _ rfl, ⟨rfl, rfl, rfl⟩, rfl, rfl, List.nodup_nil⟩
/-- {}, to be a dict of the kind that is wanted -/
def tDNewK : TE := fun _ H Q => ∀ p, H p = none → Q (.ref p) (upd H p (.dK []))
def tDNewT : TE := fun _ H Q => ∀ p, H p = none → Q (.ref p) (upd H p (.dT []))
section
variable {X : Cx} {pos : Pos}
theorem pe_dnewT : PE X (.Dict [] [] pos) tDNewT := fun pins s σ H Q I h =>
  wpAny_Dict_empty ⟨.ref s.heap.objs.size, _, I.laid (a := s.heap.objs.size) (o := .dT []) (t' := s.toks) (fun _ _ q => Heap.get?_push_of_some _ q) (Nat.le_refl _) (dt_empty s.heap I.big), rfl, h _ (I.hok.fresh (Nat.le_refl _))⟩
end

/-- the pairs of a display, from the left -/
def tPairs : List (TE × TE) → St → Hp → (List (V × V) → Hp → Prop) → Prop
  | [], _, H, Q => Q [] H
  | (tk, tv) :: r, σ, H, Q => tk σ H fun x H1 => tv σ H1 fun y H2 => tPairs r σ H2 fun ps H3 => Q ((x, y) :: ps) H3
abbrev VV : List (V × V) → List (Value × Value) → Prop := Paired fun p q => RelV p.1 q.1 ∧ RelV p.2 q.2
def PPs (X : Cx) (pos : Pos) (keys : List (Option Expr)) (values : List Expr) (trs : List (TE × TE)) : Prop :=
  ∀ (pins : List (Addr × Obj)) (s : Shared) (σ : St) (H : Hp) (Q : List (V × V) → Hp → Prop), Inv X pins σ H s → tPairs trs σ H Q →
    wpAny (model X.prog X.w) X.A (evalPairs (pairTrees keys values X.env pos)) (fun vs s' => ∃ ps H', Inv X pins σ H' s' ∧ VV ps vs ∧ Q ps H') X.xe s

def mergeK (kvs more : List (Key × V)) : List (Key × V) := more.foldl (fun acc kv => putK acc kv.1 kv.2) kvs
/-- {k: v, ..} with keys ints and texts; the new dict stands empty while the pairs are made -/
def tDisp (trs : List (TE × TE)) : TE := fun σ H Q => ∀ p, H p = none → tPairs trs σ (upd H p (.dK [])) fun ps H2 => H2 p = some (.dK []) ∧ ∃ kvs : List (Key × V), ps = kvs.map (fun kv => (kV kv.1, kv.2)) ∧ kvs.length ≤ 15 ∧ Q (.ref p) (upd H2 p (.dK (mergeK [] kvs)))


/-! ### methods -/
/-- a method call o.m(e) of a built-in, with one argument: what must be seen of the text -/
structure M1 (X : Cx) (o : Expr) (m : Str) (apos : Pos) (e : Expr) (cpos : Pos) : Prop where
  base : attributeBase o m X.env (eval o X.env) = eval o X.env
  few : ((backTo cpos (starEach [e] X.env)).all (fun x => !x.1) && (backToKw cpos (keywordEach [] X.env)).all (fun x => x.1.isSome)
    && decide (([e] : List Expr).length + ([] : List Keyword).length + (if ([] : List Keyword).isEmpty then 0 else 1) < 30)) = true
  line : (apos.endLine == cpos.line) = true
  trees : backTo cpos (starEach [e] X.env) = [(false, eval e X.env)]
structure M2 (X : Cx) (o : Expr) (m : Str) (apos : Pos) (e f : Expr) (cpos : Pos) : Prop where
  base : attributeBase o m X.env (eval o X.env) = eval o X.env
  few : ((backTo cpos (starEach [e, f] X.env)).all (fun x => !x.1) && (backToKw cpos (keywordEach [] X.env)).all (fun x => x.1.isSome)
    && decide (([e, f] : List Expr).length + ([] : List Keyword).length + (if ([] : List Keyword).isEmpty then 0 else 1) < 30)) = true
  line : (apos.endLine == cpos.line) = true
  trees : backTo cpos (starEach [e, f] X.env) = [(false, eval e X.env), (false, eval f X.env)]

/-- a is a dict, whatever its keys -/
def IsD (H : Hp) (a : Addr) : Prop := (∃ kvs, Rd H a (.dK kvs)) ∨ ∃ kvs, Rd H a (.dT kvs)
theorem isD_at {X : Cx} {pins : List (Addr × Obj)} {σ : St} {H : Hp} {s : Shared} {a : Addr} (I : Inv X pins σ H s) (d : IsD H a) :
    s.TypeIs (.ref a) "dict" ∧ (∀ b, Value.ref a = .ref b → ∃ ob, s.heap.get? b = some ob ∧ ob.dict = none) ∧ (a == sysModules) = false := by
  rcases d with ⟨kvs, e⟩ | ⟨kvs, e⟩
  · obtain ⟨_, hd, vs, _, dd⟩ := dk_rd I.hok e
    refine ⟨dd.typeIs, fun b q => ?_, hd⟩
    cases q
    obtain ⟨ob, _, _, h1, h2, _⟩ := dd
    exact ⟨ob, h1, h2.2.1⟩
  · obtain ⟨_, hd, xs, _, dd⟩ := dt_rd I.hok e
    refine ⟨dd.typeIs, fun b q => ?_, hd⟩
    cases q
    obtain ⟨ob, _, _, h1, h2, _⟩ := dd
    exact ⟨ob, h1, h2.2.1⟩

section
variable {X : Cx} {pins : List (Addr × Obj)} {σ : St} {H : Hp} {s : Shared} {a : Addr} {y d : V} {u r : Value} {o : Option V} {A : Around} {E : Value → Shared → Prop}
/-- d.get(y, x) -/
theorem d_get2 {Q : Value → Shared → Prop} (hu : A.units + 1 < cLine) (I : Inv X pins σ H s) (g : DGet H a y o) (ry : RelV y u) (rd : RelV d r) (h : ∀ w' s', Inv X pins σ H s' → RelV (o.getD d) w' → Q w' s') :
    wpAny (model X.prog X.w) A (call (.builtin "dict.get") [.ref a, u, r]) Q E s := by
  rcases g with ⟨kvs, k, e, ey, l⟩ | ⟨kvs, k, b, e, ey, eb, l⟩
  · subst ey
    obtain ⟨z, hd, vs, rel, dd⟩ := dk_rd I.hok e
    refine call_meetsIn PySem.F.slot_dict_get dd.typeIs PySem.F.entry_dict_get (PySem.F.args_dict_get_3 _ _ _) (meets_dict_get_default (mixKind X.prog X.w) a (kV_is ry) hd r) ⟨_, dd.mapOf, h _ _ (I.tok _) ?_⟩
    rw [l]
    exact (rel.val k).getD rd
  · subst ey
    cases (show u = Value.ref b from ry)
    obtain ⟨z, hd, xs, rel, dd⟩ := dt_rd I.hok e
    refine call_meetsIn PySem.F.slot_dict_get dd.typeIs PySem.F.entry_dict_get (PySem.F.args_dict_get_3 _ _ _) (meetsH_dict_get_default (tupleKind (mixKind X.prog X.w)) a b hd r) ⟨tupleKind_room_in1 hu, k, xs, key_of I.hok eb, dd, h _ _ (I.tok _) ?_⟩
    rw [l]
    exact (rel.val k).getD rd
end

def tDGet1 (td ty : TE) : TE := fun σ H Q => td σ H fun x H1 => ∃ a, x = .ref a ∧ IsD H1 a ∧ ty σ H1 fun y H2 => ∃ o, DGet H2 a y o ∧ Q (o.getD .non) H2
def tDGet2 (td ty tx : TE) : TE := fun σ H Q => td σ H fun x H1 => ∃ a, x = .ref a ∧ IsD H1 a ∧ ty σ H1 fun y H2 => tx σ H2 fun z H3 => ∃ o, DGet H3 a y o ∧ Q (o.getD z) H3
/-- d.pop(k): there; d.pop(k, x): there or not -/
def tDPop1 (td ty : TE) : TE := fun σ H Q => td σ H fun x H1 => ∃ a, x = .ref a ∧ IsD H1 a ∧ ty σ H1 fun y H2 => ∃ kvs k v, H2 a = some (.dK kvs) ∧ y = kV k ∧ valV kvs k = some v ∧ Q v (upd H2 a (.dK (dropK kvs k)))
def tDPop2 (td ty tx : TE) : TE := fun σ H Q => td σ H fun x H1 => ∃ a, x = .ref a ∧ IsD H1 a ∧ ty σ H1 fun y H2 => tx σ H2 fun z H3 => ∃ kvs k, H3 a = some (.dK kvs) ∧ y = kV k ∧
  (∀ v, valV kvs k = some v → Q v (upd H3 a (.dK (dropK kvs k)))) ∧ (valV kvs k = none → Q z H3)
section
variable {X : Cx} {o e f : Expr} {apos cpos : Pos} {td ty tx : TE}
theorem pe_dget2 (hu : X.A.units + 1 < cLine) (ho : PE X o td) (he : PE X e ty) (hf : PE X f tx) (m : M2 X o "get" apos e f cpos) : PE X (.Call (.Attribute o "get" apos) [e, f] [] cpos) (tDGet2 td ty tx) := by
  intro pins s σ H Q I h
  refine wpAny_Call_method m.base m.few m.line PySem.F.plainAttrs_dict PySem.F.slot_dict_get PySem.F.type_dict_get (thn (ho pins s σ H _ I h) fun u s1 ⟨x, H1, I1, rx, a, ex, d, q1⟩ => ?_)
  subst ex
  obtain rfl : u = Value.ref a := rx
  obtain ⟨t1, t2, _⟩ := isD_at I1 d
  refine ⟨t1, t2, ?_⟩
  rw [m.trees]
  refine Calls.callWith_builtin rfl (Calls.evalArgs_plain (Calls.spliced_cons (thn (he pins s1 σ H1 _ I1 q1) fun iv s2 ⟨y, H2, I2, ry, q2⟩ =>
    Calls.spliced_cons (thn (hf pins s2 σ H2 _ I2 q2) fun fv s3 ⟨z, H3, I3, rz, ov, g, q3⟩ => Calls.spliced_nil ?_))))
  exact d_get2 hu I3 g ry rz fun w' s4 I4 rw' => ⟨_, H3, I4, rw', q3⟩
end

/-! ### dict(d): a copy -/
section
variable {X : Cx} {pins : List (Addr × Obj)} {σ : St} {H : Hp} {s : Shared} {a : Addr} {kvs : List (Key × V)} {A : Around} {E : Value → Shared → Prop}
end


section
variable {X : Cx} {pins : List (Addr × Obj)} {σ : St} {H : Hp} {s : Shared} {a : Addr} {y : V} {u : Value} {A : Around} {E : Value → Shared → Prop}
end
section
variable {X : Cx}
end
/-! ### a dict's pairs: keys that differ -/
section
variable {κ : Type} [DecidableEq κ]
end
end L2

namespace L2
open PySem PySem.Spec PyProof.Rows
/-! ### a text, sign by sign -/
def Its (x : Str) : It := ⟨fun i _ => i < x.cps.size, fun i H v H' => H' = H ∧ ∃ c, x.cps[i]? = some c ∧ v = .str ⟨#[c]⟩, fun i _ => x.cps.size ≤ i⟩
def iStr (tl : TE) : TI := fun σ H R => tl σ H fun v H1 => ∃ x, v = .str x ∧ R (Its x) H1
section
variable {X : Cx} {tg : Expr}
/-! ### all(xs) of a list of bools -/
/-! ### "".join(xs) of a list of texts -/
def rJoin (K : PySem.W.Frag) : V → List V → Hp → VK → Prop := fun x vs H Q => ∃ (z : Str) (p : Addr) (ys : List Str), x = .str z ∧ vs = [.ref p] ∧ SqL K H p (ys.map V.str) ∧ (ys.map (·.length)).sum + ys.length * z.length ≤ 16777216 ∧ Q (.str (Txt.join z ys)) H
/-! ### two lists with the very same items -/
def okV : V → Bool
  | .flt _ => false
  | .byt _ => false
  | .ty _ => false
  | _ => true
end
end L2

namespace L2
open PySem PySem.Spec PyProof.Rows
/-! ### != of two lists with the very same items -/
section
variable {X : Cx}
def rNeSame (K : PySem.W.Frag) : R2 := fun x y H Q => ∃ a b xs, x = .ref a ∧ y = .ref b ∧ SqL K H a xs ∧ SqL K H b xs ∧ xs.all okV = true ∧ Q (.bl false) H
end
section
variable {prog : Program} {w : World} {A : Around} {E : Value → Shared → Prop} {s : Shared}
end
section
variable {X : Cx} {o e : Expr} {to te : TE} {lo hi : Option Expr} {tl th : TO} {pos p2 : Pos}
/-- o[lo:hi] = a list -/
def gSlc (to : TE) (tl th : TO) : TG := fun v σ H Q => to σ H fun ov H1 => tl σ H1 fun l H2 => th σ H2 fun u H3 => ∃ (p b : Addr) (xs ys : List V) (a c : Nat), ov = .ref p ∧ v = .ref b ∧ l = some (a : Int) ∧ u = some (c : Int) ∧ H3 p = some (.lst xs) ∧ H3 b = some (.lst ys) ∧ p ≠ b ∧ a ≤ c ∧ a ≤ xs.length ∧
  xs.length + ys.length ≤ sizeLine ∧ Q σ (upd H3 p (.lst (xs.take a ++ ys ++ xs.drop (min c xs.length))))
end

/-! ### a tuple times an int -/
section
open PySem.AutoSeq1 (wpAny_loadPart')
open PySem.MeetsSeq PySem.MeetsSeq2 PySem.MeetsSeq3
end
section
variable {X : Cx}
/-- t * 4, t not empty -/
def rRepT (K : PySem.W.Frag) : R2 := fun x y H Q => ∃ (a : Addr) (xs : List V), x = .ref a ∧ y = .int 4 ∧ SqT K H a xs ∧ xs ≠ [] ∧ xs.length ≤ 10 ∧ ∀ p, H p = none → Q (.ref p) (upd H p (.tup (xs ++ xs ++ xs ++ xs)))
end
end L2

namespace L2
open PySem PySem.Spec PyProof.Rows
/-! ### what is laid anew -/
theorem laid_same {H H1 : Hp} {p : Addr} {o : HO} (h : upd H p o = H1) (n : H p = none) : Same H H1 := h ▸ same_laid n o
theorem laid_at {H H1 : Hp} {p : Addr} {o : HO} (h : upd H p o = H1) : H1 p = some o := h ▸ upd_same
theorem PenAt.grw {H H' : Hp} {a : Addr} (h : PenAt H a) (g : Same H H') : Grw a H H' := by
  obtain ⟨p, q, r, e⟩ := h
  exact grw_same e g
/-! ### what kind a value is -/
inductive Kd (H : Hp) : V → String → Prop
  | non : Kd H .non "NoneType"
  | bl (b : Bool) : Kd H (.bl b) "bool"
  | int (i : Int) : Kd H (.int i) "int"
  | str (z : Str) : Kd H (.str z) "str"
  | lst {a : Addr} {xs : List V} (e : H a = some (.lst xs)) : Kd H (.ref a) "list"
  | tup {a : Addr} {xs : List V} (e : H a = some (.tup xs)) : Kd H (.ref a) "tuple"
  | dK {a : Addr} {kvs : List (Key × V)} (e : H a = some (.dK kvs)) : Kd H (.ref a) "dict"
theorem Kd.mono {H H' : Hp} (g : Same H H') {x : V} {T : String} (h : Kd H x T) : Kd H' x T := by
  cases h with
  | non => exact .non
  | bl b => exact .bl b
  | int i => exact .int i
  | str z => exact .str z
  | lst e => exact .lst (g _ _ e)
  | tup e => exact .tup (g _ _ e)
  | dK e => exact .dK (g _ _ e)
theorem Kd.ty {K : PySem.W.Frag} {H : Hp} {x : V} {T : String} (h : Kd H x T) : TyOf K H x (.type T) := by
  cases h with
  | non => exact .non
  | bl b => exact .bl b
  | int i => exact .int i
  | str z => exact .str z
  | lst e => exact .lst e
  | tup e => exact .tup e
  | dK e => exact .dK e
theorem Kd.okV {H : Hp} {x : V} {T : String} (h : Kd H x T) : okV x = true := by cases h <;> rfl
def kds : List String := ["NoneType", "bool", "int", "str", "list", "tuple", "dict"]
def kus : List String := ["int", "bool", "str", "list", "tuple"]
def isKd (T U : String) : Bool := (T == U) || (T == "bool" && U == "int")
theorem kit_all : ∀ T ∈ kds, ∀ U ∈ kus, kitT T U = some (isKd T U) := by decide +kernel
theorem Kd.mem {H : Hp} {x : V} {T : String} (h : Kd H x T) : T ∈ kds := by cases h <;> decide
theorem Kd.kit {K : PySem.W.Frag} {H : Hp} {x : V} {T U : String} {b : Bool} (h : Kd H x T) (hU : U ∈ kus) (e : isKd T U = b) : PySem.W.kitOne K (.type T) (.type U) = some b := by
  subst e
  exact kit_t (kit_all T h.mem U hU)
def whV : V → Bool
  | .int _ => true
  | _ => false
def wF : V → Int → Bool
  | .int i, l => decide (l ≤ i)
  | _, _ => false
theorem Kd.wh {H : Hp} {x : V} {T : String} (h : Kd H x T) : (isKd T "int" && !isKd T "bool") = whV x := by
  cases h <;> (first | rfl | (simp [isKd, whV]))
/-! ### a module's constant -/
/-! ### marks -/
def letters : Str := "abcdefghijklmnopqrstuvwxyz"
def sgB (c : Nat) : Bool := !(Builtin.Str.occurrences letters ⟨#[c]⟩ 0 letters.length 1).isEmpty
def mkS (z : Str) : Bool := decide (1 ≤ z.length) && decide (z.length ≤ 8) && z.cps.toList.all sgB
def mkB : V → Bool
  | .str z => mkS z
  | _ => false
/-! ### things and streams, of whatever kind -/
inductive ThB (H : Hp) : V → Bool → Prop
  | no {x : V} {T : String} (h : Kd H x T) (e : isKd T "tuple" = false) : ThB H x false
  | len {a : Addr} {xs : List V} (h : H a = some (.tup xs)) (e : xs.length ≠ 4) : ThB H (.ref a) false
  | four {a : Addr} {d m n k : V} {T1 T2 T3 T4 : String} {b : Bool} (h : H a = some (.tup [d, m, n, k])) (h1 : Kd H d T1) (h2 : Kd H m T2) (h3 : Kd H n T3) (h4 : Kd H k T4) (hm : ∀ z, m = .str z → z.length ≤ 1000)
      (e : (wF d 0 && (mkB m && (wF n 0 && wF k 1))) = b) : ThB H (.ref a) b
theorem ThB.mono {H H' : Hp} (g : Same H H') {x : V} {b : Bool} (h : ThB H x b) : ThB H' x b := by
  cases h with
  | no h e => exact .no (h.mono g) e
  | len h e => exact .len (g _ _ h) e
  | four h h1 h2 h3 h4 hm e => exact .four (g _ _ h) (h1.mono g) (h2.mono g) (h3.mono g) (h4.mono g) hm e
theorem ThB.okV {H : Hp} {x : V} {b : Bool} (h : ThB H x b) : okV x = true := by
  cases h with
  | no h e => exact h.okV
  | len h e => rfl
  | four h => rfl
inductive ThBs (H : Hp) : List V → List Bool → Prop
  | nil : ThBs H [] []
  | cons {x : V} {xs : List V} {b : Bool} {bs : List Bool} : ThB H x b → ThBs H xs bs → ThBs H (x :: xs) (b :: bs)
theorem ThBs.mono {H H' : Hp} (g : Same H H') : ∀ {xs : List V} {bs : List Bool}, ThBs H xs bs → ThBs H' xs bs
  | _, _, .nil => .nil
  | _, _, .cons h r => .cons (h.mono g) (r.mono g)
theorem ThBs.length {H : Hp} : ∀ {xs : List V} {bs : List Bool}, ThBs H xs bs → xs.length = bs.length
  | _, _, .nil => rfl
  | _, _, .cons _ r => congrArg (· + 1) r.length
theorem ThBs.append {H : Hp} : ∀ {xs ys : List V} {bs cs : List Bool}, ThBs H xs bs → ThBs H ys cs → ThBs H (xs ++ ys) (bs ++ cs)
  | _, _, _, _, .nil, s => s
  | _, _, _, _, .cons h r, s => .cons h (r.append s)
theorem ThBs.take {H : Hp} : ∀ {xs : List V} {bs : List Bool} (n : Nat), ThBs H xs bs → ThBs H (xs.take n) (bs.take n)
  | _, _, 0, _ => .nil
  | _, _, _ + 1, .nil => .nil
  | _, _, n + 1, .cons h r => .cons h (r.take n)
theorem ThBs.drop {H : Hp} : ∀ {xs : List V} {bs : List Bool} (n : Nat), ThBs H xs bs → ThBs H (xs.drop n) (bs.drop n)
  | _, _, 0, r => r
  | _, _, _ + 1, .nil => .nil
  | _, _, n + 1, .cons _ r => r.drop n
theorem ThBs.get {H : Hp} : ∀ {xs : List V} {bs : List Bool} {i : Nat} {x : V}, ThBs H xs bs → xs[i]? = some x → ∃ b, bs[i]? = some b ∧ ThB H x b
  | _, _, _, _, .nil, e => by simp at e
  | _, _, 0, _, .cons h _, e => by simp at e; subst e; exact ⟨_, rfl, h⟩
  | _, _, i + 1, x, .cons _ r, e => by
    obtain ⟨b, h1, h2⟩ := ThBs.get (i := i) (x := x) r (by simpa using e)
    exact ⟨b, by simpa using h1, h2⟩
theorem ThBs.okV {H : Hp} : ∀ {xs : List V} {bs : List Bool}, ThBs H xs bs → xs.all L2.okV = true
  | _, _, .nil => rfl
  | _, _, .cons h r => by rw [List.all_cons, h.okV, r.okV]; rfl
inductive StB (H : Hp) : V → Bool → Prop
  | no {x : V} {T : String} (h : Kd H x T) (e : isKd T "list" = false) : StB H x false
  | lst {a : Addr} {xs : List V} {bs : List Bool} {b : Bool} (h : H a = some (.lst xs)) (t : ThBs H xs bs) (l : xs.length ≤ 1000) (e : bs.all id = b) : StB H (.ref a) b
theorem StB.mono {H H' : Hp} (g : Same H H') {x : V} {b : Bool} (h : StB H x b) : StB H' x b := by
  cases h with
  | no h e => exact .no (h.mono g) e
  | lst h t l e => exact .lst (g _ _ h) (t.mono g) l e
theorem pick {H : Hp} {p : Addr} {xs : List V} {d : Int} (e : H p = some (.lst xs)) (h0 : 0 ≤ d) (h1 : d < xs.length) : ∃ v, atI xs d = some v ∧ v ∈ xs := atI_in h0 h1
theorem hSqT {K : PySem.W.Frag} {H : Hp} {a c : Addr} {xs : List V} (h : hide a H c = some (.tup xs)) : SqT K H c xs := SqT.of (hide_some h).2
theorem hSqL {K : PySem.W.Frag} {H : Hp} {a c : Addr} {xs : List V} (h : hide a H c = some (.lst xs)) : SqL K H c xs := SqL.of (hide_some h).2
theorem hide_upd {H : Hp} {a p : Addr} {o : HO} (h : p ≠ a) : hide a (upd H p o) = upd (hide a H) p o := by
  funext b
  by_cases e : b = a
  · subst e
    rw [hide_self, upd_ne (Ne.symm h), hide_self]
  · rw [hide_ne e]
    by_cases q : b = p
    · subst q
      rw [upd_same, upd_same]
    · rw [upd_ne q, upd_ne q, hide_ne e]
end L2

namespace L2
open PySem PySem.Spec PyProof.Rows
/-! ### a built-in function called with keywords -/
def CallKR (X : Cx) (f : Value) (ks : List Str) (r : List V → List V → Hp → VK → Prop) : Prop :=
  ∀ (pins : List (Addr × Obj)) (s : Shared) (σ : St) (H : Hp) (xs zs : List V) (us ws : List Value) (Q : VK), Inv X pins σ H s → Vals xs us → Vals zs ws → r xs zs H Q →
    wpAny (model X.prog X.w) X.A (call f us (ks.zip ws)) (EP X pins σ Q) X.xe s
def tCBK (r : List V → List V → Hp → VK → Prop) (t tk : TA) : TE := fun σ H Q => t σ H fun vs H1 => tk σ H1 fun zs H2 => r vs zs H2 Q
section
variable {X : Cx} {x : Str} {p pos : Pos} {e : Expr} {es : List Expr} {kws : List Keyword} {ks : List Str} {t tk : TA} {id : String} {r : List V → List V → Hp → VK → Prop}
end
/-! ### what an iterable gives, collected -/
section
variable {prog : Program} {w : World} {A : Around} {E : Value → Shared → Prop} {s : Shared} {T : String} {r d : Addr} {n : Nat} {P : Nat → Value → Prop} {OK : Heap → Prop}
/-- how the collecting ends -/
def ColEnd (s : Shared) (P : Nat → Value → Prop) (n : Nat) (q : Result) (s' : Shared) : Prop :=
  ∃ (g : Heap) (tk c : Nat) (xs : Array Value), q = .ok (.ret (.ref s.heap.objs.size)) ∧ s' = { s with heap := g, toks := tk } ∧ (∀ b o, s.heap.get? b = some o → g.get? b = some o) ∧ g.get? s.heap.objs.size = some { cls := .type "list", dict := none, data := .seq xs c, slots := #[] } ∧ ItemsOf P xs n
theorem collect_src {R : List Value → Shared → Prop} (K : PySem.W.KdlSrc prog w T r d n P OK) (hh : A.handled = none) (hok : OK s.heap) (hn : n ≤ sizeLine)
    (h : ∀ (g : Heap) (tk : Nat) (xs : Array Value), (∀ b o, s.heap.get? b = some o → g.get? b = some o) → s.heap.objs.size < g.objs.size → ItemsOf P xs n → R xs.toList { s with heap := g, toks := tk }) : wpAny (model prog w) A (collect (.ref r)) R E s := by
  obtain ⟨lt1, lt2⟩ := K.there _ hok
  unfold collect
  refine wpAny_bind (wpAny_runValue (codeAny_builtin entry_proto_collect' ?_)); rw [Around.under_plainId PySem.F.plain_proto_collect _]
  refine wpAny_bind (m := newList []) (wpAny_newObj_type (wpAny_pure ⟨plainId_quiet PySem.F.plain_list_iadd _, codeAny_builtin entry_list_iadd' ?_⟩)); rw [Around.under_plainId PySem.F.plain_list_iadd _]
  have own : (s.heap.push { cls := .type "list", data := .seq ([] : List Value).toArray }).get? s.heap.objs.size = some { cls := .type "list", data := .seq #[] } := Heap.get?_push_size _ rfl
  have run := PySem.W.kdl_extend (A := A) (s := { s with heap := s.heap.push { cls := .type "list", data := .seq ([] : List Value).toArray } }) (R := ColEnd s P n) K hh (K.keep _ _ hok fun _ _ _ e => Heap.get?_push_of_some _ e) s.heap.objs.size (Nat.ne_of_gt lt1) (Nat.ne_of_gt lt2) (.ref s.heap.objs.size) 0 own
    (fun g tk xs c hk hS hx => ⟨g, tk, c, xs, rfl, rfl, fun b o e => hk b o (Nat.ne_of_lt (Heap.lt_size e)) (Heap.get?_push_of_some _ e), hS, hx⟩) hn
  refine wpAny_mono run (fun fin s' y => ?_) (fun _ _ y => by obtain ⟨_, _, _, _, e, _⟩ := y; cases e)
  cases fin with
  | done f =>
    obtain ⟨g, tk, c, xs, e, rfl, hk, hS, hx⟩ := y
    cases e
    exact wpAny_bind (m := load s.heap.objs.size) (wpAny_load hS (wpAny_pure (h g tk xs hk (Heap.lt_size hS) hx)))
  | again c1 =>
    refine ⟨y.1, codeAny_mono y.2 fun q s2 z => ?_⟩
    obtain ⟨g, tk, c, xs, rfl, rfl, hk, hS, hx⟩ := z
    exact wpAny_bind (m := load s.heap.objs.size) (wpAny_load hS (wpAny_pure (h g tk xs hk (Heap.lt_size hS) hx)))
end
/-! ### d.values(), d.items(): views -/
def vView (a d : Addr) : HO := .ext fun h => h.IsValuesView a d
def iView (a d : Addr) : HO := .ext fun h => h.IsItemsView a d
section
variable {X : Cx} {pins : List (Addr × Obj)} {σ : St} {H : Hp} {s : Shared}
def rView (w : Addr → Addr → HO) : V → List V → Hp → VK → Prop := fun x vs H Q => ∃ d kvs, x = .ref d ∧ vs = [] ∧ H d = some (.dK kvs) ∧ ∀ a, H a = none → Q (.ref a) (upd H a (w a d))
/-! ### sorted(d.values(), reverse=True), whole numbers -/
def rSortRV : List V → List V → Hp → VK → Prop := fun xs zs H Q => ∃ (v d : Addr) (kvs : List (Key × V)) (ns : List Int), xs = [.ref v] ∧ zs = [.bl true] ∧ H v = some (vView v d) ∧ H d = some (.dK kvs) ∧ kvs.map (·.2) = ns.map V.int ∧ ns.length < 64 ∧
  ∀ (p : Addr) (ms : List Int), H p = none → ms.Perm ns → ms.Pairwise (· ≥ ·) → Q (.ref p) (upd H p (.lst (ms.map V.int)))
/-! ### list(d.items()) -/
/-- pairs laid anew at as, in order -/
inductive PairsAt (H : Hp) : List V → List (Key × V) → Prop
  | nil : PairsAt H [] []
  | cons {a : Addr} {xs : List V} {k : Key} {v : V} {kvs : List (Key × V)} (h : H a = some (.tup [kV k, v])) (r : PairsAt H xs kvs) : PairsAt H (.ref a :: xs) ((k, v) :: kvs)
theorem PairsAt.mono {H H' : Hp} (g : Same H H') : ∀ {xs : List V} {kvs : List (Key × V)}, PairsAt H xs kvs → PairsAt H' xs kvs
  | _, _, .nil => .nil
  | _, _, .cons h r => .cons (g _ _ h) (r.mono g)
theorem PairsAt.length {H : Hp} : ∀ {xs : List V} {kvs : List (Key × V)}, PairsAt H xs kvs → xs.length = kvs.length
  | _, _, .nil => rfl
  | _, _, .cons _ r => congrArg (· + 1) r.length
theorem PairsAt.append {H : Hp} : ∀ {xs ys : List V} {ks ls : List (Key × V)}, PairsAt H xs ks → PairsAt H ys ls → PairsAt H (xs ++ ys) (ks ++ ls)
  | _, _, _, _, .nil, s => s
  | _, _, _, _, .cons h r, s => .cons h (r.append s)
theorem PairsAt.reverse {H : Hp} : ∀ {xs : List V} {ks : List (Key × V)}, PairsAt H xs ks → PairsAt H xs.reverse ks.reverse
  | _, _, .nil => .nil
  | _, _, .cons h r => by rw [List.reverse_cons, List.reverse_cons]; exact r.reverse.append (.cons h .nil)
theorem kV_rel {P : Program} {w : World} {k : Key} {u : Value} (h : (mixKind P w).is k u = true) : RelV (kV k) u := by
  rcases keyIs_shape (show keyIs k u = true from h) with ⟨i, t, rfl, rfl⟩ | ⟨x, t, rfl, rfl⟩
  · exact ⟨t, rfl⟩
  · exact ⟨t, rfl⟩
/-- an abstract heap with new things from n on -/
def over (H : Hp) (n : Nat) (L : Hp) : Hp := fun b => if b < n then H b else L b
theorem over_old {H L : Hp} {n : Nat} {b : Addr} (h : b < n) : over H n L b = H b := if_pos h
theorem over_new {H L : Hp} {n : Nat} {b : Addr} (h : n ≤ b) : over H n L b = L b := if_neg (Nat.not_lt.mpr h)
theorem Inv.over {L : Hp} {g : Heap} {t' : Nat} (I : Inv X pins σ H s) (k : ∀ b u, s.heap.get? b = some u → g.get? b = some u) (new : ∀ b o, s.heap.objs.size ≤ b → L b = some o → ObjOk X.prog X.w (over H s.heap.objs.size L) g b o) :
    Inv X pins σ (L2.over H s.heap.objs.size L) { s with heap := g, toks := t' } ∧ Same H (L2.over H s.heap.objs.size L) := by
  have old : ∀ b o, H b = some o → L2.over H s.heap.objs.size L b = some o := fun b o e => by rw [over_old (I.hok b o e).lt]; exact e
  have fre : ∀ b u, s.heap.get? b = some u → H b = none → L2.over H s.heap.objs.size L b = none := fun b u e n => by rw [over_old (Heap.lt_size e)]; exact n
  refine ⟨I.un ⟨fun b u e _ _ _ => k b u e, fun b u e _ _ _ => ⟨u.slots, k b u e⟩, fun b u e n _ => fre b u e n, fun b u e _ => ⟨u, k b u e⟩, fun b xs e => old b _ e, fun b o u e => old b _ e, fun b ps e => ⟨#[], by rw [old b _ e]; simp⟩⟩ ?_, old⟩
  intro b o e
  by_cases hb : b < s.heap.objs.size
  · rw [over_old hb] at e
    exact (I.hok b o e).stay (fun c u _ q => k c u q) (fun c q => old c _ q) fun c xs q => old c _ q
  · have hb := Nat.not_lt.mp hb
    rw [over_new hb] at e
    exact new b o hb e
theorem PairsAt.of {H : Hp} : ∀ {as : List Addr} {kvs : List (Key × V)}, as.length = kvs.length → (∀ (j : Nat) (a : Addr) (p : Key × V), as[j]? = some a → kvs[j]? = some p → H a = some (.tup [kV p.1, p.2])) → PairsAt H (as.map V.ref) kvs
  | [], [], _, _ => .nil
  | [], _ :: _, e, _ => by simp at e
  | _ :: _, [], e, _ => by simp at e
  | a :: as, (k, v) :: kvs, e, h => .cons (h 0 a (k, v) rfl rfl) (PairsAt.of (by simpa using e) fun j b p h1 h2 => h (j + 1) b p (by simpa using h1) (by simpa using h2))
theorem KV.get : ∀ {kvs : List (Key × V)} {ws : List (Key × Value)} {j : Nat} {p : Key × V} {q : Key × Value}, KV kvs ws → kvs[j]? = some p → ws[j]? = some q → p.1 = q.1 ∧ RelV p.2 q.2
  | _, _, _, _, _, .nil, e, _ => by simp at e
  | _, _, 0, _, _, .cons h _, e1, e2 => by
    simp at e1 e2
    subst e1 e2
    exact h
  | _, _, j + 1, _, _, .cons _ r, e1, e2 => KV.get (j := j) r (by simpa using e1) (by simpa using e2)
theorem refs_vals : ∀ as : List Addr, Vals (as.map V.ref) (as.map Value.ref)
  | [] => .nil
  | _ :: as => .cons rfl (refs_vals as)
def rListI : List V → Hp → VK → Prop := fun xs H Q => ∃ (v d : Addr) (kvs : List (Key × V)), xs = [.ref v] ∧ H v = some (iView v d) ∧ H d = some (.dK kvs) ∧ kvs.length ≤ 1000 ∧ ∀ (H' : Hp) (p : Addr) (ys : List V), Same H H' → H p = none → H' p = some (.lst ys) → PairsAt H' ys kvs → Q (.ref p) H'
/-! ### xs[::-1] -/
def tRev (K : PySem.W.Frag) (te ts : TE) : TE := fun σ H Q => te σ H fun x H1 => ts σ H1 fun y H2 => ∃ (a : Addr) (xs : List V), x = .ref a ∧ y = .int (-1) ∧ SqL K H2 a xs ∧ ∀ p, H2 p = none → Q (.ref p) (upd H2 p (.lst xs.reverse))
/-! ### a dict while it is walked -/
def tFrz (t : TE) : TE := fun σ H Q => ∃ (d : Addr) (kvs : List (Key × V)), H d = some (.dK kvs) ∧ ∀ o, t σ (upd H d (.frz o (.dK kvs))) fun v H2 => H2 d = some (.frz o (.dK kvs)) ∧ Q v (upd H2 d (.dK kvs))
def frzE (D : Ends) (d : Addr) (kvs : List (Key × V)) (o : Obj) : Ends where
  nx := fun σ2 H2 => H2 d = some (.frz o (.dK kvs)) ∧ D.nx σ2 (upd H2 d (.dK kvs))
  rt := fun v H2 => H2 d = some (.frz o (.dK kvs)) ∧ D.rt v (upd H2 d (.dK kvs))
  bk := fun σ2 H2 => H2 d = some (.frz o (.dK kvs)) ∧ D.bk σ2 (upd H2 d (.dK kvs))
  ct := fun σ2 H2 => H2 d = some (.frz o (.dK kvs)) ∧ D.ct σ2 (upd H2 d (.dK kvs))
def sFrz (t : TS) : TS := fun D σ H => ∃ (d : Addr) (kvs : List (Key × V)), H d = some (.dK kvs) ∧ ∀ o, t (frzE D d kvs o) σ (upd H d (.frz o (.dK kvs)))
def Itd (d : Addr) (kvs : List (Key × V)) (o : Obj) : It := ⟨fun i H => i < kvs.length ∧ H d = some (.frz o (.dK kvs)), fun i H x H' => H' = H ∧ ∃ p, kvs[i]? = some p ∧ x = kV p.1, fun i H => kvs.length ≤ i ∧ H d = some (.frz o (.dK kvs))⟩
def iDict (tl : TE) : TI := fun σ H R => tl σ H fun x H1 => ∃ (d : Addr) (o : Obj) (kvs : List (Key × V)), x = .ref d ∧ H1 d = some (.frz o (.dK kvs)) ∧ R (Itd d kvs o) H1
/-! ### xs.count(n), whole numbers -/
def rCount (K : PySem.W.Frag) : V → List V → Hp → VK → Prop := fun x vs H Q => ∃ (p : Addr) (ns : List Int) (n : Int), x = .ref p ∧ vs = [.int n] ∧ SqL K H p (ns.map V.int) ∧ Q (.int (ns.count n : Nat)) H
/-! ### dict(d) -/
end
end L2

namespace L2
open PySem PySem.Spec PyProof.Rows
/-! ### // by a divisor of any usual size -/
def CDivB (i j : Int) : Prop := 0 < j ∧ j < 1000000000000000000000000000000000000000000000000000000000000
/-! ### texts in order -/
def leS (a b : Str) : Bool := !decide (b.cps.toList < a.cps.toList)
def srtS (zs : List Str) : List Str := zs.mergeSort leS
section
variable {X : Cx}
/-- sorted(d), the keys texts -/
def rSortD : List V → Hp → VK → Prop := fun xs H Q => ∃ (d : Addr) (kvs : List (Key × V)) (zs : List Str), xs = [.ref d] ∧ H d = some (.dK kvs) ∧ kvs.map (·.1) = zs.map Sum.inr ∧ zs.length < 64 ∧ ∀ p, H p = none → Q (.ref p) (upd H p (.lst ((srtS zs).map V.str)))
end
/-! ### sorted(xs) of a list -/
def srtI (ns : List Int) : List Int := ns.mergeSort fun a b => decide (a ≤ b)
theorem srtI_perm (ns : List Int) : (srtI ns).Perm ns := List.mergeSort_perm _ _
theorem srtI_pw (ns : List Int) : (srtI ns).Pairwise (· ≤ ·) := by
  have h := List.pairwise_mergeSort (le := fun a b : Int => decide (a ≤ b)) (by intro a b c h1 h2; simp at *; omega) (by intro a b; simp; omega) ns
  exact h.imp fun h => by simpa using h
theorem riseI_eq : ∀ {l m : List Int}, l.Perm m → l.Pairwise (· ≤ ·) → m.Pairwise (· ≤ ·) → l = m
  | [], m, p, _, _ => List.Perm.nil_eq p
  | a :: l, [], p, _, _ => absurd p.length_eq (by simp)
  | a :: l, b :: m, p, h1, h2 => by
    have e : a = b := by
      rcases List.mem_cons.mp (p.mem_iff.mp List.mem_cons_self) with q | q
      · exact q
      · rcases List.mem_cons.mp (p.mem_iff.mpr List.mem_cons_self) with r | r
        · exact r.symm
        · have := (List.pairwise_cons.mp h1).1 b r
          have := (List.pairwise_cons.mp h2).1 a q
          omega
    subst e
    rw [riseI_eq ((List.perm_cons a).mp p) (List.pairwise_cons.mp h1).2 (List.pairwise_cons.mp h2).2]
theorem srtI_of {l ns : List Int} (p : l.Perm ns) (h : l.Pairwise (· ≤ ·)) : l = srtI ns := riseI_eq (p.trans (srtI_perm ns).symm) h (srtI_pw ns)
section
variable {X : Cx}
def rSortI (K : PySem.W.Frag) : List V → Hp → VK → Prop := fun xs H Q => ∃ (p : Addr) (ns : List Int), xs = [.ref p] ∧ SqL K H p (ns.map V.int) ∧ ns.length < 64 ∧ ∀ q, H q = none → Q (.ref q) (upd H q (.lst ((srtI ns).map V.int)))
def rSortS (K : PySem.W.Frag) : List V → Hp → VK → Prop := fun xs H Q => ∃ (p : Addr) (zs : List Str), xs = [.ref p] ∧ SqL K H p (zs.map V.str) ∧ zs.length < 64 ∧ ∀ q, H q = none → Q (.ref q) (upd H q (.lst ((srtS zs).map V.str)))
end
end L2

namespace L2
open PySem PySem.Spec PyProof.Rows
/-! ### dict(xs), xs a list of pairs -/
theorem no_keys_list : typeLookup (.type "list") "keys" = pure none := am_miss_of_fast (by decide +kernel)
theorem no_keys_tuple : typeLookup (.type "tuple") "keys" = pure none := am_miss_of_fast (by decide +kernel)
theorem entry_dloop : entryFor table "dict.update.loop" = some Builtin.«dict.update.loop» := entryFor_of_tree (by kernel_rfl)
theorem plain_dloop : plainId "dict.update.loop" = true := by decide +kernel
section
variable {prog : Program} {w : World} {A : Around} {E : Value → Shared → Prop} {s : Shared}
theorem keysT {a : Addr} {xs : Array Value} {k : Nat} {sl : Array (Option Value)} {Q : Option Value → Shared → Prop} (hx : s.heap.get? a = some { cls := .type "tuple", dict := none, data := .seq xs k, slots := sl }) (hA : A.handled = none)
    (h : ∀ g tk, (∀ b o, s.heap.get? b = some o → g.get? b = some o) → Q none { s with heap := g, toks := tk }) : wpAny (model prog w) A (getAttr? (.ref a) "keys") Q E s := by
  obtain ⟨hp, g, d, tk, os⟩ := s
  have hT : ∀ tk', (⟨hp, g, d, tk', os⟩ : Shared).TypeIs (.ref a) "tuple" := fun _ => ⟨_, hx, rfl⟩
  have f1 := sub_AttributeError
  have f3 := F.slot_tuple_getattribute.lookup
  have f4 := F.slot_tuple_getattribute.bind (.ref a)
  have f5 := am_tuple_getattr_none
  unfold getAttr? getAttrBy? getAttrBy
  repeat (any_goals (first | assumption | exact hT _ | ((with_reducible show wpAny _ _ (call (Value.builtin "tuple.__getattribute__") _ _) _ _ _); refine call_meets F.slot_tuple_getattribute (hT _) am_entry_tuple_getattribute (F.args_tuple_getattribute_2 _ _) (meets_getattribute_miss_tuple a xs k sl "keys" _ no_keys_tuple (by decide +kernel) (by decide +kernel)) ⟨hx, by simpa using hA, fun h' tk' e hx' => ?_⟩) | wp_step))
  obtain ⟨t', u', he⟩ := hx'.there
  show wpAny _ _ (getattributeRaised _ _ _ _ _ _ _) _ _ _
  unfold getattributeRaised
  repeat (any_goals (first | assumption | wp_step))
  exact h _ _ hx'.keeps
theorem keysL {a : Addr} {xs : Array Value} {k : Nat} {sl : Array (Option Value)} {Q : Option Value → Shared → Prop} (hx : s.heap.get? a = some { cls := .type "list", dict := none, data := .seq xs k, slots := sl }) (hA : A.handled = none)
    (h : ∀ g tk, (∀ b o, s.heap.get? b = some o → g.get? b = some o) → Q none { s with heap := g, toks := tk }) : wpAny (model prog w) A (getAttr? (.ref a) "keys") Q E s := by
  obtain ⟨hp, g, d, tk, os⟩ := s
  have hT : ∀ tk', (⟨hp, g, d, tk', os⟩ : Shared).TypeIs (.ref a) "list" := fun _ => ⟨_, hx, rfl⟩
  have f1 := sub_AttributeError
  have f3 := F.slot_list_getattribute.lookup
  have f4 := F.slot_list_getattribute.bind (.ref a)
  have f5 := am_list_getattr_none
  unfold getAttr? getAttrBy? getAttrBy
  repeat (any_goals (first | assumption | exact hT _ | ((with_reducible show wpAny _ _ (call (Value.builtin "list.__getattribute__") _ _) _ _ _); refine call_meets F.slot_list_getattribute (hT _) am_entry_list_getattribute (F.args_list_getattribute_2 _ _) (meets_getattribute_miss_list a xs k sl "keys" _ no_keys_list (by decide +kernel) (by decide +kernel)) ⟨hx, by simpa using hA, fun h' tk' e hx' => ?_⟩) | wp_step))
  obtain ⟨t', u', he⟩ := hx'.there
  show wpAny _ _ (getattributeRaised _ _ _ _ _ _ _) _ _ _
  unfold getattributeRaised
  repeat (any_goals (first | assumption | wp_step))
  exact h _ _ hx'.keeps
/-- a pair at hand -/
def PairT {κ : Type} [DecidableEq κ] (knd : PySem.KeyKind prog w κ) (h : Heap) (p : κ × Value) (v : Value) (no : List Addr) : Prop :=
  ∃ a o key n, v = .ref a ∧ a ∉ no ∧ h.get? a = some o ∧ o.cls = .type "tuple" ∧ o.data = .seq #[key, p.2] n ∧ knd.is p.1 key = true
end
section
variable {X : Cx} {pins : List (Addr × Obj)} {σ : St} {H : Hp} {s : Shared}
def rDictL (K : PySem.W.Frag) : List V → Hp → VK → Prop := fun xs H Q => ∃ (l : Addr) (ys : List V) (kvs : List (Key × V)), xs = [.ref l] ∧ SqL K H l ys ∧ PairsAt H ys kvs ∧ kvs.length ≤ 1000 ∧ ∀ p, H p = none → Q (.ref p) (upd H p (.dK (mergeK [] kvs)))
end
end L2

namespace L2
open PySem PySem.Spec PyProof.Rows
/-! ### dicts from texts to numbers -/
abbrev Ps := List (Str × Int)
def kvOf (ps : Ps) : List (Key × V) := ps.map fun p => (Sum.inr p.1, V.int p.2)
def nsOf (ps : Ps) : List Int := ps.map (·.2)
structure PsOk (ps : Ps) : Prop where
  nd : (ps.map (·.1)).Nodup
  ok : ∀ p ∈ ps, PyData.strOk p.1 = true
  len : ps.length ≤ 50
def pD (p : Str × Int) : PyData := .tuple [.str p.1, .int p.2]
theorem pairs_dvs {H : Hp} : ∀ {ps : Ps} {ys : List V}, PairsAt H ys (kvOf ps) → DVs H ys (ps.map pD)
  | [], _, h => by cases h; exact .nil
  | p :: ps, _, h => by
    cases h with
    | cons e r => exact .cons (.tup e (.cons (.str _) (.cons (.int _) .nil))) (pairs_dvs r)
/-! ### tallies -/
structure Ty where
  room : Int
  cs : Ps
  lt : Int
  total : Int
def Ty.D (t : Ty) : PyData := .tuple [.int t.room, .tuple (t.cs.map pD), .int t.lt, .int t.total]
def Ty.sum (t : Ty) : Int := (nsOf t.cs).sum
structure Ty.Ok (t : Ty) : Prop where
  room1 : 1 ≤ t.room
  room2 : t.room ≤ 20
  nd : (t.cs.map (·.1)).Nodup
  rise : (t.cs.map (·.1)).Pairwise (fun a b => leS a b = true)
  word : ∀ p ∈ t.cs, p.1 ∈ words
  pos : ∀ p ∈ t.cs, 1 ≤ p.2
  len : (t.cs.length : Int) ≤ t.room
  lt0 : 0 ≤ t.lt
  lo : (t.room + 1) * t.lt ≤ t.total - t.sum
  hi : t.total - t.sum ≤ 2 * t.room * t.lt
theorem DVs.pairs_inv {H : Hp} : ∀ {ps : Ps} {ys : List V}, DVs H ys (ps.map pD) → PairsAt H ys (kvOf ps)
  | [], _, h => by rw [h.nil_inv]; exact .nil
  | p :: ps, _, h => by
    obtain ⟨x, r, rfl, h1, h2⟩ := DVs.cons_inv h
    obtain ⟨a, xs, rfl, e, q⟩ := DV.tup_inv h1
    obtain ⟨_, _, rfl, k1, q⟩ := q.cons_inv
    obtain ⟨_, _, rfl, k2, q⟩ := q.cons_inv
    have := q.nil_inv
    subst this
    cases k1
    cases k2
    exact .cons e (DVs.pairs_inv h2)
theorem DV.ty_inv {H : Hp} {v : V} {t : Ty} (h : DV H v t.D) : ∃ a b rows, v = .ref a ∧ H a = some (.tup [.int t.room, .ref b, .int t.lt, .int t.total]) ∧ H b = some (.tup rows) ∧ PairsAt H rows (kvOf t.cs) := by
  obtain ⟨a, xs, rfl, e, q⟩ := DV.tup_inv h
  obtain ⟨_, _, rfl, k1, q⟩ := q.cons_inv
  obtain ⟨_, _, rfl, k2, q⟩ := q.cons_inv
  obtain ⟨_, _, rfl, k3, q⟩ := q.cons_inv
  obtain ⟨_, _, rfl, k4, q⟩ := q.cons_inv
  have := q.nil_inv
  subst this
  cases k1
  cases k3
  cases k4
  obtain ⟨b, rows, rfl, e2, q2⟩ := DV.tup_inv k2
  exact ⟨a, b, rows, rfl, e, e2, DVs.pairs_inv q2⟩
theorem Ty.dv {H : Hp} {a b : Addr} {rows : List V} {t : Ty} (e : H a = some (.tup [.int t.room, .ref b, .int t.lt, .int t.total])) (e2 : H b = some (.tup rows)) (p : PairsAt H rows (kvOf t.cs)) : DV H (.ref a) t.D :=
  .tup e (.cons (.int _) (.cons (.tup e2 (pairs_dvs p)) (.cons (.int _) (.cons (.int _) .nil))))
/-- the pairs of a dict, by rising keys -/
def look (ps : Ps) (z : Str) : Int := match ps with
  | [] => 0
  | p :: r => if p.1 = z then p.2 else look r z
def srtP (ps : Ps) : Ps := (srtS (ps.map (·.1))).map fun z => (z, look ps z)
theorem perm_sum {l m : List Int} (p : l.Perm m) : l.sum = m.sum := by
  induction p with
  | nil => rfl
  | cons x _ ih => rw [List.sum_cons, List.sum_cons, ih]
  | swap x y l => simp only [List.sum_cons]; omega
  | trans _ _ a b => exact a.trans b
end L2

namespace L2
open PySem PySem.Spec PyProof.Rows
/-! ### cutting a text -/
theorem strOk_of {z : Str} (h : ∀ c ∈ z.cps.toList, c < 0x110000) : PyData.strOk z = true :=
  Array.all_eq_true_iff_forall_mem.mpr fun c hc => decide_eq_true (h c (Array.mem_def.mp hc))
/-! ### a pen is no tuple -/
theorem PenAt.tup {H : Hp} {a p : Addr} {xs : List V} (h : PenAt H a) (e : H p = some (.tup xs)) : hide a H p = some (.tup xs) := by
  have ne : p ≠ a := fun q => by
    subst q
    obtain ⟨_, _, _, e'⟩ := h
    rw [e] at e'
    cases e'
  rw [hide_ne ne]
  exact e
theorem PenAt.pairs {H : Hp} {a : Addr} (h : PenAt H a) : ∀ {xs : List V} {kvs : List (Key × V)}, PairsAt H xs kvs → PairsAt (hide a H) xs kvs
  | _, _, .nil => .nil
  | _, _, .cons e r => .cons (h.tup e) (PenAt.pairs h r)
theorem PenAt.ty {H : Hp} {a : Addr} {v : V} {t : Ty} (h : PenAt H a) (d : DV H v t.D) : DV (hide a H) v t.D := by
  obtain ⟨p, b, rows, rfl, e1, e2, pa⟩ := DV.ty_inv d
  exact Ty.dv (h.tup e1) (h.tup e2) (h.pairs pa)
/-! ### pairs one by one -/
theorem PairsAt.get {H : Hp} : ∀ {xs : List V} {kvs : List (Key × V)}, PairsAt H xs kvs → ∀ {i : Nat} {x : V}, xs[i]? = some x → ∃ (a : Addr) (k : Key) (v : V), x = .ref a ∧ kvs[i]? = some (k, v) ∧ H a = some (.tup [kV k, v])
  | _, _, .nil, i, x, e => by simp at e
  | _, _, .cons (a := a) (k := k) (v := v) h r, 0, x, e => ⟨a, k, v, by simpa using e.symm, rfl, h⟩
  | _, _, .cons h r, i + 1, x, e => by
    obtain ⟨a, k, v, e1, e2, e3⟩ := PairsAt.get r (show _ by simpa using e)
    exact ⟨a, k, v, e1, by simpa using e2, e3⟩
def rSlS : V → Option Int → Option Int → Hp → VK → Prop := fun x lo hi H Q => ∃ z, x = .str z ∧ z.length ≤ sizeLine ∧ Q (.str (Txt.slice z lo hi)) H
section
variable {X : Cx}
/-! ### dict(tuple of pairs) -/
def rDictT : List V → Hp → VK → Prop := fun xs H Q => ∃ (l : Addr) (ys : List V) (kvs : List (Key × V)), xs = [.ref l] ∧ H l = some (.tup ys) ∧ PairsAt H ys kvs ∧ kvs.length ≤ 1000 ∧ ∀ p, H p = none → Q (.ref p) (upd H p (.dK (mergeK [] kvs)))
end
end L2

namespace L2
open PySem PySem.Spec PyProof.Rows
/-! ### sorted lists, falling -/
def srt (ns : List Int) : List Int := ns.mergeSort fun a b => decide (b ≤ a)
/-- the cut, as a number -/
def cutM (room : Int) (ns : List Int) : Int := if (ns.length : Int) ≤ room then 0 else (srt ns).getD room.toNat 0
/-! ### two tallies as one -/
def keysM (ps qs : Ps) : List Str := ps.map (·.1) ++ (qs.map (·.1)).filter fun z => decide (z ∉ ps.map (·.1))
def sumM (ps qs : Ps) (z : Str) : Int := look ps z + look qs z
def cutT (room : Int) (ps qs : Ps) : Int := cutM room ((keysM ps qs).map (sumM ps qs))
def csM (room : Int) (ps qs : Ps) : Ps := ((srtS (keysM ps qs)).filter fun z => decide (cutT room ps qs < sumM ps qs z)).map fun z => (z, sumM ps qs z - cutT room ps qs)
def mergeT (a b : Ty) : Ty := ⟨a.room, csM a.room a.cs b.cs, a.lt + b.lt + cutT a.room a.cs b.cs, a.total + b.total⟩
/-! ### sums cut -/
end L2

namespace L2
open PySem PySem.Spec PyProof.Rows
/-! ### a comprehension's own name that is a local one's, too -/
def Cx.ren (X : Cx) (N' : List Str) : Cx := { X with N := N' }
theorem Cx.Ok.ren {X : Cx} {N' : List Str} (o : X.Ok) : (X.ren N').Ok := ⟨o.mod, o.kind, o.glob, o.blt, o.above, o.inj, o.has, o.cab, o.hd, o.frames, o.stk, o.exf, o.bs, o.bsz, o.noex, o.exfs, o.funs, o.frf⟩
theorem Cx.Ok.unren {X : Cx} {N' : List Str} (o : (X.ren N').Ok) : X.Ok := ⟨o.mod, o.kind, o.glob, o.blt, o.above, o.inj, o.has, o.cab, o.hd, o.frames, o.stk, o.exf, o.bs, o.bsz, o.noex, o.exfs, o.funs, o.frf⟩
/-- where the names differ nothing is known -/
def Hid : List Str → List Str → St → Prop
  | [], [], [] => True
  | a :: N, b :: N', o :: σ => (a = b ∨ o = none) ∧ Hid N N' σ
  | _, _, _ => False
theorem Hid.at : ∀ {N N' : List Str} {σ : St}, Hid N N' σ → ∀ i : Nat, N[i]? = N'[i]? ∨ σ[i]? = some none
  | [], [], [], _, i => .inl rfl
  | a :: N, b :: N', o :: σ, h, 0 => by
    rcases h.1 with q | q
    · exact .inl (by rw [q]; rfl)
    · exact .inr (by rw [q]; rfl)
  | a :: N, b :: N', o :: σ, h, i + 1 => by
    simpa using Hid.at (N := N) (N' := N') (σ := σ) h.2 i
section
variable {X : Cx} {N' : List Str} {pins : List (Addr × Obj)} {σ : St} {H : Hp} {s : Shared}
theorem Inv.ren (I : Inv X pins σ H s) (hl : N'.length = X.N.length) (h : Hid X.N N' σ) : Inv (X.ren N') pins σ H s := by
  refine ⟨I.ok.ren, I.os, I.bare, I.base, ?_, I.cell, I.free, I.freeC, I.pin, I.hok, I.len.trans hl.symm⟩
  obtain ⟨m, hn, hm⟩ := I.loc
  refine ⟨m, hn, fun i x v e1 e2 e3 => hm i x v ?_ e2 e3⟩
  rcases h.at i with q | q
  · exact q.trans e1
  · rw [e2] at q; cases q
theorem Inv.unren (I : Inv (X.ren N') pins σ H s) (hl : N'.length = X.N.length) (h : Hid X.N N' σ) : Inv X pins σ H s := by
  refine ⟨I.ok.unren, I.os, I.bare, I.base, ?_, I.cell, I.free, I.freeC, I.pin, I.hok, I.len.trans hl⟩
  obtain ⟨m, hn, hm⟩ := I.loc
  refine ⟨m, hn, fun i x v e1 e2 e3 => hm i x v ?_ e2 e3⟩
  rcases h.at i with q | q
  · exact q.symm.trans e1
  · rw [e2] at q; cases q
def tRen (N N' : List Str) (t : TE) : TE := fun σ H Q => Hid N N' σ ∧ t σ H Q
theorem pe_ren {e : Expr} {t : TE} (N' : List Str) (h : PE (X.ren N') e t) (hl : N'.length = X.N.length := by rfl) : PE X e (tRen X.N N' t) := by
  intro pins s σ H Q I q
  exact thn (h pins s σ H Q (I.ren hl q.1) q.2) fun u s1 ⟨x, H1, I1, r1, q1⟩ => ⟨x, H1, I1.unren hl q.1, r1, q1⟩
theorem Inv.forget (I : Inv X pins σ H s) (i : Nat) : Inv X pins (σ.set i none) H s := by
  refine ⟨I.ok, I.os, I.bare, I.base, ?_, I.cell, I.free, I.freeC, I.pin, I.hok, by rw [List.length_set]; exact I.len⟩
  obtain ⟨m, hn, hm⟩ := I.loc
  refine ⟨m, hn, fun j x v e1 e2 e3 => hm j x v e1 ?_ e3⟩
  by_cases e : i = j
  · subst e
    rw [List.getElem?_set_self'] at e2
    cases q : σ[i]? with
    | none => rw [q] at e2; cases e2
    | some o => rw [q] at e2; cases e2
  · rw [List.getElem?_set_ne e] at e2
    exact e2
def tForget (i : Nat) (t : TS) : TS := fun D σ H => t D (σ.set i none) H
theorem pss_forget {ss : List Stmt} {t : TS} (i : Nat) (h : PSs X ss t) : PSs X ss (tForget i t) := by
  intro pins s σ H D I q
  exact h pins s _ H D (I.forget i) q
end
end L2

namespace L2
open PySem PySem.Spec PyProof.Rows
/-! ### the dict of sums as it is filled -/
def mrgP (ps qs : Ps) : Ps := (keysM ps qs).map fun z => (z, sumM ps qs z)
/-- a block's first part, and what is known behind it -/
theorem seq_post {t u : TS} {D : Ends} {σ : St} {H : Hp} (R : St → Hp → Prop) (main : ∀ nx : St → Hp → Prop, (∀ σ' H', R σ' H' → nx σ' H') → t { D with nx := nx } σ H) (fin : ∀ σ' H', R σ' H' → u D σ' H') : tSeq t u D σ H := main _ fin
end L2

namespace L2
open PySem PySem.Spec PyProof.Rows
/-! ### an exception on its way -/
theorem mem_frs {l : List Env} {env : Env} {b : Addr} (h : env ∈ l) (e : env.frame = some b) : b ∈ frs l := List.mem_filterMap.mpr ⟨env, h, e⟩
/-- the frames that it has still to leave; its address, its newest entry, its class -/
structure Fly (l : List Env) (a T : Addr) (cls : Value) (h : Heap) : Prop where
  fr : ∃ B, h.FunFrames B l
  ne : T ≠ a
  ex : ∃ oe vs oT ts a0, h.get? a = some oe ∧ (oe.cls = cls ∧ vs[0]? = some a0) ∧ oe.data = .fields vs ∧ vs[1]? = some (.ref T) ∧ h.get? T = some oT ∧ oT.data = .fields ts ∧ ts[3]? = some .none
/-- all but the exception, its entry and the frames is kept; of the frames the slots may change -/
structure Kp (l : List Env) (a T : Addr) (h h' : Heap) : Prop where
  keep : ∀ b o, h.get? b = some o → b ≠ a → b ≠ T → b ∉ frs l → h'.get? b = some o
  slot : ∀ b o, h.get? b = some o → b ∈ frs l → ∃ sl, h'.get? b = some { o with slots := sl }
theorem Kp.trans {l : List Env} {a T T1 : Addr} {h h1 h2 : Heap} (x : Kp l a T h h1) (y : Kp l a T1 h1 h2) (f : ∀ b o, h.get? b = some o → b = T1 → b = T) : Kp l a T h h2 where
  keep := fun b o e n1 n2 n3 => y.keep b o (x.keep b o e n1 n2 n3) n1 (fun z => n2 (f b o e z)) n3
  slot := fun b o e n => by
    obtain ⟨sl, e1⟩ := x.slot b o e n
    obtain ⟨sl', e2⟩ := y.slot b _ e1 n
    exact ⟨sl', e2⟩
abbrev fb (l : List Env) (a T : Addr) (h : Heap) : Heap := PySem.W.hideAll h (a :: T :: frs l)
theorem Fly.w {l : List Env} {a T : Addr} {cls : Value} {h : Heap} (F : Fly l a T cls h) : ∃ a0, Heap.FlyingW (fb l a T h) l a cls a0 h := by
  obtain ⟨B, fr⟩ := F.fr
  obtain ⟨oe, vs, oT, ts, a0, e1, e2, e3, e4, e5, e6, e7⟩ := F.ex
  refine ⟨a0, fun b o q => PySem.W.of_hideAll _ q, PySem.W.hideAll_none _ (.head _), PySem.W.funFrames_hide fr fun env he b hb => .tail _ (.tail _ (mem_frs he hb)), oe, vs, T, oT, ts, e1, e2, e3, e4, PySem.W.hideAll_none _ (.tail _ (.head _)), F.ne, e5, e6, e7⟩
section
variable {M : Model} {A : Around} {E : Value → Shared → Prop} {s : Shared} {env : Env} {outer : List Env} {L a T : Addr} {cls : Value} {Q : Unit → Shared → Prop}
end
theorem ObjOk.has {P : Program} {w : World} {H : Hp} {h : Heap} {a : Addr} {o : HO} (x : ObjOk P w H h a o) : ∃ ob, h.get? a = some ob := by
  cases o with
  | lst xs => obtain ⟨_, _, _, _, e⟩ := x; exact ⟨_, e⟩
  | tup xs => obtain ⟨_, _, _, _, e, _⟩ := x; exact ⟨_, e⟩
  | dK kvs => obtain ⟨_, _, _, _, o, _, _, e, _⟩ := x; exact ⟨_, e⟩
  | dT kvs => obtain ⟨_, _, _, _, o, _, _, e, _⟩ := x; exact ⟨_, e⟩
  | set S n => obtain ⟨o, _, _, _, e, _⟩ := x; exact ⟨_, e⟩
  | ins C dx fs => obtain ⟨_, _, _, e, _⟩ := x; exact ⟨_, e⟩
  | own y => obtain ⟨_, e⟩ := x; exact ⟨_, e⟩
  | xd fs => obtain ⟨_, ⟨_, _, _, e, _⟩, _⟩ := x; exact ⟨_, e⟩
  | rng lo hi => obtain ⟨_, _, _, e⟩ := x; exact ⟨_, e⟩
  | frz ob u => obtain ⟨e, _⟩ := x; exact ⟨_, e⟩
  | tbl ps => exact ⟨_, (show h.get? a = some _ from x)⟩
  | met f y => exact ⟨_, (show h.get? a = some _ from x)⟩
  | ext φ => obtain ⟨_, ⟨_, e⟩, _⟩ := x; exact ⟨_, e⟩
theorem HOk.no {P : Program} {w : World} {H : Hp} {h : Heap} {a : Addr} (x : HOk P w H h) (e : h.get? a = none) : H a = none := by
  cases q : H a with
  | none => rfl
  | some o =>
    obtain ⟨ob, z⟩ := (x a o q).has
    rw [e] at z
    cases z
theorem HOk.kp {P : Program} {w : World} {H : Hp} {h h' : Heap} {l : List Env} {a T : Addr} (x : HOk P w H h) (k : Kp l a T h h') (ha : H a = none) (hT : H T = none) (hl : ∀ b ∈ frs l, H b = none) : HOk P w H h' := fun b u e => by
  refine (x b u e).stay (fun c v hc q => ?_) (fun _ q => q) fun _ _ q => q
  have nn : H c ≠ none := by
    rcases hc with z | z
    · rw [z, e]; exact fun q => nomatch q
    · rw [z]; exact fun q => nomatch q
  exact k.keep c v q (fun z => nn (z ▸ ha)) (fun z => nn (z ▸ hT)) fun z => nn (hl c z)
end L2

namespace L2
open PySem PySem.Spec PyProof.Rows
/-- how an exception lies behind a call -/
def CX1 (P : Program) (w : World) : CXT := fun outer H s E e s' => ∃ (a T C : Addr) (H' : Hp), e = .ref a ∧ s'.os = s.os ∧ AllBare s'.gens ∧ Un (frs outer) [] H H' s.heap s'.heap ∧ HOk P w H' s'.heap ∧
  Fly outer a T (.ref C) s'.heap ∧ s.heap.get? a = none ∧ s.heap.get? T = none ∧ H' a = none ∧ H' T = none ∧ E (.ref C) none H'
section
variable {P : Program} {w : World} {K : PySem.W.Frag} {mg : Str → Option Value} {base : Heap} {N : List Str} {qual : Str} {scope : Scope} {f : Addr} {cd : Value} {A : Around} {outer : List Env} {s : Shared} {H : Hp} {E : XK}
abbrev cx1 (P : Program) (w : World) (K : PySem.W.Frag) (mg : Str → Option Value) (base : Heap) (N : List Str) (qual : Str) (scope : Scope) (f : Addr) (cd : Value) (A : Around) (outer : List Env) (s : Shared) (H : Hp) (E : XK) : Cx := cxOf (CX1 P w) P w K mg base N qual scope f cd A outer s H E
/-- raise C(..), C an own class of exceptions -/
def tRaise (C : Addr) (E : XK) (ta : TA) : TS := fun _ σ H => ta σ H fun vs H1 => vs.length ≤ 1000 ∧ E (.ref C) none H1
end
/-! ### a def of the module that may raise, by its name -/
structure HasX (P : Program) (w : World) (K : PySem.W.Frag) (mg : Str → Option Value) (base : Heap) (x : Str) (k : Nat) (ps : List Str) (sp : Sp) : Prop where
  ex : ∃ f fd, FnOk P w K mg base (CX1 P w) k f fd ps sp ∧ Binds K fd ps [] ∧ PySem.W.keepIn K (.ref f) = true ∧ mg x = some (.ref f)
theorem HasX.of {P : Program} {w : World} {K : PySem.W.Frag} {mg : Str → Option Value} {base : Heap} {x : Str} {k : Nat} {ps : List Str} {sp : Sp} {f : Addr} {fd : FuncData} (F : FnOk P w K mg base (CX1 P w) k f fd ps sp) (b : Binds K fd ps []) (kp : PySem.W.keepIn K (.ref f) = true) (m : mg x = some (.ref f)) : HasX P w K mg base x k ps sp := ⟨f, fd, F, b, kp, m⟩
section
variable {P : Program} {w : World} {K : PySem.W.Frag} {mg : Str → Option Value} {base : Heap} {N : List Str} {qual : Str} {scope : Scope} {f : Addr} {cd : Value} {A : Around} {outer : List Env} {s : Shared} {H : Hp} {E : XK}
variable {j k : Nat} {ps : List Str} {sp : Sp} {x : Str} {p pos : Pos} {e : Expr} {es : List Expr} {t : TA}
end
end L2

namespace L2
open PySem PySem.Spec PyProof.Rows
/-! ### isinstance of an exception of an own class -/
structure ExcK (K : PySem.W.Frag) (C : Addr) : Prop where
  ga : PySem.W.findIn K (.ref C) "__getattribute__" = some (some (.builtin "BaseException.__getattribute__"))
  gr : PySem.W.findIn K (.ref C) "__getattr__" = some none
  cl : PySem.W.findIn K (.ref C) "__class__" = some (some (.builtin "object.__class__"))
  sb : PySem.W.subIn K (.ref C) (.type "BaseException") = some true
  so : PySem.W.subIn K (.ref C) (.type "object") = some true
  ob : ∃ oc od cdt sl, K.lookup C = some ⟨oc, od, .cls cdt, sl⟩
section
variable {prog : Program} {w : World} {A : Around} {E : Value → Shared → Prop} {h : Heap} {g : Array GenState} {d : Drawn} {t : Nat} {os : OsState} {a C : Addr} {o : Obj} {K : PySem.W.Frag}
end
end L2

namespace L2
open PySem PySem.Spec PyProof.Rows
/-- an exception of the class at C, that stands at a -/
def xo (C a : Addr) : HO := .ext fun h => ∃ o, h.get? a = some o ∧ o.cls = .ref C
theorem HOk.more {P : Program} {w : World} {H : Hp} {h : Heap} {a : Addr} {o : HO} (x : HOk P w H h) (hn : H a = none) (new : ObjOk P w (upd H a o) h a o) : HOk P w (upd H a o) h := fun b u e => by
  by_cases hb : b = a
  · subst hb; rw [upd_same] at e; cases e; exact new
  · rw [upd_ne hb] at e
    exact (x b u e).stay (fun c v _ q => q) (fun c q => by rw [upd_ne (ne_of_none q hn)]; exact q) fun c xs q => by rw [upd_ne (ne_of_none q hn)]; exact q
theorem Un.more {fs : List Addr} {H H' : Hp} {h h' : Heap} {a : Addr} {o : HO} (u : Un fs [] H H' h h') (na : h.get? a = none) (hn : H' a = none) : Un fs [] H (upd H' a o) h h' where
  keep := u.keep
  slot := u.slot
  free := fun b ob q n hx => by
    rw [upd_ne (fun z => by rw [z, na] at q; cases q)]
    exact u.free b ob q n hx
  there := u.there
  tups := fun b xs q => by rw [upd_ne (ne_of_none (u.tups b xs q) hn)]; exact u.tups b xs q
  frzs := fun b ob xs q => by rw [upd_ne (ne_of_none (u.frzs b ob xs q) hn)]; exact u.frzs b ob xs q
  tbls := fun b ps q => by
    obtain ⟨m, e⟩ := u.tbls b ps q
    exact ⟨m, by rw [upd_ne (ne_of_none e hn)]; exact e⟩
theorem Un.kp {l : List Env} {H H' : Hp} {h h1 h2 : Heap} {a T : Addr} (u : Un (frs l) [] H H' h h1) (k : Kp l a T h1 h2) (na : h.get? a = none) (nT : h.get? T = none) : Un (frs l) [] H H' h h2 := by
  have n1 : ∀ b o, h.get? b = some o → b ≠ a := fun b o e z => by rw [z, na] at e; cases e
  have n2 : ∀ b o, h.get? b = some o → b ≠ T := fun b o e z => by rw [z, nT] at e; cases e
  refine ⟨fun b o e n hb hx => k.keep b o (u.keep b o e n hb hx) (n1 b o e) (n2 b o e) hb, fun b o e n hb hx => ?_, u.free, fun b o e hx => ?_, u.tups, u.frzs, u.tbls⟩
  · obtain ⟨sl, e1⟩ := u.slot b o e n hb hx
    obtain ⟨sl', e2⟩ := k.slot b _ e1 hb
    exact ⟨sl', e2⟩
  · obtain ⟨o', e1⟩ := u.there b o e hx
    by_cases hb : b ∈ frs l
    · obtain ⟨sl', e2⟩ := k.slot b _ e1 hb
      exact ⟨_, e2⟩
    · exact ⟨_, k.keep b o' e1 (n1 b o e) (n2 b o e) hb⟩
/-- within an except suite -/
abbrev Cx.held (X : Cx) (a : Addr) (E : Value → Shared → Prop) : Cx := { X with A := X.A.mark (some (.ref a)), calm := false, xe := E }
theorem Inv.held {X : Cx} {pins : List (Addr × Obj)} {σ : St} {H : Hp} {s : Shared} (I : Inv X pins σ H s) (a : Addr) (E : Value → Shared → Prop) : Inv (X.held a E) pins σ H s :=
  have ok := I.ok
  ⟨⟨ok.mod, ok.kind, ok.glob, ok.blt, ok.above, ok.inj, ok.has, ok.cab, fun z => Bool.noConfusion z, ok.frames, ok.stk, ok.exf, ok.bs, ok.bsz, ok.noex, ok.exfs, ok.funs, ok.frf⟩, I.os, I.bare, I.base, I.loc, I.cell, I.free, I.freeC, I.pin, I.hok, I.len⟩
section
variable {X : Cx} {pins : List (Addr × Obj)} {σ : St} {H : Hp} {s : Shared}
end
/-! ### try: f(..) except S as e: suite -/
def tTry (K : PySem.W.Frag) (S : Addr) (sp : Sp) (i : Nat) (ta : TA) (tb : TS) : TS := fun D σ H => ta σ H fun vs H1 => sp vs H1 (fun _ H2 => D.nx σ H2) (fun cv _ H2 => ∃ C, cv = .ref C ∧ PySem.W.exmOne K (.ref C) (.ref S) = some true ∧
  ∀ a, H2 a = none → tb { nx := fun σ' H3 => (∃ v, σ'[i]? = some (some v)) ∧ D.nx (σ'.set i none) H3, rt := fun _ _ => False } (σ.set i (some (.ref a))) (upd H2 a (xo C a)))
section
variable {X : Cx} {x c n : Str} {p pos cpos epos np hpos : Pos} {e : Expr} {es : List Expr} {ta : TA} {tb : TS} {b₀ : Stmt} {suite : List Stmt} {j k i : Nat} {ps : List Str} {sp : Sp} {S : Addr}
end
/-! ### isinstance(x, C), isinstance(x, (C, ..)), C own classes too -/
def cVal : V → Value
  | .ref D => .ref D
  | .ty T => .type T
  | _ => .none
def isCl : V → Bool
  | .ref _ => true
  | .ty _ => true
  | _ => false
inductive TyX (K : PySem.W.Frag) (H : Hp) : V → Value → Prop
  | non : TyX K H .non (.type "NoneType")
  | exc {a C : Addr} (k : ExcK K C) (e : H a = some (xo C a)) : TyX K H (.ref a) (.ref C)
def rIsX (K : PySem.W.Frag) : List V → Hp → VK → Prop := fun xs H Q => ∃ x c t b, xs = [x, c] ∧ TyX K H x t ∧ ((isCl c = true ∧ PySem.W.kitOne K t (cVal c) = some b) ∨ ∃ tp cs, c = .ref tp ∧ H tp = some (.tup cs) ∧ cs.all isCl = true ∧ PySem.W.kitAny K t (cs.map cVal) = some b) ∧ Q (.bl b) H
end L2

namespace L2
open PySem PySem.Spec PyProof.Rows
/-! ### the tally of nothing -/
def Ty.zero (room : Int) : Ty := ⟨room, [], 0, 0⟩
/-! ### own classes of exceptions -/
end L2

namespace L2
open PySem PySem.Spec PyProof.Rows
/-! ### products of great numbers -/
theorem bits_le {a : Int} (h : a.natAbs < 2 ^ 400) : Builtin.Int.intBits a ≤ 400 := by
  unfold Builtin.Int.intBits
  split
  · exact Nat.zero_le _
  · rename_i hz
    have hn : a.natAbs ≠ 0 := fun z => hz (by simpa using Int.natAbs_eq_zero.mp z)
    exact (Nat.log2_lt hn).mpr h
def big : Int := 1000000000000000000000000000000000000000000000000000000000000000000000000000000
theorem big_lt {a : Int} (h1 : -big < a) (h2 : a < big) : a.natAbs < 2 ^ 400 := by
  have e : big.natAbs < 2 ^ 400 := by decide +kernel
  have : a.natAbs < big.natAbs := by
    have : big.natAbs = big.toNat := rfl
    have hb : (0 : Int) < big := by decide
    omega
  omega
def CMulB (i j : Int) : Prop := (-big < i ∧ i < big) ∧ -big < j ∧ j < big
theorem CMulB.ok {i j : Int} (h : CMulB i j) : IntMulOk i j := by
  have h1 := bits_le (big_lt h.1.1 h.1.2)
  have h2 := bits_le (big_lt h.2.1 h.2.2)
  have e : Builtin.Int.intTooBig ((Builtin.Int.intBits i : Int) + (Builtin.Int.intBits j : Int)) = false := by
    unfold Builtin.Int.intTooBig
    refine decide_eq_false fun q => ?_
    have : (800 : Int) ≤ bitsLine := by decide +kernel
    omega
  unfold IntMulOk
  rw [e, Bool.and_false]
  exact Bool.false_ne_true
/-! ### comprehensions over a tuple -/
/-! ### one def, several promises -/
section
variable {P : Program} {w : World} {K : PySem.W.Frag} {mg : Str → Option Value} {base : Heap} {CX : CXT} {k : Nat} {f : Addr} {fd : FuncData} {ps : List Str} {sp sp' : Sp}
theorem FnOk.or (F : FnOk P w K mg base CX k f fd ps sp) (G : FnOk P w K mg base CX k f fd ps sp') : FnOk P w K mg base CX k f fd ps (fun vs H Q E => sp vs H Q E ∨ sp' vs H Q E) :=
  ⟨fun vs H Q E h => h.elim (F.len _ _ _ _) (G.len _ _ _ _), fun A outer s H args us vs Q E hr e0 hb r h => h.elim (F.run A outer s H args us vs Q E hr e0 hb r) (G.run A outer s H args us vs Q E hr e0 hb r)⟩
end
/-! ### how great a tally's numbers are -/
end L2

namespace L2
open PySem PySem.Spec PyProof.Rows
/-! ### a function that stands in a local name -/
def Cal (base : Heap) (f : Addr) : Prop := ∃ oc od fd sl, base.get? f = some ⟨oc, od, .func fd, sl⟩
def tCallV (P : Program) (w : World) (K : PySem.W.Frag) (mg : Str → Option Value) (base : Heap) (k i : Nat) (t : TA) : TE := fun σ H Q => ∃ (f : Addr) (fd : FuncData) (ps : List Str) (sp : Sp), σ[i]? = some (some (.ref f)) ∧ FnOk P w K mg base CX0 k f fd ps sp ∧ Binds K fd ps [] ∧ Cal base f ∧
  t σ H fun vs H1 => sp vs H1 Q E0
section
variable {X : Cx} {k i : Nat} {x : Str} {p pos : Pos} {e : Expr} {es : List Expr} {t : TA}
end
/-! ### the table of a code object in which a lambda is made -/
def crO (q : Str) (c : Addr) : HO := .ext fun h => h.CodeRec (.ref c) q
structure LamAt (T : Addr) (pos : Pos) (q : Str) (H : Hp) : Prop where
  tab : H T = some (.tbl #[]) ∨ ∃ c, H T = some (.tbl #[rawInt pos.line, rawInt pos.col, .ref c]) ∧ H c = some (crO q c)
theorem LamAt.mono {T : Addr} {pos : Pos} {q : Str} {H H' : Hp} (h : LamAt T pos q H) (g : Same H H') : LamAt T pos q H' := by
  rcases h.tab with e | ⟨c, e, ec⟩
  · exact ⟨.inl (g _ _ e)⟩
  · exact ⟨.inr ⟨c, g _ _ e, g _ _ ec⟩⟩
end L2

namespace L2
open PySem PySem.Spec PyProof.Rows
/-- the context of a lambda's body, at its entry -/
def lamCx (P : Program) (w : World) (K : PySem.W.Frag) (mg : Str → Option Value) (base : Heap) (N : List Str) (qual : Str) (sc : Scope) (f : Addr) (cd : Value) (cl : List (Str × Addr)) (A : Around) (outer : List Env) (s : Shared) (H : Hp) : Cx where
  prog := P
  w := w
  K := K
  mg := mg
  base := base
  A := A.deeper (PySem.W.envX qual sc s.heap.objs.size f cd cl)
  N := N
  s₀ := s
  H₀ := H
  env := PySem.W.envX qual sc s.heap.objs.size f cd cl
  outer := outer
  stack := PySem.W.envX qual sc s.heap.objs.size f cd cl :: outer
  ex := []
  calm := true
  fn := fun _ => false
  pn := []
  xe := fun _ _ => False
/-- what a lambda's scope is: parameters ps, names fr of the function around it -/
structure LamScope (ps fr : List Str) (sc : Scope) : Prop where
  kind : sc.kind = .function
  co : sc.isCoroutine = false
  gen : sc.isGenerator = false
  cell : ∀ x ∈ sc.names, x.2 ≠ .cell
  par : ∀ x ∈ ps, sc.names.lookup x = some .local
  free : ∀ x, sc.names.lookup x = some .free → x ∈ fr
  fre : ∀ x ∈ fr, sc.names.lookup x = some .free
  nd : (ps ++ fr).Nodup
end L2

namespace L2
open PySem PySem.Spec PyProof.Rows
/-- an object, known to the sign -/
def foO (ob : Obj) (a : Addr) : HO := .ext fun h => h.get? a = some ob
/-- a lambda is made: the table of the code around it has its code now -/
def tLam (T : Addr) (pos : Pos) (q : Str) (mk : Value → Addr → Value → Obj) : TE := fun σ H Q => LamAt T pos q H ∧ ∀ (a c : Addr) (pm ctv : Value) (H' : Hp), Same (hide T H) (hide T H') → H a = none → a ≠ c → H' T = some (.tbl #[rawInt pos.line, rawInt pos.col, .ref c]) → H' c = some (crO q c) →
  H' a = some (foO (mk pm c ctv) a) → Q (.ref a) H'
section
variable {X : Cx} {params : Arguments} {body : Expr} {sc : Scope} {pos : Pos} {c T : Addr}
end
end L2

namespace L2
open PySem PySem.Spec PyProof.Rows
/-! ### a wider base -/
def addB (base h : Heap) (as : List Addr) : Heap := PySem.W.hideAll h ((List.range h.objs.size).filter fun b => (base.get? b).isNone && !decide (b ∈ as))
theorem Inv.drop {X : Cx} {pins : List (Addr × Obj)} {σ : St} {H : Hp} {s : Shared} {a : Addr} {φ : Heap → Prop} (I : Inv X pins σ H s) (ea : H a = some (.ext φ)) : Inv X pins σ (hide a H) s := by
  have nn : ∀ b, H b = none → hide a H b = none := fun b n => by
    by_cases z : b = a
    · rw [z]; exact hide_self
    · rw [hide_ne z]; exact n
  have ne : ∀ b u, H b = some u → (∀ ψ, u ≠ .ext ψ) → hide a H b = some u := fun b u e n => by
    rw [hide_ne (fun z => by rw [z, ea] at e; exact n φ (Option.some.inj e).symm)]
    exact e
  refine ⟨I.ok, I.os, I.bare, ⟨I.base.keep, I.base.slot, fun b o e n hx => nn b (I.base.free b o e n hx), I.base.there, fun b xs e => ne b _ (I.base.tups b xs e) (fun _ z => nomatch z), fun b o xs e => ne b _ (I.base.frzs b o xs e) (fun _ z => nomatch z), fun b ps e => ?_⟩, I.loc, I.cell, nn _ I.free, fun x c e => nn c (I.freeC x c e), fun p hp => ?_, fun b u e => ?_, I.len⟩
  · obtain ⟨m, z⟩ := I.base.tbls b ps e
    exact ⟨m, ne b _ z (fun _ z => nomatch z)⟩
  · obtain ⟨z1, z2, z3⟩ := I.pin p hp
    exact ⟨z1, nn _ z2, z3⟩
  · obtain ⟨b1, b2⟩ := hide_some e
    exact (I.hok b u b2).stay (fun _ _ _ q => q) (fun c q => ne c _ q (fun _ z => nomatch z)) fun c xs q => ne c _ q (fun _ z => nomatch z)
/-- a def of the module, over each base -/
structure HasB (P : Program) (w : World) (K : PySem.W.Frag) (mg : Str → Option Value) (x : Str) (k : Nat) (ps : List Str) (sp : Heap → Sp) : Prop where
  ex : ∃ f fd, (∀ base : Heap, K.In base → base.Ns mainGlobals mg → FnOk P w K mg base CX0 k f fd ps (sp base)) ∧ Binds K fd ps [] ∧ PySem.W.keepIn K (.ref f) = true ∧ mg x = some (.ref f)
/-- what a wider base has: a function made here, and the cells of this frame -/
structure Wid (X : Cx) (σ : St) (a : Addr) (ob : Obj) (B : Heap) : Prop where
  kin : X.K.In B
  glb : B.Ns mainGlobals X.mg
  sub : ∀ b o, X.base.get? b = some o → B.get? b = some o
  fn : B.get? a = some ob
  cell : ∀ (i : Nat) x v, X.N[i]? = some x → σ[i]? = some (some v) → X.env.scope.names.lookup x = some .cell → ∃ c u, X.env.cells.lookup x = some c ∧ B.IsCell c (some u) ∧ RelV v u
  cells : ∀ x c, X.env.cells.lookup x = some c → ∃ v, B.IsCell c v
  inj : ∀ x y c, X.env.cells.lookup x = some c → X.env.cells.lookup y = some c → x = y
def tCallL (X : Cx) (sp : Heap → Sp) (t : TA) : TE := fun σ H Q => t σ H fun vs H1 => ∃ a ob, H1 a = some (foO ob a) ∧ ∀ B, Wid X σ a ob B → sp B vs (hide a H1) Q E0
section
variable {X : Cx} {j k : Nat} {ps : List Str} {sp : Heap → Sp} {x : Str} {p pos : Pos} {e : Expr} {es : List Expr} {t : TA}
end
end L2

namespace L2
open PySem PySem.Spec PyProof.Rows
/-- at the law's entry the tables in which lambdas are made are tracked -/
def entH (Ts : List Addr) (s : Hp) : Hp := fun b => if b ∈ Ts then some (.tbl #[]) else s b
end L2

namespace L2
open PySem PySem.Spec PyProof.Rows
/-- list(x) of a list or a tuple, the module's part given -/
def rListK (K : PySem.W.Frag) : List V → Hp → VK → Prop := fun xs H Q => ∃ p ys, xs = [.ref p] ∧ (SqL K H p ys ∨ SqT K H p ys) ∧ ∀ l, H l = none → Q (.ref l) (upd H l (.lst ys))
end L2

namespace L2
open PySem PySem.Spec PyProof.Rows
/-! ### zip of two lists, walked by a pair of names -/
def Itz (K : PySem.W.Frag) (a b : Addr) : It :=
  ⟨fun i H => ∃ xs ys x y, SqL K H a xs ∧ SqL K H b ys ∧ xs[i]? = some x ∧ ys[i]? = some y,
   fun i H u H' => ∃ T x y, u = .ref T ∧ H T = none ∧ H' = upd H T (.tup [x, y]) ∧ ∀ xs ys, SqL K H a xs → SqL K H b ys → xs[i]? = some x ∧ ys[i]? = some y,
   fun i H => ∃ xs ys, SqL K H a xs ∧ SqL K H b ys ∧ (xs.length ≤ i ∨ ys.length ≤ i)⟩
section
variable {X : Cx} {pins : List (Addr × Obj)} {σ : St} {H : Hp} {s : Shared} {h' : Heap}
end
abbrev zipTn (z TI TO i1 i2 l1 l2 : Addr) : Nat → Heap → Prop := fun i h => IsZip h z TI TO .none ∧ IsPair h TI (.ref i1) (.ref i2) ∧ (∃ a b, IsPair h TO a b) ∧ h.IsListIter i1 l1 i ∧ h.IsListIter i2 l2 i
def iZip (K : PySem.W.Frag) (ta : TA) : TI := fun σ H R => ta σ H fun vs H1 => ∃ a b, vs = [.ref a, .ref b] ∧ (∃ xs, SqL K H1 a xs) ∧ (∃ ys, SqL K H1 b ys) ∧ R (Itz K a b) H1
end L2

namespace L2
open PySem PySem.Spec PyProof.Rows
end L2
namespace L2
open PySem PySem.Spec PyProof.Rows
/-- a row under other names -/
def sRen (N N' : List Str) (t : TS) : TS := fun D σ H => Hid N N' σ ∧ t { nx := fun σ' H' => Hid N N' σ' ∧ D.nx σ' H', rt := fun _ _ => False } σ H
theorem ps_ren {X : Cx} {st : Stmt} {t : TS} (N' : List Str) (h : PS (X.ren N') st t) (hl : N'.length = X.N.length := by rfl) : PS X st (sRen X.N N' t) := by
  intro pins s σ H D I q
  refine thn (h pins s σ H _ (I.ren hl q.1) q.2) fun f s1 hf => ?_
  cases f with
  | next =>
    obtain ⟨σ', H', I', q1, q2⟩ := hf
    exact ⟨σ', H', I'.unren hl q1, q2⟩
  | brk =>
    obtain ⟨σ', H', I', q1⟩ := hf
    exact q1.elim
  | cont =>
    obtain ⟨σ', H', I', q1⟩ := hf
    exact q1.elim
  | ret u =>
    obtain ⟨v, σ', H', I', r, q1⟩ := hf
    exact q1.elim
end L2

namespace L2
open PySem PySem.Spec PyProof.Rows
def insSpec (l : Addr) (items : Array Value) (n : Nat) (x : Int) (y : Value) : PySem.Spec := fun _ R s => s.heap.get? l = some { cls := .type "list", dict := none, data := .seq items n, slots := #[] } ∧ R (.ok (.ret Value.none)) { s with heap := s.heap.update l (Obj.mapSeq fun xs => have k := if x < 0 then (x + (xs.size : Int)).toNat else min x.toNat xs.size; (xs.extract 0 k).push y ++ xs.extract k), toks := s.toks }
section
variable {X : Cx}
/-- xs.insert(i, y), i from 0 to how many there are -/
def rInsert : V → List V → Hp → VK → Prop := fun x vs H Q => ∃ (l : Addr) (xs : List V) (i : Nat) (y : V), x = .ref l ∧ vs = [.int i, y] ∧ H l = some (.lst xs) ∧ i ≤ xs.length ∧ xs.length < sizeLine ∧ i < 1000000 ∧ Q .non (upd H l (.lst (xs.take i ++ y :: xs.drop i)))
end
end L2

namespace L2
open PySem PySem.Spec PyProof.Rows

/-! ### a pen that holds the script itself: the script's address, the place, what is left -/
theorem Sq_same {K : PySem.W.Frag} {H H' : Hp} {a : Addr} {xs : List V} (s : Same H H') (h : SqL K H a xs) : SqL K H' a xs := by
  rcases h with h | h
  · rcases h with h | ⟨o, h⟩
    · exact .inl (.inl (s _ _ h))
    · exact .inl (.inr ⟨o, s _ _ h⟩)
  · exact .inr h
structure Pn (K : PySem.W.Frag) (S : Addr) (ns : List Int) (H : Hp) (a : Addr) : Prop where
  at_ : ∃ i r : Int, H a = some (.lst [.ref S, .int i, .int r])
  scr : SqL K H S (ns.map V.int)
  few : ns.length ≤ 63
section
variable {K : PySem.W.Frag} {S : Addr} {ns : List Int} {H H' : Hp} {a p : Addr}
theorem Pn.same (h : Pn K S ns H a) (g : Same H H') : Pn K S ns H' a := by
  obtain ⟨⟨i, r, e⟩, s, f⟩ := h
  exact ⟨⟨i, r, g _ _ e⟩, Sq_same g s, f⟩
theorem Pn.laid {o : HO} (h : Pn K S ns H a) (hp : H p = none) : Pn K S ns (upd H p o) a := h.same (same_laid hp o)
theorem Pn.ne (h : Pn K S ns H a) (hp : H p = none) : p ≠ a := by
  obtain ⟨⟨i, r, e⟩, _⟩ := h
  exact fun q => by rw [q, e] at hp; cases hp
theorem Pn.grw (h : Pn K S ns H a) (g : Same H H') : Grw a H H' := by
  obtain ⟨⟨i, r, e⟩, _⟩ := h
  exact grw_same e g
theorem Pn.upd (h : Pn K S ns H a) (i r : Int) : Pn K S ns (upd H a (.lst [.ref S, .int i, .int r])) a := by
  obtain ⟨⟨i0, r0, e⟩, s, f⟩ := h
  refine ⟨⟨i, r, upd_same⟩, ?_, f⟩
  rcases s with (s | ⟨o, s⟩) | s
  · refine .inl (.inl ?_)
    rw [upd_ne ?_]
    · exact s
    · intro z
      rw [z, e] at s
      cases ns with
      | nil => cases s
      | cons n ns => cases s
  · refine .inl (.inr ⟨o, ?_⟩)
    rw [upd_ne ?_]
    · exact s
    · intro z
      rw [z, e] at s
      cases s
  · exact .inr s
/-- a tuple is no pen -/
theorem Pn.tup {xs : List V} (h : Pn K S ns H a) (e : H p = some (.tup xs)) : hide a H p = some (.tup xs) := by
  obtain ⟨⟨i, r, e0⟩, _⟩ := h
  rw [hide_ne (fun z => by rw [z, e0] at e; cases e)]
  exact e
end
end L2

namespace K22
open PySem L2

def top (i : Nat) : Stmt := PySem.Challenge.pw_sumshare_k22_ladders_settled.main.body.getD i (.Pass ⟨0, 0, 0, 0⟩)
abbrev s_parent_of : Stmt := top 1
theorem sc_parent_of : FnScope ["stretch", "height", "index"] ["stretch"] (defScope s_parent_of) := ⟨rfl, rfl, rfl, by decide +kernel, rfl, by decide +kernel, by decide +kernel⟩
abbrev s_pair_of : Stmt := top 2
theorem sc_pair_of : FnScope ["stretch", "height", "index", "lesser"] ["stretch"] (defScope s_pair_of) := ⟨rfl, rfl, rfl, by decide +kernel, rfl, by decide +kernel, by decide +kernel⟩
abbrev s_bar_of : Stmt := top 4
theorem sc_bar_of : FnScope ["ladder", "room", "deep", "counts", "total"] ["ladder"] (defScope s_bar_of) := ⟨rfl, rfl, rfl, by decide +kernel, rfl, by decide +kernel, by decide +kernel⟩
abbrev s_joint_count : Stmt := top 5
theorem sc_joint_count : FnScope ["counts", "stretch", "one", "other"] ["counts", "stretch"] (defScope s_joint_count) := ⟨rfl, rfl, rfl, by decide +kernel, rfl, by decide +kernel, by decide +kernel⟩
abbrev s_first_folding : Stmt := top 6
theorem sc_first_folding : FnScope ["deep", "bar", "counts", "stretch"] ["deep", "bar", "counts"] (defScope s_first_folding) := ⟨rfl, rfl, rfl, by decide +kernel, rfl, by decide +kernel, by decide +kernel⟩
abbrev s_fold_up : Stmt := top 7
theorem sc_fold_up : FnScope ["counts", "stretch", "many", "parent"] ["counts", "stretch", "many"] (defScope s_fold_up) := ⟨rfl, rfl, rfl, by decide +kernel, rfl, by decide +kernel, by decide +kernel⟩
abbrev s_settling_of : Stmt := top 8
theorem sc_settling_of : FnScope ["ladder", "room", "deep", "pairs", "total", "bar", "counts", "folds", "stretch", "one"] ["ladder"] (defScope s_settling_of) := ⟨rfl, rfl, rfl, by decide +kernel, rfl, by decide +kernel, by decide +kernel⟩
abbrev s_settled : Stmt := top 9
theorem sc_settled : FnScope ["ladder"] ["ladder"] (defScope s_settled) := ⟨rfl, rfl, rfl, by decide +kernel, rfl, by decide +kernel, by decide +kernel⟩
abbrev s_folds_in : Stmt := top 10
theorem sc_folds_in : FnScope ["ladder"] ["ladder"] (defScope s_folds_in) := ⟨rfl, rfl, rfl, by decide +kernel, rfl, by decide +kernel, by decide +kernel⟩
abbrev s_l_pen : Stmt := top 12
theorem sc_l_pen : FnScope ["_law_script"] ["_law_script"] (defScope s_l_pen) := ⟨rfl, rfl, rfl, by decide +kernel, rfl, by decide +kernel, by decide +kernel⟩
abbrev s_l_take : Stmt := top 13
theorem sc_l_take : FnScope ["_law_pen_here", "_law_most", "_law_found", "_law_script", "_law_at", "_law_cell", "_law_mixed"] ["_law_pen_here", "_law_most"] (defScope s_l_take) := ⟨rfl, rfl, rfl, by decide +kernel, rfl, by decide +kernel, by decide +kernel⟩
abbrev s_l_many : Stmt := top 14
theorem sc_l_many : FnScope ["_law_pen_here", "_law_way"] ["_law_pen_here"] (defScope s_l_many) := ⟨rfl, rfl, rfl, by decide +kernel, rfl, by decide +kernel, by decide +kernel⟩
abbrev s_l_sizes : Stmt := top 15
theorem sc_l_sizes : FnScope ["_law_pen_here", "_law_room"] ["_law_pen_here"] (defScope s_l_sizes) := ⟨rfl, rfl, rfl, by decide +kernel, rfl, by decide +kernel, by decide +kernel⟩
abbrev s_l_counts : Stmt := top 16
theorem sc_l_counts : FnScope ["_law_pen_here", "_law_deep", "_law_most", "_law_found", "_law_k", "_law_height", "_law_index", "_law_some", "_law_other"] ["_law_pen_here", "_law_deep", "_law_most"] (defScope s_l_counts) := ⟨rfl, rfl, rfl, by decide +kernel, rfl, by decide +kernel, by decide +kernel⟩
abbrev s_l_fold_once : Stmt := top 17
theorem sc_l_fold_once : FnScope ["_law_now", "_law_deep", "_law_bar", "_law_height", "_law_k", "_law_parent", "_law_pair", "_law_whole_here", "_law_told", "_law_one", "_law_many_here"] ["_law_now", "_law_deep", "_law_bar"] (defScope s_l_fold_once) := ⟨rfl, rfl, rfl, by decide +kernel, rfl, by decide +kernel, by decide +kernel⟩
theorem nd_l_fold_once_86_33 : (["_law_other", "_law_index", "_law_now", "_law_deep", "_law_bar", "_law_height", "_law_k", "_law_parent", "_law_pair", "_law_whole_here", "_law_told", "_law_one", "_law_many_here"] : List Str).Nodup := by decide +kernel
theorem nd_l_fold_once_89_34 : (["_law_one", "_law_now", "_law_deep", "_law_bar", "_law_height", "_law_k", "_law_parent", "_law_pair", "_law_whole_here", "_law_told", "#9", "_law_many_here"] : List Str).Nodup := by decide +kernel
theorem nd_l_fold_once_91_28 : (["_law_one", "_law_now", "_law_deep", "_law_bar", "_law_height", "_law_k", "_law_parent", "_law_pair", "_law_whole_here", "_law_told", "#9", "_law_many_here"] : List Str).Nodup := by decide +kernel
abbrev s_l_settle : Stmt := top 18
theorem sc_l_settle : FnScope ["_law_now", "_law_room", "_law_deep", "_law_bar", "_law_told", "_law_some"] ["_law_now", "_law_room", "_law_deep"] (defScope s_l_settle) := ⟨rfl, rfl, rfl, by decide +kernel, rfl, by decide +kernel, by decide +kernel⟩
abbrev s_l_ladder : Stmt := top 19
theorem sc_l_ladder : FnScope ["_law_now", "_law_room", "_law_deep"] ["_law_now", "_law_room", "_law_deep"] (defScope s_l_ladder) := ⟨rfl, rfl, rfl, by decide +kernel, rfl, by decide +kernel, by decide +kernel⟩
abbrev s_l_whole : Stmt := top 20
theorem sc_l_whole : FnScope ["_law_thing"] ["_law_thing"] (defScope s_l_whole) := ⟨rfl, rfl, rfl, by decide +kernel, rfl, by decide +kernel, by decide +kernel⟩
abbrev s_l_is_typed : Stmt := top 21
theorem sc_l_is_typed : FnScope ["_law_found", "_law_wholes", "_law_one"] ["_law_found"] (defScope s_l_is_typed) := ⟨rfl, rfl, rfl, by decide +kernel, rfl, by decide +kernel, by decide +kernel⟩
theorem nd_l_is_typed_117_15 : (["_law_one", "_law_found", "_law_wholes", "#2"] : List Str).Nodup := by decide +kernel
abbrev s_l_right : Stmt := top 22
theorem sc_l_right : FnScope ["_law_ladder_here", "_law_now", "_law_told", "_law_room", "_law_deep", "_law_counts_here", "_law_total", "_law_found", "_law_folds", "_law_one"] ["_law_ladder_here", "_law_now", "_law_told"] (defScope s_l_right) := ⟨rfl, rfl, rfl, by decide +kernel, rfl, by decide +kernel, by decide +kernel⟩
abbrev s_l_freed : Stmt := top 23
theorem sc_l_freed : FnScope ["_law_pen_here", "_law_deep", "_law_many_here", "_law_at", "_law_rows"] ["_law_pen_here", "_law_deep"] (defScope s_l_freed) := ⟨rfl, rfl, rfl, by decide +kernel, rfl, by decide +kernel, by decide +kernel⟩
theorem nd_l_freed_137_16 : (["_law_height", "_law_index", "_law_count", "_law_pen_here", "_law_deep", "_law_many_here", "_law_at", "_law_rows"] : List Str).Nodup := by decide +kernel
abbrev s_law : Stmt := top 24
theorem sc_law : FnScope ["_law_script", "_law_pen_here", "_law_held", "_law_turn", "_law_room", "_law_deep", "_law_now", "_law_ladder_here", "_law_told"] ["_law_script"] (defScope s_law) := ⟨rfl, rfl, rfl, by decide +kernel, rfl, by decide +kernel, by decide +kernel⟩
/-- a draw: a number below the size; the pen has turned -/
def spTake (K : PySem.W.Frag) : Sp := fun vs H Q _ => ∃ (a S : Addr) (ns : List Int) (n : Int), vs = [.ref a, .int n] ∧ Pn K S ns H a ∧ 0 < n ∧ n < 1073741824 ∧
  ∀ (d : Int) (H' : Hp), 0 ≤ d → d < n → Pn K S ns H' a → Grw a H H' → Q (.int d) H'
def spPen (K : PySem.W.Frag) : Sp := fun vs H Q _ => ∃ (S : Addr) (ns : List Int), vs = [.ref S] ∧ SqL K H S (ns.map V.int) ∧ ns.length ≤ 63 ∧
  ∀ (p : Addr) (H' : Hp), H p = none → Same H H' → Pn K S ns H' p → Q (.ref p) H'
section
variable {P : Program} {w : World} {K : PySem.W.Frag} {mg : Str → Option Value} {base : Heap} {f : Addr} {fd : FuncData}
theorem ok_pen (F : Fun K "_law_pen" "_law_pen" s_l_pen f fd) : FnOk P w K mg base CX0 1 f fd ["_law_script"] (spPen K) := by
  refine F.ok sc_l_pen (fun vs H Q E h => ?_) (fun cdv A outer s H vs Q E hr h => ?_)
  · obtain ⟨a, ns, rfl, _⟩ := h
    rfl
  obtain ⟨S, ns, rfl, hS, h63, hq⟩ := h
  refine ⟨_, (@pss_one _ _ _ (@ps_ret _ _ _ _ (@pe_lst _ _ _ _ (@pa_cons _ _ _ _ _ (pv 0) (@pa_cons _ _ _ _ _ pe_int (@pa_cons _ _ _ _ _ pe_int pa_nil (by rfl)) (by rfl)) (by rfl))))), ?_⟩
  refine ⟨_, rfl, leN rfl, fun p np => ?_⟩
  exact hq p _ np (same_laid np _) ⟨⟨0, 0, upd_same⟩, Sq_same (same_laid np _) hS, h63⟩
theorem ok_take (z_len : mg "len" = none) (F : Fun K "_law_take" "_law_take" s_l_take f fd) : FnOk P w K mg base CX0 1 f fd ["_law_pen_here", "_law_most"] (spTake K) := by
  refine F.ok sc_l_take (fun vs H Q E h => ?_) (fun cdv A outer s H vs Q E hr h => ?_)
  · obtain ⟨a, S, ns, n, rfl, _⟩ := h
    rfl
  obtain ⟨a, S, ns, n, rfl, hp, h0, h1, hq⟩ := h
  refine ⟨_, (@pss_cons _ _ _ _ _ (@ps_if _ _ _ _ _ _ _ _ (@pt_cmpR _ _ _ _ _ _ _ _ op_gt (@pe_ix _ _ _ _ _ _ _ ix_list (pv 0) pe_int (fun _ _ => rfl)) pe_int (nomark _)) (@pss_cons _ _ _ _ _ (@ps_set _ _ 2 _ _ _ _ sc_l_take.nd rfl (Or.inl rfl) (@pe_op _ _ _ _ _ _ _ _ op_mod (@pe_ix _ _ _ _ _ _ _ ix_list (pv 0) pe_int (fun _ _ => rfl)) (pv 1)) (by rfl) (by first | exact .inl rfl | exact .inr rfl))
  (@pss_cons _ _ _ _ _ (ps_asg (@pe_op _ _ _ _ _ _ _ _ op_fdiv (@pe_ix _ _ _ _ _ _ _ ix_list (pv 0) pe_int (fun _ _ => rfl)) (pv 1)) (pg_sub (pv 0) pe_int set_list))
  (@pss_one _ _ _ (@ps_ret _ _ _ _ (pv 2))))) pss_nil)
  (@pss_cons _ _ _ _ _ (@ps_set _ _ 3 _ _ _ _ sc_l_take.nd rfl (Or.inl rfl) (@pe_ix _ _ _ _ _ _ _ ix_list (pv 0) pe_int (fun _ _ => rfl)) (by rfl) (by first | exact .inl rfl | exact .inr rfl))
  (@pss_cons _ _ _ _ _ (@ps_set _ _ 4 _ _ _ _ sc_l_take.nd rfl (Or.inl rfl) (@pe_ix _ _ _ _ _ _ _ ix_list (pv 0) pe_int (fun _ _ => rfl)) (by rfl) (by first | exact .inl rfl | exact .inr rfl))
  (@pss_cons _ _ _ _ _ (ps_asg (@pe_op _ _ _ _ _ _ _ _ op_add (pv 4) pe_int) (pg_sub (pv 0) pe_int set_list))
  (@pss_cons _ _ _ _ _ (@ps_set _ _ 5 _ _ _ _ sc_l_take.nd rfl (Or.inl rfl) (@pe_op _ _ _ _ _ _ _ _ op_add (@pe_op _ _ _ _ _ _ _ _ op_mul pe_int (pv 4)) pe_int) (by rfl) (by first | exact .inl rfl | exact .inr rfl))
  (@pss_cons _ _ _ _ _ (@ps_if _ _ _ _ _ _ _ _ (@pt_cmpR _ _ _ _ _ _ _ _ op_gt (pe_callB call_len_seq rfl z_len PySem.boot_len (@pa_cons _ _ _ _ _ (pv 3) pa_nil (by rfl))) pe_int (nomark _)) (@pss_one _ _ _ (@ps_set _ _ 5 _ _ _ _ sc_l_take.nd rfl (Or.inl rfl) (@pe_op _ _ _ _ _ _ _ _ op_add (@pe_ix _ _ _ _ _ _ _ ix_list (pv 3) (@pe_op _ _ _ _ _ _ _ _ op_mod (pv 4) (pe_callB call_len_seq rfl z_len PySem.boot_len (@pa_cons _ _ _ _ _ (pv 3) pa_nil (by rfl)))) (fun _ _ => rfl)) (@pe_op _ _ _ _ _ _ _ _ op_mul pe_int (@pe_op _ _ _ _ _ _ _ _ op_fdiv (pv 4) (pe_callB call_len_seq rfl z_len PySem.boot_len (@pa_cons _ _ _ _ _ (pv 3) pa_nil (by rfl)))))) (by rfl) (by first | exact .inl rfl | exact .inr rfl))) pss_nil)
  (@pss_cons _ _ _ _ _ (@ps_if _ _ _ _ _ _ _ _ (PW.pt (@pw_and _ _ _ _ _ _ _ (@pt_cmpR _ _ _ _ _ _ _ _ op_lt (pv 4) (pe_callB call_len_seq rfl z_len PySem.boot_len (@pa_cons _ _ _ _ _ (pv 3) pa_nil (by rfl))) (nomark _)) (@pw_and1 _ _ _ _ (@pt_cmpR _ _ _ _ _ _ _ _ op_ge (pv 5) (@pe_op _ _ _ _ _ _ _ _ op_pow pe_int pe_int) (nomark _))))) (@pss_cons _ _ _ _ _ (ps_asg (@pe_op _ _ _ _ _ _ _ _ op_fdiv (pv 5) (pv 1)) (pg_sub (pv 0) pe_int set_list))
  (@pss_one _ _ _ (@ps_ret _ _ _ _ (@pe_op _ _ _ _ _ _ _ _ op_mod (pv 5) (pv 1))))) pss_nil)
  (@pss_cons _ _ _ _ _ (@ps_set _ _ 6 _ _ _ _ sc_l_take.nd rfl (Or.inl rfl) (@pe_op _ _ _ _ _ _ _ _ op_mod (@pe_op _ _ _ _ _ _ _ _ op_mul (@pe_op _ _ _ _ _ _ _ _ op_add (@pe_op _ _ _ _ _ _ _ _ op_add (@pe_op _ _ _ _ _ _ _ _ op_mod (pv 5) pe_int) (@pe_op _ _ _ _ _ _ _ _ op_mul pe_int (pv 4))) pe_int) pe_int) pe_int) (by rfl) (by first | exact .inl rfl | exact .inr rfl))
  (@pss_cons _ _ _ _ _ (@ps_set _ _ 6 _ _ _ _ sc_l_take.nd rfl (Or.inl rfl) (@pe_op _ _ _ _ _ _ _ _ op_mod (@pe_op _ _ _ _ _ _ _ _ op_add (@pe_op _ _ _ _ _ _ _ _ op_add (@pe_op _ _ _ _ _ _ _ _ op_mul (pv 6) (pv 6)) (@pe_op _ _ _ _ _ _ _ _ op_mul pe_int (pv 6))) (pv 4)) pe_int) (by rfl) (by first | exact .inl rfl | exact .inr rfl))
  (@pss_one _ _ _ (@ps_ret _ _ _ _ (@pe_op _ _ _ _ _ _ _ _ op_mod (@pe_op _ _ _ _ _ _ _ _ op_fdiv (@pe_op _ _ _ _ _ _ _ _ op_mod (@pe_op _ _ _ _ _ _ _ _ op_add (@pe_op _ _ _ _ _ _ _ _ op_add (@pe_op _ _ _ _ _ _ _ _ op_mul (pv 6) (pv 6)) (@pe_op _ _ _ _ _ _ _ _ op_mul pe_int (pv 6))) (@pe_op _ _ _ _ _ _ _ _ op_mul pe_int (pv 4))) pe_int) pe_int) (pv 1))))))))))))), ?_⟩
  obtain ⟨i, r, e⟩ := hp.at_
  have hl : (ns.map V.int).length = ns.length := List.length_map _
  have few := hp.few
  refine ⟨_, rfl, a, _, 2, _, rfl, rfl, SqL.of e, at3_2 _ _ _, _, _, rfl, rfl, _, rfl, ?_⟩
  refine ite2 (fun c => ?_) (fun c => ?_)
  · refine ⟨_, rfl, a, _, 2, _, rfl, rfl, SqL.of e, at3_2 _ _ _, _, rfl, _, _, rfl, rfl, h0, ?_⟩
    refine ⟨_, rfl, a, _, 2, _, rfl, rfl, SqL.of e, at3_2 _ _ _, _, rfl, _, _, rfl, rfl, ⟨h0, h1⟩, _, rfl, a, _, 2, _, rfl, rfl, e, rfl, ?_⟩
    exact ⟨_, rfl, hq _ _ (Int.emod_nonneg _ (by omega)) (Int.emod_lt_of_pos _ h0) (hp.upd _ _) grw_upd⟩
  refine ⟨_, rfl, a, _, 0, _, rfl, rfl, SqL.of e, at3_0 _ _ _, ?_⟩
  refine ⟨_, rfl, a, _, 1, _, rfl, rfl, SqL.of e, at3_1 _ _ _, ?_⟩
  refine ⟨_, rfl, _, _, rfl, rfl, _, rfl, a, _, 1, _, rfl, rfl, e, rfl, ?_⟩
  have hp1 := hp.upd (i + 1) r
  have g1 : Grw a H (upd H a (.lst [.ref S, .int (i + 1), .int r])) := grw_upd
  show _
  have e1 : (upd H a (.lst [.ref S, .int (i + 1), .int r])) a = some (.lst [.ref S, .int (i + 1), .int r]) := upd_same
  have hS := hp1.scr
  refine ⟨_, rfl, _, _, rfl, rfl, mulL rfl rfl, _, _, rfl, rfl, ?_⟩
  refine ⟨_, rfl, S, _, rfl, .inl hS, _, _, rfl, rfl, _, rfl, ?_⟩
  refine ite2 (fun c => ?_) (fun c => ?_)
  focus
    have c := of_decide_eq_true c
    rw [hl] at c
    have hm := Int.emod_nonneg i (show (ns.length : Int) ≠ 0 by omega)
    have hm2 := Int.emod_lt_of_pos i c
    obtain ⟨v, hv, hmem⟩ := atI_in (xs := ns.map V.int) hm (by rw [hl]; exact hm2)
    obtain ⟨n1, _, rfl⟩ := List.mem_map.mp hmem
    refine ⟨_, rfl, _, rfl, _, rfl, S, _, rfl, .inl hS, _, _, rfl, rfl, by rw [hl]; exact c, S, _, _, _, rfl, rfl, hS, by rw [hl]; exact hv, ?_⟩
    refine ⟨_, rfl, _, rfl, S, _, rfl, .inl hS, _, _, rfl, rfl, ⟨by rw [hl]; exact c, by rw [hl]; omega⟩, _, _, rfl, rfl, mulL rfl rfl, _, _, rfl, rfl, ?_⟩
  all_goals
    refine ⟨_, rfl, _, rfl, S, _, rfl, .inl hS, _, _, rfl, rfl, _, rfl, ?_⟩
    refine ite2 (fun c1 => ?_) (fun c1 => ?_)
    focus
      refine ⟨_, rfl, _, _, rfl, rfl, powI rfl rfl rfl, _, _, rfl, rfl, _, rfl, ?_⟩
      refine ite2 (fun c2 => ?_) (fun c2 => ?_)
      focus
        refine ⟨_, rfl, _, rfl, _, _, rfl, rfl, ⟨h0, h1⟩, _, rfl, a, _, 2, _, rfl, rfl, e1, rfl, ?_⟩
        refine ⟨_, rfl, _, rfl, _, _, rfl, rfl, h0, ?_⟩
        exact hq _ _ (Int.emod_nonneg _ (by omega)) (Int.emod_lt_of_pos _ h0) (hp1.upd _ _) (g1.trans grw_upd)
    all_goals
      refine ⟨_, rfl, _, _, rfl, rfl, posI rfl, _, rfl, _, _, rfl, rfl, mulL rfl rfl, _, _, rfl, rfl, _, _, rfl, rfl, _, _, rfl, rfl, mulR rfl rfl, _, _, rfl, rfl, posI rfl, ?_⟩
      refine ⟨_, rfl, _, rfl, _, _, rfl, rfl, mulM _ _ _ rfl rfl, _, rfl, _, _, rfl, rfl, mulL rfl rfl, _, _, rfl, rfl, _, rfl, _, _, rfl, rfl, _, _, rfl, rfl, posI rfl, ?_⟩
      refine ⟨_, rfl, _, rfl, _, _, rfl, rfl, mulM _ _ _ rfl rfl, _, rfl, _, _, rfl, rfl, mulL rfl rfl, _, _, rfl, rfl, _, rfl, _, _, rfl, rfl, mulL rfl rfl, _, _, rfl, rfl, _, _, rfl, rfl, posI rfl, _, _, rfl, rfl, cdivI rfl rfl, _, rfl, _, _, rfl, rfl, h0, ?_⟩
      exact hq _ _ (Int.emod_nonneg _ (by omega)) (Int.emod_lt_of_pos _ h0) hp1 g1
end
end K22

namespace L2
open PySem PySem.Spec PyProof.Rows

/-! ### the table of a set: places that rise -/
abbrev Ris (ps : Array Nat) : Prop := ps.toList.Pairwise (· < ·)
theorem ris_get {ps : Array Nat} (h : Ris ps) {i k : Nat} (hik : i < k) (hk : k < ps.size) : ps[i]'(by omega) < ps[k] := by
  have := List.pairwise_iff_getElem.mp h i k (by rw [Array.length_toList]; omega) (by rw [Array.length_toList]; exact hk) hik
  simpa using this
/-- how many places are below j, as the halving finds it -/
structure Cut (ps : Array Nat) (j b : Nat) : Prop where
  le : b ≤ ps.size
  lo : ∀ i (h : i < ps.size), i < b → ps[i] < j
  hi : ∀ i (h : i < ps.size), b ≤ i → j ≤ ps[i]
theorem cut_go {ps : Array Nat} {j : Nat} (h : Ris ps) : ∀ (fuel lo hi : Nat), hi ≤ ps.size → lo ≤ hi → hi - lo ≤ fuel → (∀ i (q : i < ps.size), i < lo → ps[i] < j) → (∀ i (q : i < ps.size), hi ≤ i → j ≤ ps[i]) → Cut ps j (SetTable.below.go ps j fuel lo hi)
  | 0, lo, hi, h1, h2, h3, h4, h5 => by
    have e : lo = hi := by omega
    subst e
    exact ⟨h1, h4, h5⟩
  | fuel + 1, lo, hi, h1, h2, h3, h4, h5 => by
    show Cut ps j (if lo < hi then if ps.getD ((lo + hi) / 2) j < j then SetTable.below.go ps j fuel ((lo + hi) / 2 + 1) hi else SetTable.below.go ps j fuel lo ((lo + hi) / 2) else lo)
    by_cases c : lo < hi
    · rw [if_pos c]
      have hm : (lo + hi) / 2 < ps.size := by omega
      have eg : ps.getD ((lo + hi) / 2) j = ps[(lo + hi) / 2] := by
        simp [Array.getD, hm]
      rw [eg]
      by_cases d : ps[(lo + hi) / 2] < j
      · rw [if_pos d]
        refine cut_go h fuel _ _ h1 (by omega) (by omega) (fun i q hi2 => ?_) h5
        by_cases e : i = (lo + hi) / 2
        · subst e; exact d
        · exact Nat.lt_trans (ris_get h (i := i) (k := (lo + hi) / 2) (by omega) hm) d
      · rw [if_neg d]
        refine cut_go h fuel _ _ (by omega) (by omega) (by omega) h4 (fun i q hi2 => ?_)
        by_cases e : i = (lo + hi) / 2
        · subst e; omega
        · have := ris_get h (i := (lo + hi) / 2) (k := i) (by omega) q
          omega
    · rw [if_neg c]
      have e : lo = hi := by omega
      subst e
      exact ⟨h1, h4, h5⟩
theorem below_cut {ps : Array Nat} (h : Ris ps) (j : Nat) : Cut ps j (SetTable.below ps j) :=
  cut_go h ps.size 0 ps.size (Nat.le_refl _) (Nat.zero_le _) (by omega) (fun i q z => by omega) (fun i q z => by omega)
theorem cut_mem {ps : Array Nat} {j b : Nat} (h : Ris ps) (c : Cut ps j b) (hm : j ∈ ps.toList) : ps[b]? = some j := by
  obtain ⟨k, hk, e⟩ := List.mem_iff_getElem.mp hm
  rw [Array.length_toList] at hk
  have e : ps[k] = j := by simpa using e
  have kb : b ≤ k := by
    by_cases q : k < b
    · have := c.lo k hk q; omega
    · omega
  have bk : b = k := by
    by_cases q : b = k
    · exact q
    · have h1 := ris_get h (i := b) (k := k) (by omega) hk
      have h2 := c.hi b (by omega) (Nat.le_refl _)
      omega
  subst bk
  rw [Array.getElem?_eq_getElem hk, e]
theorem slot_empty {t : SetTable} (h : Ris t.place) {j : Nat} (e : t.slot j = .empty) : j ∉ t.place.toList := fun hm => by
  have q := cut_mem h (below_cut h j) hm
  have e : (if (t.place[SetTable.below t.place j]? == some j) = true then SetTable.Slot.live (SetTable.below t.place j) else if SetTable.has t.dummies j = true then SetTable.Slot.dummy else SetTable.Slot.empty) = SetTable.Slot.empty := e
  rw [q] at e
  simp at e
theorem slot_nodummy {t : SetTable} (hd : t.dummies = #[]) (j : Nat) : t.slot j ≠ .dummy := by
  unfold SetTable.slot
  have : SetTable.has t.dummies j = false := by
    rw [hd]
    unfold SetTable.has
    rfl
  rw [this]
  intro e
  by_cases c : (t.place[SetTable.below t.place j]? == some j) = true
  · simp [c] at e
  · simp [c] at e
theorem adv_dummy (t : SetTable) (p : SetTable.Probe) (h : p.dummy = none) : (t.advance p).dummy = none := by
  unfold SetTable.advance
  by_cases c : p.more > 0
  · rw [if_pos c]; exact h
  · rw [if_neg c]; exact h
theorem probe_empty {t : SetTable} (hd : t.dummies = #[]) {hashAt : Nat → Int} {h : Int} : ∀ (fuel : Nat) (p : SetTable.Probe), p.dummy = none → ∀ {j d}, SetTable.probe.go t hashAt h fuel p = some (.empty j d) → d = none ∧ t.slot j = .empty
  | 0, p, hp, j, d, e => by cases e
  | fuel + 1, p, hp, j, d, e => by
    have e : (match t.slot p.j with
      | .empty => some (SetTable.Met.empty p.j p.dummy)
      | .dummy => SetTable.probe.go t hashAt h fuel (t.advance { p with dummy := some p.j })
      | .live i => if (hashAt i == h) = true then some (SetTable.Met.candidate p.j i (t.advance p)) else SetTable.probe.go t hashAt h fuel (t.advance p)) = some (.empty j d) := e
    cases q : t.slot p.j with
    | empty =>
      rw [q] at e
      cases e
      exact ⟨hp, q⟩
    | dummy => exact absurd q (slot_nodummy hd _)
    | live i =>
      rw [q] at e
      by_cases c : (hashAt i == h) = true
      · simp [c] at e
      · simp [c] at e
        exact probe_empty hd fuel _ (adv_dummy t p hp) e
theorem free_slot {t : SetTable} (hr : Ris t.place) (hd : t.dummies = #[]) {h : Int} {j : Nat} {d : Bool} (e : t.freeSlot h = some (j, d)) : d = false ∧ j ∉ t.place.toList := by
  unfold SetTable.freeSlot at e
  generalize q : t.probe (fun _ => h + 1) h (t.probeStart h) = r at e
  match r with
  | none => cases e
  | some (.candidate _ _ _) => cases e
  | some (.empty j' d') =>
    obtain ⟨e1, e2⟩ := probe_empty hd _ _ (show (t.probeStart h).dummy = none from rfl) q
    subst e1
    cases e
    exact ⟨rfl, slot_empty hr e2⟩
theorem insertAt_list {α : Type} (xs : Array α) (p : Nat) (x : α) (hp : p ≤ xs.size) : (SetTable.insertAt xs p x).toList = xs.toList.take p ++ x :: xs.toList.drop p := by
  unfold SetTable.insertAt
  simp [Array.toList_append, Array.toList_extract, List.extract_eq_drop_take]
  rw [List.take_of_length_le (by simp)]
theorem ris_insert {ps : Array Nat} (h : Ris ps) {j : Nat} (hn : j ∉ ps.toList) : Ris (SetTable.insertAt ps (SetTable.below ps j) j) := by
  have c := below_cut h j
  show (SetTable.insertAt ps (SetTable.below ps j) j).toList.Pairwise (· < ·)
  rw [insertAt_list _ _ _ c.le, List.pairwise_append]
  refine ⟨h.sublist (List.take_sublist _ _), List.pairwise_cons.mpr ⟨fun y hy => ?_, h.sublist (List.drop_sublist _ _)⟩, fun y hy z hz => ?_⟩
  · obtain ⟨k, hk, rfl⟩ := List.mem_iff_getElem.mp hy
    rw [List.length_drop, Array.length_toList] at hk
    rw [List.getElem_drop]
    have := c.hi (SetTable.below ps j + k) (by omega) (by omega)
    have ne : ps[SetTable.below ps j + k]'(by omega) ≠ j := fun q => hn (by
      rw [← q]
      exact Array.getElem_mem_toList _)
    have e : ps.toList[SetTable.below ps j + k]'(by rw [Array.length_toList]; omega) = ps[SetTable.below ps j + k]'(by omega) := by simp
    rw [e]
    omega
  · obtain ⟨k, hk, rfl⟩ := List.mem_iff_getElem.mp hy
    rw [List.length_take, Array.length_toList] at hk
    rw [List.getElem_take]
    have e : ps.toList[k]'(by rw [Array.length_toList]; omega) = ps[k]'(by omega) := by simp
    rw [e]
    have l1 := c.lo k (by omega) (by omega)
    rcases List.mem_cons.mp hz with rfl | hz
    · exact l1
    · obtain ⟨k2, hk2, rfl⟩ := List.mem_iff_getElem.mp hz
      rw [List.length_drop, Array.length_toList] at hk2
      rw [List.getElem_drop]
      have := c.hi (SetTable.below ps j + k2) (by omega) (by omega)
      have e2 : ps.toList[SetTable.below ps j + k2]'(by rw [Array.length_toList]; omega) = ps[SetTable.below ps j + k2]'(by omega) := by simp
      rw [e2]
      omega
theorem ris_range (n : Nat) : Ris (Array.range n) := by
  show (Array.range n).toList.Pairwise (· < ·)
  rw [Array.toList_range]
  exact List.pairwise_lt_range
theorem pw_filterMap {f : Nat → Option (Nat × Nat)} (hf : ∀ j x, f j = some x → x.1 = j) : ∀ (l : List Nat), l.Pairwise (· < ·) → ((l.filterMap f).map (·.1)).Pairwise (· < ·)
  | [], _ => List.Pairwise.nil
  | a :: l, h => by
    obtain ⟨h1, h2⟩ := List.pairwise_cons.mp h
    have ih := pw_filterMap hf l h2
    rw [List.filterMap_cons]
    cases q : f a with
    | none => exact ih
    | some x =>
      show (x.1 :: (l.filterMap f).map (·.1)).Pairwise (· < ·)
      refine List.pairwise_cons.mpr ⟨fun y hy => ?_, ih⟩
      obtain ⟨z, hz, rfl⟩ := List.mem_map.mp hy
      obtain ⟨k, hk, e⟩ := List.mem_filterMap.mp hz
      rw [hf a x q, hf k z e]
      exact h1 k hk
/-- a table that a walk may trust -/
structure Gd (t : SetTable) (b : Bool) : Prop where
  ris : Ris t.place
  dum : t.dummies = #[]
  led : t.led = b
theorem gd_standIn {t : SetTable} {b : Bool} (h : Gd t b) (n : Nat) : Gd (t.standIn n) b := ⟨ris_range n, rfl, h.led⟩
theorem gd_laid {mask finger moves : Nat} {led plain : Bool} {hashes : Array Int} {t : SetTable} {o : Array Nat} (e : SetTable.laid mask finger moves led plain hashes = some (t, o)) : Gd t led := by
  unfold SetTable.laid at e
  obtain ⟨owner, _, e⟩ := Option.bind_eq_some_iff.mp e
  cases e
  refine ⟨?_, rfl, rfl⟩
  refine pw_filterMap (f := fun j => Option.map (fun x => (j, x)) (owner.getD j none)) (fun j x h => ?_) (List.range (mask + 1)) List.pairwise_lt_range
  obtain ⟨y, _, rfl⟩ := Option.map_eq_some_iff.mp h
  rfl
theorem gd_layNew {t : SetTable} {b : Bool} {es : Array (Int × Value)} {h : Int} {x : Value} (g : Gd t b) : Gd (layNew t es h x).2.1 b ∧ (layNew t es h x).2.1.fits (layNew t es h x).1.size = true := by
  unfold layNew
  generalize q : t.freeSlot h = r
  match r with
  | none =>
    refine ⟨gd_standIn g _, ?_⟩
    show (t.standIn (es.size + 1)).fits (es.push (h, x)).size = true
    rw [Array.size_push]
    exact SetTable.standIn_fits _ _
  | some (slot, d) =>
    obtain ⟨_, hn⟩ := free_slot g.ris g.dum q
    refine ⟨?_, SetTable.orStandIn_fits _ _⟩
    show Gd ((t.put slot).1.orStandIn _) b
    unfold SetTable.orStandIn
    have gp : Gd (t.put slot).1 b := by
      refine ⟨ris_insert g.ris hn, ?_, g.led⟩
      show (if SetTable.has t.dummies slot = true then _ else t.dummies) = #[]
      have : SetTable.has t.dummies slot = false := by
        rw [g.dum]
        rfl
      rw [this]
      exact g.dum
    split
    · exact gp
    · exact gd_standIn gp _
theorem gd_relayAll {t : SetTable} {b : Bool} {es : Array (Int × Value)} {n : Nat} (g : Gd t b) : Gd (relayAll t es n).2.1 b ∧ (relayAll t es n).2.1.fits (relayAll t es n).1.size = true := by
  unfold relayAll
  generalize q : t.relaid (Array.map (fun x => x.fst) es) n = r
  match r with
  | none => exact ⟨gd_standIn g _, SetTable.standIn_fits _ _⟩
  | some (t', o) =>
    have gl := gd_laid q
    rw [g.led] at gl
    have key : ∀ r : Array (Int × Value) × SetTable × Bool, r = (if (coversAll o es.size && t'.fits (Array.filterMap (fun x => es[x]?) o).size) = true then (Array.filterMap (fun x => es[x]?) o, t', false) else (es, t.standIn es.size, true)) → Gd r.2.1 b ∧ r.2.1.fits r.1.size = true := by
      rintro r rfl
      by_cases c : (coversAll o es.size && t'.fits (Array.filterMap (fun x => es[x]?) o).size) = true
      · rw [if_pos c]
        rw [Bool.and_eq_true] at c
        exact ⟨gl, c.2⟩
      · rw [if_neg c]
        exact ⟨gd_standIn g _, SetTable.standIn_fits _ _⟩
    exact key _ rfl
theorem gd_plain {t : SetTable} {b p : Bool} (g : Gd t b) : Gd { t with plain := p } b := ⟨g.ris, g.dum, g.led⟩
end L2

namespace L2
open PySem PySem.Spec PyProof.Rows

instance decMemKey (k : Key) (ks : List Key) : Decidable (k ∈ ks) := @List.instDecidableMemOfLawfulBEq Key instBEqOfDecidableEq inferInstance k ks
/-! ### a set of keys, each once, whose table a walk may trust -/
def KeyE (P : Program) (w : World) (e : Int × Value) (k : Key) : Prop := (mixKind P w).is k e.2 = true ∧ e.1 = (mixKind P w).hash k ∧ e.2.scannable = true
def SetG (P : Program) (w : World) (h : Heap) (a : Addr) (ks : List Key) : Prop :=
  ∃ o es ep t, h.get? a = some o ∧ o.ExactSet ∧ o.data = .set es ep t ∧ (∃ fs, es.toList.Perm fs ∧ Paired (KeyE P w) fs ks) ∧ t.fits es.size = true ∧ Gd t (!w.params.followText "set-order") ∧ ks.Nodup
theorem Paired.mem1 {α β : Type} {F : α → β → Prop} : ∀ {xs : List α} {ys : List β}, Paired F xs ys → ∀ x ∈ xs, ∃ y ∈ ys, F x y
  | _, _, .nil, _, h => nomatch h
  | _, _, .cons f r, x, h => by
    rcases List.mem_cons.mp h with rfl | h
    · exact ⟨_, .head _, f⟩
    · obtain ⟨y, hy, q⟩ := Paired.mem1 r x h
      exact ⟨y, .tail _ hy, q⟩
theorem Paired.mem2 {α β : Type} {F : α → β → Prop} : ∀ {xs : List α} {ys : List β}, Paired F xs ys → ∀ y ∈ ys, ∃ x ∈ xs, F x y
  | _, _, .nil, _, h => nomatch h
  | _, _, .cons f r, y, h => by
    rcases List.mem_cons.mp h with rfl | h
    · exact ⟨_, .head _, f⟩
    · obtain ⟨x, hx, q⟩ := Paired.mem2 r y h
      exact ⟨x, .tail _ hx, q⟩
theorem Paired.snoc {α β : Type} {F : α → β → Prop} {x : α} {y : β} (f : F x y) : ∀ {xs : List α} {ys : List β}, Paired F xs ys → Paired F (xs ++ [x]) (ys ++ [y])
  | _, _, .nil => .cons f .nil
  | _, _, .cons g r => .cons g (Paired.snoc f r)
section
variable {prog : Program} {w : World} {A : Around} {E : Value → Shared → Prop} {s : Shared} {a : Addr} {ks : List Key}
theorem elems_of {es : List (Int × Value)} (h : ∃ fs, es.Perm fs ∧ Paired (KeyE prog w) fs ks) : ElemsOf (mixKind prog w) es := fun e he => by
  obtain ⟨fs, p, m⟩ := h
  obtain ⟨k, _, h1, h2, h3⟩ := Paired.mem1 m e (p.mem_iff.mp he)
  exact ⟨⟨k, h1, h2⟩, h3⟩
theorem elems_len {es : List (Int × Value)} (h : ∃ fs, es.Perm fs ∧ Paired (KeyE prog w) fs ks) : es.length = ks.length := by
  obtain ⟨fs, p, m⟩ := h
  rw [p.length_eq]
  exact Paired.length m
theorem find_in {es : List (Int × Value)} {k : Key} (h : ∃ fs, es.Perm fs ∧ Paired (KeyE prog w) fs ks) (hk : k ∈ ks) : ∃ j, es.findIdx? (fun e => (mixKind prog w).is k e.2) = some j := by
  obtain ⟨fs, p, m⟩ := h
  obtain ⟨e, he, q, _⟩ := Paired.mem2 m k hk
  have : (es.findIdx? (fun e => (mixKind prog w).is k e.2)).isSome = true := by
    rw [List.findIdx?_isSome]
    exact List.any_eq_true.mpr ⟨e, p.mem_iff.mpr he, q⟩
  exact Option.isSome_iff_exists.mp this
theorem find_out {es : List (Int × Value)} {k : Key} (h : ∃ fs, es.Perm fs ∧ Paired (KeyE prog w) fs ks) (hk : k ∉ ks) : es.findIdx? (fun e => (mixKind prog w).is k e.2) = none := by
  obtain ⟨fs, p, m⟩ := h
  rw [List.findIdx?_eq_none_iff]
  intro e he
  obtain ⟨k', hk', q, _⟩ := Paired.mem1 m e (p.mem_iff.mp he)
  refine Bool.eq_false_iff.mpr fun z => hk ?_
  rw [(mixKind prog w).inj _ _ _ z q]
  exact hk'
theorem hash_any {x : Value} {Q : Bool → Shared → Prop} (hs : x.scannable = true) (q : ∀ b, Q b s) : wpAny (model prog w) A (hashByValue 8 x) Q E s := by
  cases x with
  | none => exact (wpAny_pure (q true) : wpAny _ _ (pure true) _ _ _)
  | bool b => exact (wpAny_pure (q true) : wpAny _ _ (pure true) _ _ _)
  | int i t => exact (wpAny_pure (q true) : wpAny _ _ (pure true) _ _ _)
  | str z t => exact (wpAny_pure (q false) : wpAny _ _ (pure false) _ _ _)
  | bytes z t => exact (wpAny_pure (q false) : wpAny _ _ (pure false) _ _ _)
  | _ => cases hs
theorem put_set {o : Obj} {es : Array (Int × Value)} {ep : Nat} {t : SetTable} {es' : Array (Int × Value)} {t' : SetTable} {h : Heap} (ho : h.get? a = some o) (hx : o.ExactSet) (hd : o.data = .set es ep t) :
    ∃ o', (h.update a (Obj.putSet es' t')).get? a = some o' ∧ o'.ExactSet ∧ o'.data = .set es' (ep + 1) t' := by
  obtain ⟨c, d, dt, sl⟩ := o
  simp only at hd
  subst hd
  exact ⟨_, Heap.get?_update_self _ ho rfl, hx, rfl⟩
theorem fits_plain {t : SetTable} {n : Nat} {p : Bool} (h : t.fits n = true) : SetTable.fits { t with plain := p } n = true := h
theorem add_set {k : Key} {x : Value} {Q : Bool → Shared → Prop} (hk : (mixKind prog w).is k x = true) (hs : x.scannable = true) (G : SetG prog w s.heap a ks) (hb : ks.length + 1 < scanBound)
    (fin : ∀ b h', Heap.SameBut a s.heap h' → SetG prog w h' a (if k ∈ ks then ks else ks ++ [k]) → Q b { s with heap := h' }) : wpAny (model prog w) A (setAddHashed a x ((mixKind prog w).hash k)) Q E s := by
  obtain ⟨o, es, ep, t, ho, hex, hd, hf, fit, gd, nd⟩ := G
  have els := elems_of hf
  have len := elems_len hf
  rw [Array.length_toList] at len
  unfold setAddHashed
  refine wpAny_holding ?_
  rw [show (100000 : Nat) = 99999 + 1 from rfl, setAddHashedIn.eq_def]
  refine wpAny_bind (wpAny_setState_of ho hd fit ?_)
  dsimp only
  rw [byScan_of hs (by omega) els, if_pos rfl]
  refine wpAny_bind ?_
  unfold setAddByScan
  refine wpAny_bind (wpAny_rule ?_)
  refine wpAny_bind (wpAny_setScan_of hk ho hd fit els ?_)
  by_cases hin : k ∈ ks
  · obtain ⟨j, ej⟩ := find_in hf hin
    rw [ej]
    refine wpAny_pure (wpAny_pure (fin false s.heap ⟨rfl, fun _ _ => rfl⟩ ?_))
    rw [if_pos hin]
    exact ⟨o, es, ep, t, ho, hex, hd, hf, fit, gd, nd⟩
  · rw [find_out hf hin]
    rw [if_neg hin] at fin
    have lp := layNew_perm t es ((mixKind prog w).hash k) x
    obtain ⟨gl, fl⟩ := gd_layNew (es := es) (h := (mixKind prog w).hash k) (x := x) gd
    dsimp only
    generalize layNew t es ((mixKind prog w).hash k) x = L at lp gl fl ⊢
    obtain ⟨es1, t1, wd, gv⟩ := L
    dsimp only at lp gl fl ⊢
    have nd2 : (ks ++ [k]).Nodup := by
      rw [List.nodup_append]
      exact ⟨nd, List.nodup_cons.mpr ⟨fun h => (nomatch h), List.nodup_nil⟩, fun y hy z hz e => hin (by rw [← List.mem_singleton.mp hz, ← e]; exact hy)⟩
    have hf1 : ∃ fs, es1.toList.Perm fs ∧ Paired (KeyE prog w) fs (ks ++ [k]) := by
      obtain ⟨fs, p, m⟩ := hf
      refine ⟨fs ++ [((mixKind prog w).hash k, x)], lp.trans ?_, Paired.snoc ⟨hk, rfl, hs⟩ m⟩
      rw [Array.toList_push]
      exact p.append_right _
    have sz1 : es1.size ≤ sizeLine := by
      have := elems_len hf1
      rw [Array.length_toList, List.length_append, List.length_singleton] at this
      exact small_le (by unfold scanBound at hb; omega)
    have main : ∀ t2 : SetTable, Gd t2 (!w.params.followText "set-order") → t2.fits es1.size = true → wpAny (model prog w) A (do
        storeSet a es1 t2
        if (!wd && t2.tooFull) = true then
          match relayAll t2 es1 (SetTable.grown es1.size) with
          | (es, t, gave) => do
            (match gave with | true => rule "set.scan.the-table-gave-way" | false => pure ())
            storeSet a es t
            pure (some true)
        else pure (some true)) (fun r s' => wpAny (model prog w) A (match r with | some added => pure added | none => setAddHashedIn a x ((mixKind prog w).hash k) 99999) Q E s') E s := by
      intro t2 g2 f2
      refine wpAny_bind (wpAny_storeSet_of ho hd ?_ sz1)
      obtain ⟨o1, ho1, hx1, hd1⟩ := put_set (es' := es1) (t' := t2) ho hex hd
      by_cases c : (!wd && t2.tooFull) = true
      · rw [if_pos c]
        have rp := relayAll_perm t2 es1 (SetTable.grown es1.size)
        obtain ⟨gr, fr⟩ := gd_relayAll (es := es1) (n := SetTable.grown es1.size) g2
        generalize relayAll t2 es1 (SetTable.grown es1.size) = R at rp gr fr ⊢
        obtain ⟨es2, t3, gv2⟩ := R
        dsimp only at rp gr fr ⊢
        have sz2 : es2.size ≤ sizeLine := by
          have := rp.length_eq
          rw [Array.length_toList, Array.length_toList] at this
          omega
        have store : wpAny (model prog w) A (do
            storeSet a es2 t3
            pure (some true)) (fun r s' => wpAny (model prog w) A (match r with | some added => pure added | none => setAddHashedIn a x ((mixKind prog w).hash k) 99999) Q E s') E { s with heap := s.heap.update a (Obj.putSet es1 t2) } := by
          refine wpAny_bind (wpAny_storeSet_of ho1 hd1 (wpAny_pure (wpAny_pure (fin true _ ((Heap.SameBut.update _ _ _).trans (Heap.SameBut.update _ _ _)) ?_))) sz2)
          obtain ⟨o2, ho2, hx2, hd2⟩ := put_set (es' := es2) (t' := t3) ho1 hx1 hd1
          obtain ⟨fs, p, m⟩ := hf1
          exact ⟨o2, es2, _, t3, ho2, hx2, hd2, ⟨fs, rp.trans p, m⟩, fr, gr, nd2⟩
        cases gv2 with
        | true => exact wpAny_bind (wpAny_rule store)
        | false => exact wpAny_bind (wpAny_pure store)
      · rw [if_neg c]
        refine wpAny_pure (wpAny_pure (fin true _ (Heap.SameBut.update _ _ _) ?_))
        exact ⟨o1, es1, _, t2, ho1, hx1, hd1, hf1, f2, g2, nd2⟩
    have both : ∀ b : Bool, wpAny (model prog w) A (do
        storeSet a es1 (if b = true then t1 else { t1 with plain := false })
        if (!wd && (if b = true then t1 else { t1 with plain := false }).tooFull) = true then
          match relayAll (if b = true then t1 else { t1 with plain := false }) es1 (SetTable.grown es1.size) with
          | (es, t, gave) => do
            (match gave with | true => rule "set.scan.the-table-gave-way" | false => pure ())
            storeSet a es t
            pure (some true)
        else pure (some true)) (fun r s' => wpAny (model prog w) A (match r with | some added => pure added | none => setAddHashedIn a x ((mixKind prog w).hash k) 99999) Q E s') E s := fun b => by
      cases b with
      | true => exact main t1 gl fl
      | false => exact main { t1 with plain := false } (gd_plain gl) (fits_plain fl)
    have tail : wpAny (model prog w) A (if t1.plain = true then hashByValue 8 x >>= fun b => (do
        storeSet a es1 (if b = true then t1 else { t1 with plain := false })
        if (!wd && (if b = true then t1 else { t1 with plain := false }).tooFull) = true then
          match relayAll (if b = true then t1 else { t1 with plain := false }) es1 (SetTable.grown es1.size) with
          | (es, t, gave) => do
            (match gave with | true => rule "set.scan.the-table-gave-way" | false => pure ())
            storeSet a es t
            pure (some true)
        else pure (some true)) else pure true >>= fun b => (do
        storeSet a es1 (if b = true then t1 else { t1 with plain := false })
        if (!wd && (if b = true then t1 else { t1 with plain := false }).tooFull) = true then
          match relayAll (if b = true then t1 else { t1 with plain := false }) es1 (SetTable.grown es1.size) with
          | (es, t, gave) => do
            (match gave with | true => rule "set.scan.the-table-gave-way" | false => pure ())
            storeSet a es t
            pure (some true)
        else pure (some true))) (fun r s' => wpAny (model prog w) A (match r with | some added => pure added | none => setAddHashedIn a x ((mixKind prog w).hash k) 99999) Q E s') E s := by
      by_cases c : t1.plain = true
      · rw [if_pos c]
        exact wpAny_bind (hash_any hs both)
      · rw [if_neg c]
        exact wpAny_bind (wpAny_pure (both true))
    cases gv with
    | true => exact wpAny_bind (wpAny_rule tail)
    | false => exact wpAny_bind (wpAny_pure tail)
end
end L2

namespace L2
open PySem PySem.Spec PyProof.Rows
theorem chk_new (a : Value) : checkBuiltinCall "set.__new__" ⟨[.type "set", a], []⟩ = pure () := by kernel_rfl
theorem cls_new (a : Value) : Builtin.Frozenset.newClass "set" ⟨[.type "set", a], []⟩ = pure (.type "set", [a]) := by kernel_rfl
def ddK : List Key → List Key → List Key
  | acc, [] => acc
  | acc, k :: r => ddK (if k ∈ acc then acc else acc ++ [k]) r
theorem ddK_snoc (k : Key) : ∀ (l acc : List Key), ddK acc (l ++ [k]) = if k ∈ ddK acc l then ddK acc l else ddK acc l ++ [k]
  | [], acc => rfl
  | x :: l, acc => ddK_snoc k l _
theorem ddK_len : ∀ (l acc : List Key), (ddK acc l).length ≤ acc.length + l.length
  | [], acc => Nat.le_refl _
  | x :: l, acc => by
    have := ddK_len l (if x ∈ acc then acc else acc ++ [x])
    show (ddK (if x ∈ acc then acc else acc ++ [x]) l).length ≤ _
    rw [List.length_cons]
    by_cases h : x ∈ acc
    · rw [if_pos h] at this ⊢; omega
    · rw [if_neg h] at this ⊢
      rw [List.length_append, List.length_singleton] at this
      omega
theorem ddK_mem : ∀ (l acc : List Key) (k : Key), k ∈ ddK acc l ↔ k ∈ acc ∨ k ∈ l
  | [], acc, k => ⟨.inl, fun h => h.elim id (fun h => nomatch h)⟩
  | x :: l, acc, k => by
    show k ∈ ddK (if x ∈ acc then acc else acc ++ [x]) l ↔ _
    rw [ddK_mem l _ k]
    by_cases h : x ∈ acc
    · rw [if_pos h, List.mem_cons]
      constructor
      · rintro (q | q)
        · exact .inl q
        · exact .inr (.inr q)
      · rintro (q | rfl | q)
        · exact .inl q
        · exact .inl h
        · exact .inr q
    · rw [if_neg h, List.mem_cons, List.mem_append, List.mem_singleton]
      constructor
      · rintro ((q | q) | q)
        · exact .inl q
        · exact .inr (.inl q)
        · exact .inr (.inr q)
      · rintro (q | q | q)
        · exact .inl (.inl q)
        · exact .inl (.inr q)
        · exact .inr q
section
variable {prog : Program} {w : World} {A : Around} {E : Value → Shared → Prop} {s : Shared}
abbrev bareSetG (w : World) : Obj := { cls := .type "set", dict := none, data := .set #[] 0 (.fresh 0 0 (!w.params.followText "set-order")) }
theorem code_set_newG (a : Value) {Q₁ : Value → Shared → Prop}
    (h : Q₁ (.ref s.heap.objs.size) { s with heap := s.heap.push (bareSetG w) }) :
    codeAny (model prog w) A (.call (.builtin "set.__new__") ⟨[.type "set", a], []⟩) (wants Q₁ E) s := by
  refine codeAny_call_builtin PySem.F.plain_set_new PySem.F.entry_set_new ?_
  rw [chk_new]
  refine wpAny_pure ?_
  unfold Builtin.«set.__new__»
  rw [cls_new]
  refine wpAny_bind (wpAny_pure (wpAny_bind ?_))
  unfold newSet setsByText
  refine wpAny_bind (wpAny_bind (wpAny_askSetting (wpAny_pure ?_)))
  exact wpAny_newObj_type (wpAny_pure h)
theorem setG_keep {h h' : Heap} {a : Addr} {ks : List Key} (q : SetG prog w h a ks) (k : ∀ o, h.get? a = some o → h'.get? a = some o) : SetG prog w h' a ks := by
  obtain ⟨o, es, ep, t, ho, r⟩ := q
  exact ⟨o, es, ep, t, k o ho, r⟩
theorem setG_bare {h : Heap} {a : Addr} (e : h.get? a = some (bareSetG w)) : SetG prog w h a [] :=
  ⟨_, #[], 0, _, e, ⟨rfl, rfl, rfl⟩, rfl, ⟨[], List.Perm.refl _, .nil⟩, by rfl, ⟨List.Pairwise.nil, rfl, rfl⟩, List.nodup_nil⟩
end
section
variable {prog : Program} {w : World} {A : Around} {R : Result → Shared → Prop} {I : Addr} {fp wr : List Addr} {n : Nat} {P : Nat → Value → Prop} {St : Nat → Heap → Prop}
theorem upd_loopK (W : Walks prog w A.in1 I fp wr n P St) (S : Addr) (hS : S ∉ fp) (ks : List Key) (hzn : ks.length = n) (hv : ∀ (i : Nat) v, P i v → ∃ k, ks[i]? = some k ∧ (mixKind prog w).is k v = true ∧ v.scannable = true) (hb : n + 1 < scanBound) :
    ∀ (m i : Nat) (s : Shared), n - i = m → i ≤ n → St i s.heap → SetG prog w s.heap S (ddK [] (ks.take i)) →
      (∀ h' tk, (∀ b o, b ∉ S :: wr → s.heap.get? b = some o → h'.get? b = some o) → SetG prog w h' S (ddK [] ks) → R (.ok (.ret .none)) { s with heap := h', toks := tk }) →
      codeAny (model prog w) A (.builtin "set.update.loop" ⟨[.ref S, .ref I], []⟩) R s := by
  have hSw : S ∉ wr := fun q => hS (W.sub _ q)
  intro m
  induction m with
  | zero =>
    intro i s hk hi st so fin
    obtain rfl : i = n := by omega
    refine codeAny_builtin PyProof.Rows.F.entry_set_update_loop ?_
    rw [Around.under_plainId PyProof.Rows.F.plain_set_update_loop _]
    refine wpAny_bind (m := pyNext (.ref I)) (W.done s _ _ st fun h' tk kp => wpAny_pure (fin h' tk (fun b o nb e => kp b o (fun q => nb (List.mem_cons_of_mem _ q)) e) ?_))
    rw [← hzn, List.take_length] at so
    exact setG_keep so fun o e => kp S o hSw e
  | succ m ih =>
    intro i s hk hi st so fin
    have hlt : i < n := by omega
    refine codeAny_builtin PyProof.Rows.F.entry_set_update_loop ?_
    rw [Around.under_plainId PyProof.Rows.F.plain_set_update_loop _]
    refine wpAny_bind (m := pyNext (.ref I)) (W.item i s _ _ hlt st fun v h1 tk1 pv st1 kp1 => ?_)
    obtain ⟨k, hkk, hk1, hk2⟩ := hv i v pv
    have so1 := setG_keep so fun o e => kp1 S o hSw e
    refine wpAny_bind (m := holding [v] (setAdd S v)) (wpAny_holding ?_)
    unfold setAdd
    refine wpAny_holding (wpAny_bind ((mixKind prog w).pyHash hk1 ?_))
    have room := ddK_len (ks.take i) []
    rw [List.length_take, List.length_nil] at room
    refine add_set hk1 hk2 (s := { s with heap := h1, toks := tk1 + 1 }) so1 (by omega) fun b h2 sb so2 => ?_
    have et : ks.take (i + 1) = ks.take i ++ [k] := by rw [List.take_add_one, hkk]; rfl
    rw [← ddK_snoc, ← et] at so2
    refine wpAny_pure ⟨plainId_quiet PyProof.Rows.F.plain_set_update_loop _, ih (i + 1) _ (by omega) hlt (W.frame _ _ _ st1 fun b hb o e => (sb.2 b fun q => hS (by rw [← q]; exact hb)).trans e) so2 fun h' tk kp so' => fin h' tk (fun b o nb e => kp b o nb ?_) so'⟩
    have nS : b ≠ S := fun q => nb (by rw [q]; exact List.mem_cons_self)
    exact (sb.2 b nS).trans (kp1 b o (fun q => nb (List.mem_cons_of_mem _ q)) e)
end
section
variable {prog : Program} {w : World} {A : Around} {E : Value → Shared → Prop} {s : Shared}
theorem kV_is2 {k : Key} {u : Value} (r : RelV (kV k) u) : (mixKind prog w).is k u = true ∧ u.scannable = true := by
  cases k with
  | inl i => obtain ⟨t, rfl⟩ := r; exact ⟨mixKind_int prog w i t, rfl⟩
  | inr x => obtain ⟨t, rfl⟩ := r; exact ⟨mixKind_str prog w x t, rfl⟩
/-- what set.__init__ does with a list of ints and texts -/
theorem init_keys {l : Addr} {its : List Value} {ks : List Key} {R : Value → Shared → Prop} (hh : A.handled = none) (hl : s.heap.IsList l its.toArray) (hv : Vals (ks.map kV) its) (hb : its.length + 1 < scanBound)
    (h : ∀ (h' : Heap) (tk : Nat), SetG prog w h' s.heap.objs.size (ddK [] ks) → (∀ b o, b < s.heap.objs.size → s.heap.get? b = some o → h'.get? b = some o) → R .none { s with heap := h', toks := tk }) :
    codeAny (model prog w) A (.call (.builtin "set.__init__") ⟨[.ref s.heap.objs.size, .ref l], []⟩) (wants R E) { s with heap := s.heap.push (bareSetG w) } := by
  have own : (s.heap.push (bareSetG w)).get? s.heap.objs.size = some (bareSetG w) := Heap.get?_push_size _ rfl
  have ty : Shared.TypeIs { s with heap := s.heap.push (bareSetG w) } (.ref s.heap.objs.size) "set" := ⟨_, own, rfl⟩
  refine codeAny_call_builtin PySem.F.called_set.init.plain PySem.F.entry_set_init (check_set_init_1 ty ?_)
  obtain ⟨⟨c0, d0, dt0, sl0⟩, ho, hc, nl, hd⟩ := hl
  simp only at hc hd
  subst hc hd
  have ho1 : (s.heap.push (bareSetG w)).get? l = some { cls := .type "list", dict := d0, data := .seq its.toArray nl, slots := sl0 } := Heap.get?_push_of_some _ ho
  have hl1 : (s.heap.push (bareSetG w)).IsList l its.toArray := ⟨_, ho1, rfl, nl, rfl⟩
  have f1 := PySem.F.sub_list_set
  have f2 := PySem.F.sub_list_frozenset
  have f3 : (Value.type "list" == Value.type "dict") = false := by decide
  unfold Builtin.«set.__init__» noKeywords Builtin.Frozenset.updateFrom
  generalize hP : pyIter = PI
  wp_walk
  subst hP
  refine wpAny_pyIter_list hl1 (wpAny_bind (wpAny_runValue ?_))
  have lt0 : l < s.heap.objs.size := Heap.lt_size ho
  have hz : ks.length = its.length := by
    have := hv.length
    rw [List.length_map] at this
    exact this
  have ne0 : l ≠ (s.heap.push (bareSetG w)).objs.size := by rw [Heap.size_push]; exact Nat.ne_of_lt (Nat.lt_succ_of_lt lt0)
  have nin : s.heap.objs.size ∉ [(s.heap.push (bareSetG w)).objs.size, l] := by
    rw [Heap.size_push]
    simp only [List.mem_cons, List.not_mem_nil, or_false, not_or]
    exact ⟨Nat.ne_of_lt (Nat.lt_succ_self _), Nat.ne_of_gt lt0⟩
  have hh3 : A.in1.in1.handled = none := by simp [hh]
  refine upd_loopK (Walks.list hh3 _ l ne0 its.toArray) s.heap.objs.size nin ks (by rw [List.size_toArray]; exact hz) (fun i v e => ?_) (by rw [List.size_toArray]; exact hb) (its.toArray.size - 0) 0 _ (by omega) (Nat.zero_le _) ?st ?_ ?_
  case st => exact ⟨⟨_, Heap.get?_push_size _ rfl, rfl, rfl⟩, hl1.push _⟩
  · have e' : its[i]? = some v := by simpa using e
    have hi : i < ks.length := by
      rw [hz]
      exact (List.getElem?_eq_some_iff.mp e').1
    obtain ⟨u, hu, ru⟩ := hv.get (i := i) (x := kV ks[i]) (by rw [List.getElem?_map, List.getElem?_eq_getElem hi]; rfl)
    rw [e'] at hu
    cases hu
    exact ⟨ks[i], List.getElem?_eq_getElem hi, kV_is2 ru⟩
  · have g2 : ((s.heap.push (bareSetG w)).push { cls := .type "list_iterator", data := .fields #[.ref l, .int 0 0] }).get? s.heap.objs.size = some (bareSetG w) := Heap.get?_push_of_some _ own
    exact setG_bare g2
  · intro h' tk kp so
    refine wpAny_pure (wpAny_pure (h h' tk so fun b o hb2 e => kp b o ?_ (Heap.get?_push_of_some _ (Heap.get?_push_of_some _ e))))
    simp only [List.mem_cons, List.not_mem_nil, or_false, not_or]
    exact ⟨Nat.ne_of_lt hb2, by rw [Heap.size_push]; exact Nat.ne_of_lt (Nat.lt_succ_of_lt hb2)⟩
theorem call_set_keys {l : Addr} {its : List Value} {ks : List Key} {Q : Value → Shared → Prop} (hh : A.handled = none) (hl : s.heap.IsList l its.toArray) (hv : Vals (ks.map kV) its) (hb : its.length + 1 < scanBound)
    (h : ∀ (h' : Heap) (tk : Nat), SetG prog w h' s.heap.objs.size (ddK [] ks) → (∀ b o, b < s.heap.objs.size → s.heap.get? b = some o → h'.get? b = some o) → Q (.ref s.heap.objs.size) { s with heap := h', toks := tk }) :
    wpAny (model prog w) A (call (.type "set") [.ref l]) Q E s := by
  obtain ⟨c, tl, hmro⟩ := PySem.F.called_set.mro
  have k1 := PySem.F.called_set.made
  have k2 := PySem.F.called_set.sub
  have k3 := PySem.F.called_set.notType
  have k4 := PySem.F.called_set.canCreate
  have k5 := PySem.F.typeCall_set_1 (.ref l)
  refine wpAny_call (codeAny_of_tree ?_)
  show wpAny _ _ (callAny (.type "set") _) _ _ _
  refine wpAny_pure ⟨Code.quiet_builtin _ (by decide +kernel), codeAny_builtin PySem.F.entry_type_call ?_⟩
  rw [Around.under_plain (weight_type_call_type "set" [.ref l] []) rfl]
  repeat (any_goals (first | assumption | wp_step))
  refine codeAny_mono (code_set_newG (.ref l) (E := E) (Q₁ := fun obj s1 => obj = .ref s.heap.objs.size ∧ s1 = { s with heap := s.heap.push (bareSetG w) }) ⟨rfl, rfl⟩) fun r s1 hr => ?_
  cases r with
  | error e => exact hr
  | ok fl =>
    cases fl with
    | ret obj =>
      obtain ⟨rfl, rfl⟩ := hr
      have own : (s.heap.push (bareSetG w)).get? s.heap.objs.size = some (bareSetG w) := Heap.get?_push_size _ rfl
      have ty : Shared.TypeIs { s with heap := s.heap.push (bareSetG w) } (.ref s.heap.objs.size) "set" := ⟨_, own, rfl⟩
      have k6 := PySem.F.called_set.init.lookup
      have k7 := PySem.F.called_set.init.bind (.ref s.heap.objs.size)
      repeat (any_goals (first | assumption | wp_step))
      refine codeAny_mono (init_keys (R := fun r s2 => r = .none ∧ ∃ h' tk, s2 = { s with heap := h', toks := tk } ∧ SetG prog w h' s.heap.objs.size (ddK [] ks) ∧ (∀ b o, b < s.heap.objs.size → s.heap.get? b = some o → h'.get? b = some o)) (E := E) (by simp [hh]) hl hv hb fun h' tk so kp => ⟨rfl, h', tk, rfl, so, kp⟩) fun r2 s2 hr2 => ?_
      cases r2 with
      | error e => exact hr2
      | ok fl2 =>
        cases fl2 with
        | ret r =>
          obtain ⟨rfl, h', tk, rfl, so, kp⟩ := hr2
          repeat (any_goals (first | assumption | wp_step))
          exact h _ _ so kp
        | _ => exact hr2.elim
    | _ => exact hr.elim
end
/-- a set of ints and texts that nothing changes -/
def keySet (prog : Program) (w : World) (a : Addr) (ks : List Key) : HO := .ext fun h => SetG prog w h a ks
section
variable {X : Cx}
theorem call_setK (hc : X.calm = true) : CallR X (.type "set") (fun xs H Q => ∃ (p : Addr) (ks : List Key), xs = [.ref p] ∧ SqL X.K H p (ks.map kV) ∧ ks.length < 4000 ∧ ∀ a, H a = none → Q (.ref a) (upd H a (keySet X.prog X.w a (ddK [] ks)))) := by
  intro pins s σ H xs us Q I r h
  obtain ⟨p, ks, rfl, hq, hz, q⟩ := h
  obtain ⟨u, rfl, ru⟩ := vals1 r
  cases ru
  obtain ⟨its, rv, pl, _⟩ := I.list hq
  have hl := rv.length
  rw [List.length_map] at hl
  refine call_set_keys (I.ok.hd hc) pl.isList rv (by unfold scanBound; omega) fun h' tk so kp => ?_
  refine ⟨.ref s.heap.objs.size, _, I.laid (t' := tk) (fun b o e => kp b o (Heap.lt_size e) e) (Nat.le_refl _) (show ObjOk X.prog X.w _ h' _ (keySet X.prog X.w s.heap.objs.size (ddK [] ks)) from ?_), rfl, q _ (I.hok.fresh (Nat.le_refl _))⟩
  refine ⟨so, ?_, fun h1 h2 a k => ?_⟩
  · obtain ⟨o, _, _, _, ho, _⟩ := so
    exact ⟨o, ho⟩
  · exact setG_keep a k
end
end L2

namespace L2
open PySem PySem.Spec PyProof.Rows
theorem slot_sit_next : Slot "set_iterator" (Str.ofString "__next__") "set_iterator.__next__" := Slot.of (owner := "set_iterator") (n := "__next__") (by kernel_rfl) (by kernel_rfl) (by kernel_rfl) (by kernel_rfl) (.inl (by kernel_rfl)) (by kernel_rfl) (by kernel_rfl)
theorem slot_sit_iter : Slot "set_iterator" (Str.ofString "__iter__") "set_iterator.__iter__" := Slot.of (owner := "set_iterator") (n := "__iter__") (by kernel_rfl) (by kernel_rfl) (by kernel_rfl) (by kernel_rfl) (.inl (by kernel_rfl)) (by kernel_rfl) (by kernel_rfl)
theorem args_sit_next (a : Value) : argsOk "set_iterator.__next__" { pos := [a] } := by kernel_rfl
theorem args_sit_iter (a : Value) : argsOk "set_iterator.__iter__" { pos := [a] } := by kernel_rfl
theorem entry_sit_next : entryFor PySem.table "set_iterator.__next__" = some PySem.Builtin.«set_iterator.__next__» := by kernel_rfl
theorem entry_set_iter : entryFor PySem.table "set.__iter__" = some PySem.Builtin.«frozenset.__iter__» := by kernel_rfl
theorem first_stop : firstArgMember (.type "StopIteration") [] = pure .none := by kernel_rfl
theorem own_stop : ownMembersOf (.type "StopIteration") [] = #[] := by kernel_rfl
section
variable {prog : Program} {w : World} {A : Around} {E : Value → Shared → Prop} {s : Shared}
theorem raise_stop {α : Type} {Q : α → Shared → Prop} (hh : A.handled = none) (k : ∀ h' e, (∀ b o, s.heap.get? b = some o → h'.get? b = some o) → Shared.TypeIs { s with heap := h' } (.ref e) "StopIteration" → E (.ref e) { s with heap := h' }) :
    wpAny (model prog w) A (do
      let x ← newExc (.type "StopIteration") []
      raiseNew x : Sem α) Q E s := by
  refine wpAny_bind ?_
  unfold newExc
  refine wpAny_bind (wpAny_newTuple ?_ (Nat.zero_le _))
  rw [first_stop, own_stop]
  refine wpAny_bind (wpAny_pure (wpAny_newObj_type (wpAny_raiseNew_none hh (k _ _ (fun b o e => Heap.get?_push_of_some _ (Heap.get?_push_of_some _ e)) ⟨_, Heap.get?_push_size _ rfl, rfl⟩))))
theorem next_of {it : Addr} {Q : Option Value → Shared → Prop} (ty : s.TypeIs (.ref it) "set_iterator")
    (h : wpAny (model prog w) A.in1 (Builtin.«set_iterator.__next__» ⟨[.ref it], []⟩) (fun fin s' => ∃ v, fin = .done (.ret v) ∧ Q (some v) s') (fun e s' => s'.TypeIs e "StopIteration" ∧ Q none s') s) :
    wpAny (model prog w) A (pyNext (.ref it)) Q E s := by
  unfold pyNext
  refine wpAny_bind (wpAny_attempt ?_)
  refine wpAny_callSpecial?_slotG ty slot_sit_next.toG ?_
  refine wpAny_mono (wpAny_call_entry slot_sit_next ty entry_sit_next (Q := fun v s' => Q (some v) s') h (args_sit_next _)) (fun v s' q => wpAny_pure q) (fun e s' q => ?_)
  exact wpAny_bind (wpAny_isInstance q.1 isSubtype_stop (by rw [if_pos rfl]; exact wpAny_pure q.2))
/-- the object of a walk over the set at a -/
abbrev sitO (first : Value) (i : Nat) (a : Addr) (n ep : Nat) : Obj := { cls := .type "set_iterator", data := .fields #[first, .int i 0, .ref a, .int n 0, .int ep 0] }
theorem by_text {Q : Bool → Shared → Prop} (q : Q (w.params.followText "set-order") s) : wpAny (model prog w) A setsByText Q E s := by
  unfold setsByText
  exact wpAny_bind (wpAny_askSetting (wpAny_pure q))
variable {a : Addr} {o : Obj} {es : Array (Int × Value)} {ep : Nat} {t : SetTable}
theorem next_text {slot given : Nat} {Q : Option (Value × Nat) → Shared → Prop} (ht : w.params.followText "set-order" = true) (ho : s.heap.get? a = some o) (hd : o.data = .set es ep t) (fit : t.fits es.size = true)
    (q : Q ((pickOrder (w.params.setOrder a ep) es)[given]?.map fun e => (e.2, slot)) s) : wpAny (model prog w) A (setNext a slot given ep) Q E s := by
  unfold setNext
  refine wpAny_bind (wpAny_setState_of ho hd fit ?_)
  refine wpAny_bind (by_text ?_)
  rw [ht, if_pos rfl, if_neg (by simp)]
  refine wpAny_bind ?_
  unfold setWalk
  refine wpAny_bind (wpAny_setState_of ho hd fit ?_)
  refine wpAny_bind (by_text ?_)
  rw [ht, if_pos rfl]
  exact wpAny_bind (wpAny_askSetting (wpAny_pure (wpAny_pure q)))
theorem next_place {slot given : Nat} {Q : Option (Value × Nat) → Shared → Prop} (ht : w.params.followText "set-order" = false) (ho : s.heap.get? a = some o) (hd : o.data = .set es ep t) (fit : t.fits es.size = true) (g : Gd t true)
    (np : (!t.plain && decide (es.size > 1)) = false)
    (q : Q (match es[SetTable.below t.place slot]?, t.place[SetTable.below t.place slot]? with
      | some e, some j => some (e.2, j + 1)
      | _, _ => none) s) : wpAny (model prog w) A (setNext a slot given ep) Q E s := by
  unfold setNext
  refine wpAny_bind (wpAny_setState_of ho hd fit ?_)
  refine wpAny_bind (by_text ?_)
  rw [ht, if_neg (by decide)]
  show wpAny _ _ (if (!t.plain && decide (es.size > 1)) = true then _ else _) _ _ _
  rw [np, if_neg (by decide)]
  refine wpAny_bind (show wpAny _ _ (if (!t.led && !es.isEmpty) = true then _ else pure ()) _ _ _ from ?_)
  rw [g.led, if_neg (by simp)]
  refine wpAny_pure (wpAny_pure ?_)
  cases h1 : es[SetTable.below t.place slot]? with
  | none => rw [h1] at q; exact q
  | some e =>
    rw [h1] at q
    cases h2 : t.place[SetTable.below t.place slot]? with
    | none => rw [h2] at q; exact q
    | some j => rw [h2] at q; exact q
theorem next_drawn {place : Nat} {e : Int × Value} {Q : Value → Shared → Prop} (ho : s.heap.get? a = some o) (hd : o.data = .set es ep t) (fit : t.fits es.size = true) (he : es[place]? = some e)
    (q : Q e.2 s) : wpAny (model prog w) A (setNextDrawn a place ep) Q E s := by
  unfold setNextDrawn
  refine wpAny_bind (wpAny_setState_of ho hd fit ?_)
  dsimp only
  rw [if_neg (by simp), he]
  exact wpAny_pure q
/-- the walk's next step, up to where the kinds of walk part -/
theorem next_head {it : Addr} {first : Value} {i : Nat} {Q : PySem.Fin → Shared → Prop} (hit : s.heap.get? it = some (sitO first i a es.size ep)) (ho : s.heap.get? a = some o) (hd : o.data = .set es ep t) (fit : t.fits es.size = true)
    (q : wpAny (model prog w) A (match first with
      | .int slot _ => do
        let r ← setNext a slot.toNat i ep
        match r with
          | some (x, next) => do
            setField (.ref it) 0 (rawInt next)
            setField (.ref it) 1 (rawInt (i + 1))
            ret x
          | none => do
            setField (.ref it) 2 .none
            let x ← newExc (.type "StopIteration") []
            raiseNew x
      | x => do
        let y ← seqItems? first
        match y with
          | some places =>
            match places[i]? with
            | some (.int place _) => do
              let x ← setNextDrawn a place.toNat ep
              setField (.ref it) 1 (rawInt (i + 1))
              ret x
            | some val => unsupported "internal:set_iterator"
            | none => do
              setField (.ref it) 0 (rawInt 0)
              setField (.ref it) 2 .none
              let x ← newExc (.type "StopIteration") []
              raiseNew x
          | x => unsupported "internal:set_iterator") Q E s) : wpAny (model prog w) A (Builtin.«set_iterator.__next__» ⟨[.ref it], []⟩) Q E s := by
  unfold Builtin.«set_iterator.__next__»
  refine wpAny_bind (show wpAny _ _ (pure (Value.ref it, [])) _ _ _ from wpAny_pure ?_)
  refine wpAny_bind (wpAny_fieldsOf hit rfl ?_)
  refine wpAny_bind (wpAny_setEntries_of ho hd fit ?_)
  rw [if_neg (by simp)]
  exact q
end
end L2

namespace L2
open PySem PySem.Spec PyProof.Rows
theorem perm_erase {α : Type} : ∀ (l : List α) (i : Nat) (x : α), l[i]? = some x → (x :: l.eraseIdx i).Perm l
  | [], i, x, h => by simp at h
  | a :: l, 0, x, h => by
    have e : a = x := by simpa using h
    subst e
    exact List.Perm.refl _
  | a :: l, i + 1, x, h => by
    have ih := perm_erase l i x (by simpa using h)
    show (x :: a :: l.eraseIdx i).Perm (a :: l)
    exact (List.Perm.swap a x _).trans (ih.cons a)
theorem pick_go {α : Type} (next : Nat → Nat) : ∀ (fuel k : Nat) (left : List α) (out : Array α), left.length ≤ fuel → (pickOrder.go next fuel k left out).toList.Perm (out.toList ++ left)
  | 0, k, left, out, h => by
    have e : left = [] := List.eq_nil_of_length_eq_zero (by omega)
    subst e
    rw [List.append_nil]
    exact List.Perm.refl _
  | fuel + 1, k, left, out, h => by
    show (match left[next k % left.length]? with
      | some x => pickOrder.go next fuel (k + 1) (left.eraseIdx (next k % left.length)) (out.push x)
      | none => out).toList.Perm _
    cases e : left[next k % left.length]? with
    | none =>
      have l0 : left = [] := by
        cases left with
        | nil => rfl
        | cons a l =>
          rw [List.getElem?_eq_none_iff] at e
          have := Nat.mod_lt (next k) (show 0 < (a :: l).length by simp)
          omega
      subst l0
      rw [List.append_nil]
    | some x =>
      have lt := (List.getElem?_eq_some_iff.mp e).1
      have ih := pick_go next fuel (k + 1) (left.eraseIdx (next k % left.length)) (out.push x) (by rw [List.length_eraseIdx_of_lt lt]; omega)
      refine ih.trans ?_
      rw [Array.toList_push, List.append_assoc]
      exact (perm_erase left _ x e).append_left _
theorem pick_perm {α : Type} (next : Nat → Nat) (xs : Array α) : (pickOrder next xs).toList.Perm xs.toList := by
  have := pick_go next xs.size 0 xs.toList #[] (by rw [Array.length_toList]; exact Nat.le_refl _)
  show (pickOrder.go next xs.size 0 xs.toList #[]).toList.Perm xs.toList
  simpa using this
section
variable {prog : Program} {w : World} {A : Around} {E : Value → Shared → Prop} {s : Shared}
theorem draw_order {α : Type} : ∀ (n : Nat) (l : List α) (s : Shared) {Q : List α → Shared → Prop}, l.length = n → (∀ o d, o.Perm l → Q o { s with drawn := d }) → wpAny (model prog w) A (drawOrder n l) Q E s
  | 0, l, s, Q, h, q => by
    have e : l = [] := List.eq_nil_of_length_eq_zero h
    subst e
    exact (wpAny_pure (q [] s.drawn (List.Perm.refl _)) : wpAny _ _ (pure []) _ _ _)
  | n + 1, [], s, Q, h, q => by simp at h
  | n + 1, a :: l, s, Q, h, q => by
    show wpAny _ _ (choose Source.order (a :: l).length >>= fun i => match (a :: l)[i]? with
      | some x => do
        let r ← drawOrder n ((a :: l).eraseIdx i)
        pure (x :: r)
      | none => unsupported "internal:drawOrder") _ _ _
    refine wpAny_bind ?_
    intro Γ p hΓ
    unfold choose
    rw [Sem.wp_choose]
    refine ⟨by simp, ?_⟩
    have lt : (model prog w).w.draws Source.order (s.drawn.get Source.order) % (a :: l).length < (a :: l).length := Nat.mod_lt _ (by simp)
    generalize (model prog w).w.draws Source.order (s.drawn.get Source.order) % (a :: l).length = i at lt ⊢
    obtain ⟨x, hx⟩ : ∃ x, (a :: l)[i]? = some x := ⟨_, List.getElem?_eq_getElem lt⟩
    have main : wpAny (model prog w) A (match (a :: l)[i]? with
      | some x => do
        let r ← drawOrder n ((a :: l).eraseIdx i)
        pure (x :: r)
      | none => unsupported "internal:drawOrder") Q E { s with drawn := s.drawn.bump Source.order } := by
      rw [hx]
      refine wpAny_bind (draw_order n _ _ ?_ fun o d hp => wpAny_pure (q _ _ ?_))
      · rw [List.length_eraseIdx_of_lt lt]
        simpa using h
      · exact (hp.cons x).trans (perm_erase _ _ _ hx)
    exact main
end
/-! ### the walk by places -/
def slotAt (ps : Array Nat) : Nat → Nat
  | 0 => 0
  | i + 1 => ps.getD i 0 + 1
theorem cut_uniq {ps : Array Nat} {j b c : Nat} (h1 : Cut ps j b) (h2 : Cut ps j c) : b = c := by
  have k1 := h1.le
  have k2 := h2.le
  by_cases e : b < c
  · have x := h2.lo b (by omega) e
    have y := h1.hi b (by omega) (Nat.le_refl _)
    omega
  · by_cases e2 : c < b
    · have x := h1.lo c (by omega) e2
      have y := h2.hi c (by omega) (Nat.le_refl _)
      omega
    · omega
theorem below_slot {ps : Array Nat} (h : Ris ps) {i : Nat} (hi : i ≤ ps.size) : SetTable.below ps (slotAt ps i) = i := by
  refine cut_uniq (below_cut h _) ⟨hi, fun k hk lt => ?_, fun k hk le => ?_⟩
  · cases i with
    | zero => omega
    | succ i =>
      have e : slotAt ps (i + 1) = ps[i]'(by omega) + 1 := by
        show ps.getD i 0 + 1 = _
        simp [Array.getD, show i < ps.size by omega]
      rw [e]
      by_cases c : k = i
      · subst c; omega
      · have := ris_get h (i := k) (k := i) (by omega) (by omega)
        omega
  · cases i with
    | zero => exact Nat.zero_le _
    | succ i =>
      have e : slotAt ps (i + 1) = ps[i]'(by omega) + 1 := by
        show ps.getD i 0 + 1 = _
        simp [Array.getD, show i < ps.size by omega]
      rw [e]
      have := ris_get h (i := i) (k := k) (by omega) hk
      omega
theorem entry_sit_iter : entryFor PySem.table "set_iterator.__iter__" = some PySem.Builtin.«dict_keyiterator.__iter__» := by kernel_rfl
section
variable {prog : Program} {w : World} {A : Around} {a it : Addr} {o : Obj} {es : Array (Int × Value)} {ep : Nat} {t : SetTable}
theorem sit_self {first : Value} {i n : Nat} (s : Shared) (Q E : Value → Shared → Prop) (hit : s.heap.get? it = some (sitO first i a n ep)) (q : Q (.ref it) s) : wpAny (model prog w) A (pyIter (.ref it)) Q E s := by
  have ty : s.TypeIs (.ref it) "set_iterator" := ⟨_, hit, rfl⟩
  refine wpAny_pyIter_slot ty slot_sit_iter (wpAny_call_entry slot_sit_iter ty entry_sit_iter ?_ (args_sit_iter _))
  unfold Builtin.«dict_keyiterator.__iter__»
  refine wpAny_bind (show wpAny _ _ (pure (Value.ref it, [])) _ _ _ from wpAny_pure ?_)
  exact wpAny_pure ⟨_, rfl, "set_iterator", _, ty, slot_sit_next.lookup, q⟩
theorem walk_place (hh : A.handled = none) (hne : a ≠ it) (ht : w.params.followText "set-order" = false) (hd : o.data = .set es ep t) (fit : t.fits es.size = true) (g : Gd t true) (np : (!t.plain && decide (es.size > 1)) = false) :
    Walks prog w A it [it, a] [it] es.size (fun i v => (es.toList.map (·.2))[i]? = some v) (fun i h => i ≤ es.size ∧ h.get? it = some (sitO (.int (slotAt t.place i : Nat) 0) i a es.size ep) ∧ h.get? a = some o) where
  sub := fun b hb => by rw [List.mem_singleton.mp hb]; exact .head _
  frame := fun i h h' st k => ⟨st.1, k it (.head _) _ st.2.1, k a (.tail _ (.head _)) _ st.2.2⟩
  item := fun i s Q E hi st q => by
    obtain ⟨_, hit, ho⟩ := st
    have sz : t.place.size = es.size := by
      unfold SetTable.fits at fit
      rw [Bool.and_eq_true] at fit
      simpa using fit.1
    refine next_of ⟨_, hit, rfl⟩ (next_head hit ho hd fit ?_)
    refine wpAny_bind (next_place ht ho hd fit g np ?_)
    rw [show ((slotAt t.place i : Nat) : Int).toNat = slotAt t.place i from rfl, below_slot g.ris (by omega), Array.getElem?_eq_getElem hi, Array.getElem?_eq_getElem (by omega)]
    refine wpAny_bind (wpAny_setField_rec hit (by simp) fun h1 e1 sb1 => ?_)
    refine wpAny_bind (wpAny_setField_rec e1 (by simp) fun h2 e2 sb2 => ?_)
    refine wpAny_pure ⟨_, rfl, q _ h2 s.toks ?_ ⟨by omega, ?_, ?_⟩ fun b o nb e => ?_⟩
    · rw [List.getElem?_map, Array.getElem?_toList, Array.getElem?_eq_getElem hi]
      rfl
    · rw [e2]
      have es1 : slotAt t.place (i + 1) = t.place[i]'(by omega) + 1 := by
        show t.place.getD i 0 + 1 = _
        simp [Array.getD, show i < t.place.size by omega]
      rw [es1]
      rfl
    · rw [sb2.2 a hne, sb1.2 a hne]
      exact ho
    · have ne : b ≠ it := fun z => nb (by rw [z]; exact .head _)
      rw [sb2.2 b ne, sb1.2 b ne]
      exact e
  done := fun s Q E st q => by
    obtain ⟨_, hit, ho⟩ := st
    have sz : t.place.size = es.size := by
      unfold SetTable.fits at fit
      rw [Bool.and_eq_true] at fit
      simpa using fit.1
    refine next_of ⟨_, hit, rfl⟩ (next_head hit ho hd fit ?_)
    refine wpAny_bind (next_place ht ho hd fit g np ?_)
    rw [show ((slotAt t.place es.size : Nat) : Int).toNat = slotAt t.place es.size from rfl, below_slot g.ris (by omega), Array.getElem?_eq_none (Nat.le_refl _)]
    refine wpAny_bind (wpAny_setField_rec hit (by simp) fun h1 e1 sb1 => ?_)
    refine raise_stop (by simpa using hh) fun h' e k ty => ⟨ty, q h' s.toks fun b o nb eb => k b o ?_⟩
    have ne : b ≠ it := fun z => nb (by rw [z]; exact .head _)
    show h1.get? b = some o
    rw [sb1.2 b ne]
    exact eb
  self := fun i s Q E st q => sit_self s Q E st.2.1 q
theorem walk_text (hh : A.handled = none) (hne : a ≠ it) (ht : w.params.followText "set-order" = true) (hd : o.data = .set es ep t) (fit : t.fits es.size = true) :
    Walks prog w A it [it, a] [it] es.size (fun i v => ((pickOrder (w.params.setOrder a ep) es).toList.map (·.2))[i]? = some v) (fun i h => h.get? it = some (sitO (.int 0 0) i a es.size ep) ∧ h.get? a = some o) where
  sub := fun b hb => by rw [List.mem_singleton.mp hb]; exact .head _
  frame := fun i h h' st k => ⟨k it (.head _) _ st.1, k a (.tail _ (.head _)) _ st.2⟩
  item := fun i s Q E hi st q => by
    obtain ⟨hit, ho⟩ := st
    have sz : (pickOrder (w.params.setOrder a ep) es).size = es.size := by
      have := (pick_perm (w.params.setOrder a ep) es).length_eq
      simpa using this
    refine next_of ⟨_, hit, rfl⟩ (next_head hit ho hd fit ?_)
    refine wpAny_bind (next_text ht ho hd fit ?_)
    rw [Array.getElem?_eq_getElem (by omega)]
    refine wpAny_bind (wpAny_setField_rec hit (by simp) fun h1 e1 sb1 => ?_)
    refine wpAny_bind (wpAny_setField_rec e1 (by simp) fun h2 e2 sb2 => ?_)
    refine wpAny_pure ⟨_, rfl, q _ h2 s.toks ?_ ⟨?_, ?_⟩ fun b o nb e => ?_⟩
    · rw [List.getElem?_map, Array.getElem?_toList, Array.getElem?_eq_getElem (by omega)]
      rfl
    · rw [e2]
      rfl
    · rw [sb2.2 a hne, sb1.2 a hne]
      exact ho
    · have ne : b ≠ it := fun z => nb (by rw [z]; exact .head _)
      rw [sb2.2 b ne, sb1.2 b ne]
      exact e
  done := fun s Q E st q => by
    obtain ⟨hit, ho⟩ := st
    have sz : (pickOrder (w.params.setOrder a ep) es).size = es.size := by
      have := (pick_perm (w.params.setOrder a ep) es).length_eq
      simpa using this
    refine next_of ⟨_, hit, rfl⟩ (next_head hit ho hd fit ?_)
    refine wpAny_bind (next_text ht ho hd fit ?_)
    rw [Array.getElem?_eq_none (by omega)]
    refine wpAny_bind (wpAny_setField_rec hit (by simp) fun h1 e1 sb1 => ?_)
    refine raise_stop (by simpa using hh) fun h' e k ty => ⟨ty, q h' s.toks fun b o nb eb => k b o ?_⟩
    have ne : b ≠ it := fun z => nb (by rw [z]; exact .head _)
    show h1.get? b = some o
    rw [sb1.2 b ne]
    exact eb
  self := fun i s Q E st q => sit_self s Q E st.1 q
abbrev plO (ord : List Nat) : Obj := { cls := .type "tuple", data := .seq (ord.map fun i => rawInt (i : Nat)).toArray }
theorem walk_drawn {T : Addr} {ord : List Nat} (hh : A.handled = none) (hne : a ≠ it) (hT : T ≠ it) (hp : ord.Perm (List.range es.size)) (hd : o.data = .set es ep t) (fit : t.fits es.size = true) :
    Walks prog w A it [it, a, T] [it] es.size (fun i v => (ord.map fun j => (es.getD j (0, .none)).2)[i]? = some v) (fun i h => h.get? it = some (sitO (.ref T) i a es.size ep) ∧ h.get? a = some o ∧ h.get? T = some (plO ord)) where
  sub := fun b hb => by rw [List.mem_singleton.mp hb]; exact .head _
  frame := fun i h h' st k => ⟨k it (.head _) _ st.1, k a (.tail _ (.head _)) _ st.2.1, k T (.tail _ (.tail _ (.head _))) _ st.2.2⟩
  item := fun i s Q E hi st q => by
    obtain ⟨hit, ho, hpl⟩ := st
    have ol : ord.length = es.size := by rw [hp.length_eq, List.length_range]
    have lt : ord[i]'(by omega) < es.size := List.mem_range.mp (hp.mem_iff.mp (List.getElem_mem _))
    refine next_of ⟨_, hit, rfl⟩ (next_head hit ho hd fit ?_)
    refine wpAny_bind (wpAny_seqItems hpl rfl ?_)
    have eo : (ord.map fun i => rawInt (i : Nat)).toArray[i]? = some (.int (ord[i]'(by omega) : Nat) 0) := by
      rw [List.getElem?_toArray, List.getElem?_map, List.getElem?_eq_getElem (by omega)]
      rfl
    dsimp only
    rw [eo]
    refine wpAny_bind (next_drawn ho hd fit (place := (((ord[i]'(by omega) : Nat) : Int)).toNat) (e := es[ord[i]'(by omega)]) (by rw [show (((ord[i]'(by omega) : Nat) : Int)).toNat = ord[i]'(by omega) from rfl, Array.getElem?_eq_getElem lt]) ?_)
    refine wpAny_bind (wpAny_setField_rec hit (by simp) fun h1 e1 sb1 => ?_)
    refine wpAny_pure ⟨_, rfl, q _ h1 s.toks ?_ ⟨?_, ?_, ?_⟩ fun b o nb e => ?_⟩
    · rw [List.getElem?_map, List.getElem?_eq_getElem (by omega)]
      simp [Array.getD, lt]
    · rw [e1]
      rfl
    · rw [sb1.2 a hne]
      exact ho
    · rw [sb1.2 T hT]
      exact hpl
    · have ne : b ≠ it := fun z => nb (by rw [z]; exact .head _)
      rw [sb1.2 b ne]
      exact e
  done := fun s Q E st q => by
    obtain ⟨hit, ho, hpl⟩ := st
    have ol : ord.length = es.size := by rw [hp.length_eq, List.length_range]
    refine next_of ⟨_, hit, rfl⟩ (next_head hit ho hd fit ?_)
    refine wpAny_bind (wpAny_seqItems hpl rfl ?_)
    have eo : (ord.map fun i => rawInt (i : Nat)).toArray[es.size]? = none := by
      rw [List.getElem?_toArray, List.getElem?_map, List.getElem?_eq_none (by omega)]
      rfl
    dsimp only
    rw [eo]
    refine wpAny_bind (wpAny_setField_rec hit (by simp) fun h1 e1 sb1 => ?_)
    refine wpAny_bind (wpAny_setField_rec e1 (by simp) fun h2 e2 sb2 => ?_)
    refine raise_stop (by simpa using hh) fun h' e k ty => ⟨ty, q h' s.toks fun b o nb eb => k b o ?_⟩
    have ne : b ≠ it := fun z => nb (by rw [z]; exact .head _)
    show h2.get? b = some o
    rw [sb2.2 b ne, sb1.2 b ne]
    exact eb
  self := fun i s Q E st q => sit_self s Q E st.1 q
end
end L2

namespace L2
open PySem PySem.Spec PyProof.Rows
theorem paired_perm {α β : Type} {F : α → β → Prop} {xs ys : List α} (p : xs.Perm ys) : ∀ {zs : List β}, Paired F ys zs → ∃ zs', zs'.Perm zs ∧ Paired F xs zs' := by
  induction p with
  | nil => intro zs h; exact ⟨zs, List.Perm.refl _, h⟩
  | cons x _ ih =>
    intro zs h
    cases h with
    | cons f r =>
      obtain ⟨zs', p, q⟩ := ih r
      exact ⟨_ :: zs', p.cons _, .cons f q⟩
  | swap x y l =>
    intro zs h
    cases h with
    | cons f r =>
      cases r with
      | cons g r =>
        exact ⟨_, List.Perm.swap _ _ _, .cons g (.cons f r)⟩
  | trans _ _ ih1 ih2 =>
    intro zs h
    obtain ⟨z1, p1, q1⟩ := ih2 h
    obtain ⟨z2, p2, q2⟩ := ih1 q1
    exact ⟨z2, p2.trans p1, q2⟩
theorem paired_map {α β γ : Type} {F : α → β → Prop} {G : γ → β → Prop} {f : α → γ} (h : ∀ a b, F a b → G (f a) b) : ∀ {xs : List α} {zs : List β}, Paired F xs zs → Paired G (xs.map f) zs
  | _, _, .nil => .nil
  | _, _, .cons g r => .cons (h _ _ g) (paired_map h r)
def IsK (P : Program) (w : World) (v : Value) (k : Key) : Prop := (mixKind P w).is k v = true
theorem vals_set {P : Program} {w : World} {es : List (Int × Value)} {vs : List (Int × Value)} {ks : List Key} (h : ∃ fs, es.Perm fs ∧ Paired (KeyE P w) fs ks) (p : vs.Perm es) : ∃ ks', ks'.Perm ks ∧ Paired (IsK P w) (vs.map (·.2)) ks' := by
  obtain ⟨fs, p1, m⟩ := h
  obtain ⟨ks', p2, q⟩ := paired_perm (p.trans p1) m
  exact ⟨ks', p2, paired_map (fun _ _ z => z.1) q⟩
section
variable {prog : Program} {w : World} {A : Around} {E : Value → Shared → Prop} {s : Shared} {a : Addr} {ks : List Key}
theorem iter_set {Q : Value → Shared → Prop} (G : SetG prog w s.heap a ks) (hb : ks.length ≤ sizeLine)
    (q : ∀ (it : Addr) (h' : Heap) (d : Drawn) (vs : List Value) (fp : List Addr) (St : Nat → Heap → Prop), s.heap.objs.size ≤ it → (∀ b o, s.heap.get? b = some o → h'.get? b = some o) → (∀ b ∈ fp, b = a ∨ s.heap.objs.size ≤ b) →
      (∀ A' : Around, A'.handled = none → Walks prog w A' it fp [it] ks.length (fun i v => vs[i]? = some v) St) → St 0 h' → vs.length = ks.length → (∃ ks', ks'.Perm ks ∧ Paired (IsK prog w) vs ks') → Q (.ref it) { s with heap := h', drawn := d }) :
    wpAny (model prog w) A (pyIter (.ref a)) Q E s := by
  obtain ⟨o, es, ep, t, ho, hex, hd, hf, fit, gd, nd⟩ := G
  have len := elems_len hf
  rw [Array.length_toList] at len
  have lta : a < s.heap.objs.size := Heap.lt_size ho
  have ty : s.TypeIs (.ref a) "set" := ⟨o, ho, hex.1⟩
  refine wpAny_pyIter_slot ty PySem.F.slot_set_iter (wpAny_call_entry PySem.F.slot_set_iter ty entry_set_iter ?_ (PySem.F.args_set_iter_1 _))
  unfold Builtin.«frozenset.__iter__»
  refine wpAny_bind (show wpAny _ _ (pure a) _ _ _ from wpAny_pure ?_)
  unfold Builtin.Frozenset.sizeOf
  refine wpAny_bind (wpAny_bind (wpAny_setEntries_of ho hd fit (wpAny_pure ?_)))
  unfold setDrawn
  refine wpAny_bind (wpAny_bind (wpAny_setState_of ho hd fit (wpAny_bind (by_text (wpAny_pure ?_)))))
  show wpAny _ _ (if (!w.params.followText "set-order" && (!t.plain && decide (es.size > 1))) = true then _ else _) _ _ _
  have fin : ∀ (first : Value) (s1 : Shared) (it : Addr), it = s1.heap.objs.size → s1.heap.get? a = some o → (∀ b o, s.heap.get? b = some o → s1.heap.get? b = some o) → s.heap.objs.size ≤ it → s1 = { s with heap := s1.heap, drawn := s1.drawn } →
      (∀ h', h' = s1.heap.push (sitO first 0 a es.size ep) → ∃ (vs : List Value) (fp : List Addr) (St : Nat → Heap → Prop), (∀ b ∈ fp, b = a ∨ s.heap.objs.size ≤ b) ∧
      (∀ A' : Around, A'.handled = none → Walks prog w A' it fp [it] es.size (fun i v => vs[i]? = some v) St) ∧ St 0 h' ∧ vs.length = ks.length ∧ (∃ ks', ks'.Perm ks ∧ Paired (IsK prog w) vs ks')) →
      wpAny (model prog w) A.in1 (do
        let e ← setEpoch a
        let x ← newFields "set_iterator" [first, rawInt 0, .ref a, rawInt es.size, rawInt e]
        ret x) (fun fin s' => ∃ v, fin = .done (.ret v) ∧ ∃ T' r, s'.TypeIs v T' ∧ typeLookup (.type T') (Str.ofString "__next__") = pure (some r) ∧ Q v s') E s1 := by
    intro first s1 it hit ho1 kp le es1 hw
    refine wpAny_bind (wpAny_setEpoch_of ho1 hd fit ?_)
    unfold newFields
    refine wpAny_bind (wpAny_newObj_type ?_)
    obtain ⟨vs, fp, St, h1, h2, h3, h4, h5⟩ := hw _ rfl
    refine wpAny_pure ⟨_, rfl, "set_iterator", _, ⟨_, Heap.get?_push_size _ rfl, rfl⟩, slot_sit_next.lookup, ?_⟩
    rw [es1, ← hit]
    rw [len] at h2
    exact q it _ s1.drawn vs fp St le (fun b o e => Heap.get?_push_of_some _ (kp b o e)) h1 h2 h3 h4 h5
  by_cases ht : w.params.followText "set-order" = true
  · rw [ht]
    rw [if_neg (by simp)]
    refine wpAny_bind (wpAny_pure ?_)
    refine fin (rawInt 0) s s.heap.objs.size rfl ho (fun _ _ e => e) (Nat.le_refl _) rfl fun h' eh => ?_
    subst eh
    refine ⟨(pickOrder (w.params.setOrder a ep) es).toList.map (·.2), [s.heap.objs.size, a], _, ?_, fun A' hA => walk_text hA (Nat.ne_of_lt lta) ht hd fit, ⟨Heap.get?_push_size _ rfl, Heap.get?_push_of_some _ ho⟩, ?_, vals_set hf (pick_perm _ _)⟩
    · intro b hb
      rcases List.mem_cons.mp hb with rfl | hb
      · exact .inr (Nat.le_refl _)
      · exact .inl (List.mem_singleton.mp hb)
    · rw [List.length_map, (pick_perm _ _).length_eq, Array.length_toList, len]
  · have ht : w.params.followText "set-order" = false := Bool.eq_false_iff.mpr ht
    rw [ht] at gd ⊢
    by_cases hdr : (!t.plain && decide (es.size > 1)) = true
    · rw [hdr, if_pos (by decide)]
      refine wpAny_bind (draw_order es.size (List.range es.size) s (List.length_range) fun ord d hp => ?_)
      have ol : ord.length = es.size := by rw [hp.length_eq, List.length_range]
      refine wpAny_bind (wpAny_newTuple ?_ (by rw [List.length_map]; omega))
      refine fin (.ref s.heap.objs.size) _ (s.heap.objs.size + 1) (by simp [Heap.size_push]) (Heap.get?_push_of_some _ ho) (fun b o e => Heap.get?_push_of_some _ e) (by omega) rfl fun h' eh => ?_
      subst eh
      have hpe : (ord.map fun j => es.getD j (0, .none)).Perm es.toList := by
        have e : es.toList = (List.range es.size).map fun j => es.getD j (0, .none) := by
          refine List.ext_getElem? fun i => ?_
          rw [Array.getElem?_toList, List.getElem?_map]
          by_cases hi : i < es.size
          · rw [Array.getElem?_eq_getElem hi, List.getElem?_range hi]
            simp [Array.getD, hi]
          · rw [Array.getElem?_eq_none (by omega), List.getElem?_eq_none (by rw [List.length_range]; omega)]
            rfl
        rw [e]
        exact hp.map _
      have v := vals_set hf hpe
      rw [List.map_map] at v
      refine ⟨ord.map fun j => (es.getD j (0, .none)).2, [s.heap.objs.size + 1, a, s.heap.objs.size], _, ?_, fun A' hA => walk_drawn (it := s.heap.objs.size + 1) (T := s.heap.objs.size) hA (Nat.ne_of_lt (Nat.lt_succ_of_lt lta)) (Nat.ne_of_lt (Nat.lt_succ_self _)) hp hd fit, ⟨?_, Heap.get?_push_of_some _ (Heap.get?_push_of_some _ ho), Heap.get?_push_of_some _ (Heap.get?_push_size _ rfl)⟩, ?_, v⟩
      · intro b hb
        rcases List.mem_cons.mp hb with rfl | hb
        · exact .inr (by omega)
        · rcases List.mem_cons.mp hb with rfl | hb
          · exact .inl rfl
          · rw [List.mem_singleton.mp hb]
            exact .inr (Nat.le_refl _)
      · have := Heap.get?_push_size (h := s.heap.push (plO ord)) (o := sitO (.ref s.heap.objs.size) 0 a es.size ep) rfl
        rw [Heap.size_push] at this
        exact this
      · rw [List.length_map, ol, len]
    · have hdr := Bool.eq_false_iff.mpr hdr
      rw [hdr, if_neg (by simp)]
      refine wpAny_bind (wpAny_pure ?_)
      refine fin (rawInt 0) s s.heap.objs.size rfl ho (fun _ _ e => e) (Nat.le_refl _) rfl fun h' eh => ?_
      subst eh
      refine ⟨es.toList.map (·.2), [s.heap.objs.size, a], _, ?_, fun A' hA => walk_place hA (Nat.ne_of_lt lta) ht hd fit gd hdr, ⟨Nat.zero_le _, Heap.get?_push_size _ rfl, Heap.get?_push_of_some _ ho⟩, ?_, vals_set hf (List.Perm.refl _)⟩
      · intro b hb
        rcases List.mem_cons.mp hb with rfl | hb
        · exact .inr (Nat.le_refl _)
        · exact .inl (List.mem_singleton.mp hb)
      · rw [List.length_map, Array.length_toList, len]
theorem wp_ite_pos {α : Type} {M : Model} {c : Bool} {X Y : Sem α} {Q : α → Shared → Prop} (h : c = true) (q : wpAny M A X Q E s) : wpAny M A (if c = true then X else Y) Q E s := by
  rw [if_pos h]; exact q
theorem hint_set {Q : Bool → Shared → Prop} (ty : s.TypeIs (.ref a) "set") (q : Q false s) : wpAny (model prog w) A (Builtin.List.listLengthHint (.ref a)) Q E s := by
  have k1 : typeLookup (.type "set") (Str.ofString "__len__") = pure (some (.builtin "set.__len__")) := by kernel_rfl
  have k2 : splitId "set.__len__" = some ("set", "__len__") := by kernel_rfl
  have k3 : isSubtype (.type "set") (.type "set") = pure true := PySem.F.called_set.sub
  unfold Builtin.List.listLengthHint
  refine wpAny_bind (wpAny_specialOf ty k1 ?_)
  dsimp only
  rw [k2]
  refine wpAny_bind (wpAny_isInstance ty k3 ?_)
  rw [if_neg (by decide)]
  refine wp_ite_pos (by kernel_rfl) (wpAny_bind (wpAny_typeOf ty ?_))
  exact wpAny_pure q
theorem ne_list : (Value.type "set" == Value.type "list") = false := by decide
theorem ne_tup : (Value.type "set" == Value.type "tuple") = false := by decide
theorem extend_set {S : Addr} {res : Value} {c₀ : Nat} {R : Result → Shared → Prop} (G : SetG prog w s.heap a ks) (hh : A.handled = none) (hb : ks.length ≤ sizeLine) (hS : S ≠ a) (eS : s.heap.get? S = some { cls := .type "list", data := .seq #[] c₀ })
    (q : ∀ (g : Heap) (tk : Nat) (d : Drawn) (xs : Array Value) (c : Nat), (∀ b o, b ≠ S → s.heap.get? b = some o → g.get? b = some o) → g.get? S = some { cls := .type "list", data := .seq xs c } → (∃ ks', ks'.Perm ks ∧ Paired (IsK prog w) xs.toList ks') → R (.ok (.ret res)) { s with heap := g, toks := tk, drawn := d }) :
    wpAny (model prog w) A.in1 (Builtin.List.listExtendWith (.ref S) (.ref a) res) (fun fin s' => match fin with
      | .done f => R (.ok f) s'
      | .again c' => c'.quiet = true ∧ codeAny (model prog w) A c' R s') (fun e s' => R (.error e) s') s := by
  have ty : s.TypeIs (.ref a) "set" := by
    obtain ⟨o, es, ep, t, ho, hex, _⟩ := G
    exact ⟨o, ho, hex.1⟩
  unfold Builtin.List.listExtendWith
  refine wpAny_bind (wpAny_typeOf ty ?_)
  have sm : Builtin.List.listSameRef (.ref S) (.ref a) = false := by
    unfold Builtin.List.listSameRef
    simpa using hS
  rw [sm, ne_list, ne_tup, if_neg (by decide)]
  refine wpAny_bind (iter_set G hb fun it h1 d vs fp St le kp hf W st len pk => ?_)
  refine wpAny_bind (wpAny_holding (hint_set (s := { s with heap := h1, drawn := d }) ?_ ?_))
  · obtain ⟨o, e, c⟩ := ty
    exact ⟨o, kp _ _ e, c⟩
  have lS : S < s.heap.objs.size := Heap.lt_size eS
  have nS : S ∉ fp := fun hm => by
    rcases hf S hm with z | z
    · exact hS z
    · exact absurd lS (Nat.not_lt.mpr z)
  have hA : A.in1.handled = none := by simpa using hh
  have loop : ∀ (s2 : Shared) (c : Nat), St 0 s2.heap → s2.heap.get? S = some { cls := .type "list", data := .seq #[] c } → (∀ b o, b ≠ S → h1.get? b = some o → s2.heap.get? b = some o) → s2 = { s with heap := s2.heap, drawn := d } →
      codeAny (model prog w) A (.builtin "list.extend.loop" ⟨[.ref S, .ref it, res], []⟩) R s2 := by
    intro s2 c st2 e2 k2 es2
    refine codeAny_extend_loopS (W A.in1 hA).toS hb S nS res ks.length 0 s2 #[] c (by omega) (Nat.zero_le _) st2 e2 (ItemsOf.nil _) fun s' xs c' mv eS' hx => ?_
    have ex : s' = { s with heap := s'.heap, toks := s'.toks, drawn := d } := by
      have h1 := mv.gens
      have h2 := mv.drawn
      have h3 := mv.os
      rw [es2] at h1 h2 h3
      obtain ⟨a1, a2, a3, a4, a5⟩ := s'
      simp only at h1 h2 h3
      subst h1 h2 h3
      rfl
    have vx : xs.toList = vs := by
      refine List.ext_getElem? fun j => ?_
      obtain ⟨sz, at_⟩ := hx
      rw [Array.getElem?_toList]
      by_cases hj : j < xs.size
      · have := at_ j xs[j] (Array.getElem?_eq_getElem hj)
        rw [Array.getElem?_eq_getElem hj, this]
      · rw [Array.getElem?_eq_none (by omega), List.getElem?_eq_none (by omega)]
    rw [ex]
    refine q s'.heap s'.toks d xs c' (fun b o nb e => mv.heap b o ?_ (k2 b o nb (kp b o e))) eS' (by rw [vx]; exact pk)
    intro hm
    rcases List.mem_cons.mp hm with z | z
    · exact nb z
    · have := List.mem_singleton.mp z
      have l2 : b < s.heap.objs.size := Heap.lt_size e
      rw [this] at l2
      exact absurd l2 (Nat.not_lt.mpr le)
  refine wp_ite_pos (by kernel_rfl) (wpAny_bind (wpAny_rule ?_))
  unfold Builtin.List.listTouch
  have u1 := get?_update_seq (c := "list") (kp _ _ eS) (fun x => x.push Value.none)
  have u2 := get?_update_seq (c := "list") u1 (fun x => x.pop)
  refine wpAny_bind (wpAny_bind (listUpdate_at (kp _ _ eS) rfl (listUpdate_at u1 rfl ?_ (by simp [sizeLine_eq]) (by simp)) (by simp) (by simp [sizeLine_eq])))
  obtain ⟨c2, u3⟩ : ∃ c2, ((h1.update S (Obj.mapSeq fun x => x.push Value.none)).update S (Obj.mapSeq fun x => x.pop)).get? S = some { cls := .type "list", data := .seq #[] c2 } := ⟨_, u2⟩
  have k2 : ∀ b o, b ≠ S → h1.get? b = some o → ((h1.update S (Obj.mapSeq fun x => x.push Value.none)).update S (Obj.mapSeq fun x => x.pop)).get? b = some o := fun b o nb e => by
    rw [Heap.get?_update_ne _ _ _ _ nb, Heap.get?_update_ne _ _ _ _ nb]
    exact e
  refine wpAny_pure ⟨plainId_quiet PySem.F.plain_extend_loop _, loop _ c2 ((W A.in1 hA).frame 0 _ _ st fun b hb o e => k2 b o (fun z => nS (by rw [← z]; exact hb)) e) u3 k2 rfl⟩
def ColSet (P : Program) (w : World) (s : Shared) (ks : List Key) (q : Result) (s' : Shared) : Prop :=
  ∃ (g : Heap) (tk c : Nat) (d : Drawn) (xs : Array Value), q = .ok (.ret (.ref s.heap.objs.size)) ∧ s' = { s with heap := g, toks := tk, drawn := d } ∧ (∀ b o, s.heap.get? b = some o → g.get? b = some o) ∧ g.get? s.heap.objs.size = some { cls := .type "list", dict := none, data := .seq xs c, slots := #[] } ∧ (∃ ks', ks'.Perm ks ∧ Paired (IsK P w) xs.toList ks')
theorem collect_set {R : List Value → Shared → Prop} (G : SetG prog w s.heap a ks) (hh : A.handled = none) (hb : ks.length ≤ sizeLine)
    (h : ∀ (g : Heap) (tk : Nat) (d : Drawn) (xs : Array Value), (∀ b o, s.heap.get? b = some o → g.get? b = some o) → s.heap.objs.size < g.objs.size → (∃ ks', ks'.Perm ks ∧ Paired (IsK prog w) xs.toList ks') → R xs.toList { s with heap := g, toks := tk, drawn := d }) : wpAny (model prog w) A (collect (.ref a)) R E s := by
  have lt1 : a < s.heap.objs.size := by
    obtain ⟨o, es, ep, t, ho, _⟩ := G
    exact Heap.lt_size ho
  unfold collect
  refine wpAny_bind (wpAny_runValue (codeAny_builtin entry_proto_collect' ?_)); rw [Around.under_plainId PySem.F.plain_proto_collect _]
  refine wpAny_bind (m := newList []) (wpAny_newObj_type (wpAny_pure ⟨plainId_quiet PySem.F.plain_list_iadd _, codeAny_builtin entry_list_iadd' ?_⟩)); rw [Around.under_plainId PySem.F.plain_list_iadd _]
  have own : (s.heap.push { cls := .type "list", data := .seq ([] : List Value).toArray }).get? s.heap.objs.size = some { cls := .type "list", data := .seq #[] } := Heap.get?_push_size _ rfl
  have run := extend_set (A := A) (s := { s with heap := s.heap.push { cls := .type "list", data := .seq ([] : List Value).toArray } }) (R := ColSet prog w s ks) (setG_keep G fun o e => Heap.get?_push_of_some _ e) hh hb (Nat.ne_of_gt lt1) (res := .ref s.heap.objs.size) own
    (fun g tk d xs c hk hS hx => ⟨g, tk, c, d, xs, rfl, rfl, fun b o e => hk b o (Nat.ne_of_lt (Heap.lt_size e)) (Heap.get?_push_of_some _ e), hS, hx⟩)
  refine wpAny_mono run (fun fin s' y => ?_) (fun _ _ y => by obtain ⟨_, _, _, _, _, e, _⟩ := y; cases e)
  cases fin with
  | done f =>
    obtain ⟨g, tk, c, d, xs, e, rfl, hk, hS, hx⟩ := y
    cases e
    exact wpAny_bind (m := load s.heap.objs.size) (wpAny_load hS (wpAny_pure (h g tk d xs hk (Heap.lt_size hS) hx)))
  | again c1 =>
    refine ⟨y.1, codeAny_mono y.2 fun q s2 z => ?_⟩
    obtain ⟨g, tk, c, d, xs, rfl, rfl, hk, hS, hx⟩ := z
    exact wpAny_bind (m := load s.heap.objs.size) (wpAny_load hS (wpAny_pure (h g tk d xs hk (Heap.lt_size hS) hx)))
end
end L2

namespace L2
open PySem PySem.Spec PyProof.Rows
theorem Inv.drawnAs {X : Cx} {pins : List (Addr × Obj)} {σ : St} {H : Hp} {s : Shared} (I : Inv X pins σ H s) (d : Drawn) : Inv X pins σ H { s with drawn := d } :=
  I.call (h' := s.heap) (g' := s.gens) (t' := s.toks) (d' := d) (ch := []) Un.refl I.hok I.bare (fun _ z => nomatch z)
theorem paired_ints {P : Program} {w : World} : ∀ {vs : List Value} {ks : List Key}, Paired (IsK P w) vs ks → (∀ k ∈ ks, ∃ z, k = Sum.inl z) → ∃ ns : List Int, ks = ns.map Sum.inl ∧ IntsAre vs ns
  | _, _, .nil, _ => ⟨[], rfl, .nil⟩
  | _, _, .cons f r, h => by
    obtain ⟨z, rfl⟩ := h _ (.head _)
    obtain ⟨ns, rfl, q⟩ := paired_ints r fun k hk => h k (.tail _ hk)
    obtain ⟨t, rfl⟩ := kV_rel f
    exact ⟨z :: ns, rfl, .cons z t q⟩
theorem perm_inl {xs ys : List Int} (h : (xs.map (Sum.inl : Int → Key)).Perm (ys.map Sum.inl)) : xs.Perm ys := by
  have := h.filterMap Sum.getLeft?
  rw [List.filterMap_map, List.filterMap_map] at this
  simpa [Function.comp_def] using this
section
variable {X : Cx}
/-- sorted(s) of a set of texts -/
def rSortSS (P : Program) (w : World) : List V → Hp → VK → Prop := fun xs H Q => ∃ (d : Addr) (zs : List Str), xs = [.ref d] ∧ H d = some (keySet P w d (zs.map Sum.inr)) ∧ zs.length < 64 ∧ ∀ p, H p = none → Q (.ref p) (upd H p (.lst ((srtS zs).map V.str)))
/-- sorted(s) of a set of ints -/
def rSortSI (P : Program) (w : World) : List V → Hp → VK → Prop := fun xs H Q => ∃ (d : Addr) (ns : List Int), xs = [.ref d] ∧ H d = some (keySet P w d (ns.map Sum.inl)) ∧ ns.length < 64 ∧ ∀ p, H p = none → Q (.ref p) (upd H p (.lst ((srtI ns).map V.int)))
theorem call_sortSI (hc : X.calm = true) : CallR X (.builtin "sorted") (rSortSI X.prog X.w) := by
  intro pins s σ H xs us Q I rx h
  obtain ⟨d, ns, rfl, hd, h64, q⟩ := h
  obtain ⟨u, rfl, ru⟩ := vals1 rx
  cases ru
  have G : SetG X.prog X.w s.heap d (ns.map Sum.inl) := (I.hok d _ hd).1
  have hh : X.A.in1.handled = none := by simpa using I.ok.hd hc
  refine Calls.call_function_entry kind_sorted plain_sorted entry_sorted (args_sorted1 _) ?_
  unfold Builtin.«sorted»
  refine wpAny_bind (m := checkCount "sorted" 1 1 _) (wpAny_pure ?_)
  refine wpAny_bind (collect_set (A := X.A.in1) G hh (small_le (by rw [List.length_map]; omega)) fun g tk dr acc hk hsz hacc => ?_)
  obtain ⟨ks', pk, pr⟩ := hacc
  obtain ⟨ns', rfl, hS⟩ := paired_ints pr fun k hk => by
    obtain ⟨z, _, rfl⟩ := List.mem_map.mp (pk.mem_iff.mp hk)
    exact ⟨z, rfl⟩
  have pz := perm_inl pk
  have al : acc.toList.length = ns.length := by
    have e1 := Paired.length pr
    rw [List.length_map] at e1
    rw [e1, pz.length_eq]
  refine wpAny_bind (wpAny_newList ?_ (by exact small_le (by omega)))
  have hoL : (g.push (seqObj "list" acc.toList.toArray 0)).get? g.objs.size = some (seqObj "list" acc.toList.toArray 0) := Heap.get?_push_size _ rfl
  refine wpAny_bind (wpAny_holding (wpAny_call_entry slot_list_sort ⟨_, hoL, rfl⟩ entry_list_sort (list_sort_tree hoL hS (by omega) fun out ms a1 a2 a3 => ⟨_, rfl, ?_⟩) (args_list_sort _)))
  refine wpAny_pure ⟨_, rfl, ?_⟩
  have ess := srtI_of (a2.trans pz) a3
  subst ess
  obtain ⟨e2, he2⟩ := sortedHeap_at (vs := acc.toList) (out := out) hoL
  have hz : s.heap.objs.size ≤ g.objs.size := Nat.le_of_lt hsz
  refine ⟨.ref g.objs.size, _, (I.drawnAs dr).laid (t' := tk) (o := .lst ((srtI ns).map V.int)) (fun b o e => ?_) hz ?_, rfl, q _ (I.hok.fresh hz)⟩
  · have e' := hk b o e
    have hlt := Heap.lt_size e'
    rw [sortedHeap_old (Nat.ne_of_lt hlt) (by rw [size_push']; exact Nat.lt_succ_of_lt hlt)]
    exact Heap.get?_push_of_some _ e'
  · refine ⟨?_, out.toList, e2, vals_ints a1, by rw [Array.toArray_toList]; exact he2⟩
    rw [List.length_map, (srtI_perm ns).length_eq]
    exact small_le (by omega)
end
/-! ### the distinct ones of a list -/
def uniS (zs : List Str) : List Str := (ddK [] (zs.map Sum.inr)).filterMap Sum.getRight?
def uniI (ns : List Int) : List Int := (ddK [] (ns.map Sum.inl)).filterMap Sum.getLeft?
theorem ddK_inl (ns : List Int) : ddK [] (ns.map Sum.inl) = (uniI ns).map Sum.inl := by
  have h : ∀ k ∈ ddK [] (ns.map (Sum.inl : Int → Key)), ∃ z, k = Sum.inl z := fun k hk => by
    rcases (ddK_mem _ _ _).mp hk with q | q
    · exact nomatch q
    · obtain ⟨z, _, rfl⟩ := List.mem_map.mp q
      exact ⟨z, rfl⟩
  unfold uniI
  generalize ddK [] (ns.map (Sum.inl : Int → Key)) = l at h ⊢
  induction l with
  | nil => rfl
  | cons k l ih =>
    obtain ⟨z, rfl⟩ := h k (.head _)
    rw [List.filterMap_cons]
    show Sum.inl z :: l = Sum.inl z :: _
    rw [← ih fun k hk => h k (.tail _ hk)]
theorem uniI_mem {ns : List Int} {z : Int} : z ∈ uniI ns ↔ z ∈ ns := by
  have h := ddK_mem (ns.map Sum.inl) [] (Sum.inl z : Key)
  rw [ddK_inl, List.mem_map, List.mem_map] at h
  constructor
  · intro q
    rcases h.mp ⟨z, q, rfl⟩ with e | ⟨y, hy, e⟩
    · exact nomatch e
    · cases e; exact hy
  · intro q
    obtain ⟨y, hy, e⟩ := h.mpr (.inr ⟨z, q, rfl⟩)
    cases e; exact hy
theorem uniI_len (ns : List Int) : (uniI ns).length ≤ ns.length := by
  have h := ddK_len (ns.map (Sum.inl : Int → Key)) []
  rw [ddK_inl, List.length_map, List.length_map, List.length_nil] at h
  omega
section
variable {X : Cx}
theorem call_setN (hc : X.calm = true) : CallR X (.type "set") (fun xs H Q => ∃ (p : Addr) (ns : List Int), xs = [.ref p] ∧ SqL X.K H p (ns.map V.int) ∧ ns.length < 4000 ∧ ∀ a, H a = none → Q (.ref a) (upd H a (keySet X.prog X.w a ((uniI ns).map Sum.inl)))) := by
  intro pins s σ H xs us Q I r h
  obtain ⟨p, ns, rfl, hq, hz, q⟩ := h
  refine call_setK hc pins s σ H _ us Q I r ⟨p, ns.map Sum.inl, rfl, ?_, by rw [List.length_map]; exact hz, fun a na => ?_⟩
  · rw [List.map_map]; exact hq
  · rw [ddK_inl]; exact q a na
end
end L2

namespace L2
open PySem PySem.Spec PyProof.Rows
section
variable {prog : Program} {w : World} {A : Around} {E : Value → Shared → Prop} {s : Shared}
end
/-- a range object from 0 on -/
def rngO (a : Addr) (n : Int) : HO := .ext fun h => ∃ t u v, IsRange h a 0 n 1 t u v
section
variable {X : Cx}
/-- t + u of two tracked tuples, whichever is empty -/
def rCatG : R2 := fun x y H Q => ∃ a b xs ys, x = .ref a ∧ y = .ref b ∧ H a = some (.tup xs) ∧ H b = some (.tup ys) ∧ xs.length + ys.length ≤ 1000000 ∧ ∀ (c : Addr) (H' : Hp), Same H H' → H' c = some (.tup (xs ++ ys)) → Q (.ref c) H'
end
end L2

namespace L2
open PySem PySem.Spec PyProof.Rows
section
variable {X : Cx} {pins : List (Addr × Obj)} {σ : St} {H : Hp} {s : Shared}
/-- d.values(), the dict frozen or not -/
def rViewR (w : Addr → Addr → HO) : V → List V → Hp → VK → Prop := fun x vs H Q => ∃ d kvs, x = .ref d ∧ vs = [] ∧ Rd H d (.dK kvs) ∧ ∀ a, H a = none → Q (.ref a) (upd H a (w a d))
def tVals (to : TE) : TE := fun σ H Q => to σ H fun x H1 => ∃ d kvs, x = .ref d ∧ Rd H1 d (.dK kvs) ∧ ∀ a, H1 a = none → Q (.ref a) (upd H1 a (vView a d))
/-! ### the values of a dict, walked -/
def Itv (d : Addr) (kvs : List (Key × V)) (o : Obj) : It := ⟨fun i H => i < kvs.length ∧ H d = some (.frz o (.dK kvs)), fun i H x H' => H' = H ∧ ∃ p, kvs[i]? = some p ∧ x = p.2, fun i H => kvs.length ≤ i ∧ H d = some (.frz o (.dK kvs))⟩
def iVals (tl : TE) : TI := fun σ H R => tl σ H fun x H1 => ∃ (v d : Addr) (o : Obj) (kvs : List (Key × V)), x = .ref v ∧ H1 v = some (vView v d) ∧ H1 d = some (.frz o (.dK kvs)) ∧ R (Itv d kvs o) H1
/-- sorted(d.values()) -/
def rSortV : List V → Hp → VK → Prop := fun xs H Q => ∃ (v d : Addr) (kvs : List (Key × V)) (ns : List Int), xs = [.ref v] ∧ H v = some (vView v d) ∧ H d = some (.dK kvs) ∧ kvs.map (·.2) = ns.map V.int ∧ ns.length < 64 ∧ ∀ p, H p = none → Q (.ref p) (upd H p (.lst ((srtI ns).map V.int)))
end
end L2

namespace L2
open PySem PySem.Spec PyProof.Rows
/-! ### bunches of a merging -/
abbrev Bn := List Str × Int
def bnD (b : Bn) : PyData := .tuple [.tuple (b.1.map PyData.str), .int b.2]
def papD (bs : List Bn) : PyData := .list (bs.map bnD)
def lvls (room : Int) (ps qs : Ps) : List Int := srtI (uniI ((keysM ps qs).map fun z => min (sumM ps qs z) (cutT room ps qs)))
def marksAt (ps qs : Ps) (v : Int) : List Str := (srtS (keysM ps qs)).filter fun z => decide (v ≤ sumM ps qs z)
def bunI (ps qs : Ps) (l : List Int) (i : Nat) : Bn := (marksAt ps qs (l.getD i 0), l.getD i 0 - (0 :: l).getD i 0)
def bunL (ps qs : Ps) (l : List Int) (n : Nat) : List Bn := (List.range n).map (bunI ps qs l)
def bunsT (a b : Ty) : List Bn := if cutT a.room a.cs b.cs = 0 then [] else bunL a.cs b.cs (lvls a.room a.cs b.cs) (lvls a.room a.cs b.cs).length
def BnW (b : Bn) : Prop := (∀ z ∈ b.1, z ∈ words) ∧ b.1.length ≤ 40
/-- bunches laid in the heap -/
inductive BnsAt (H : Hp) : List V → List Bn → Prop
  | nil : BnsAt H [] []
  | cons {a c : Addr} {xs : List V} {b : Bn} {bs : List Bn} (h : H a = some (.tup [.ref c, .int b.2])) (e : H c = some (.tup (b.1.map V.str))) (r : BnsAt H xs bs) : BnsAt H (.ref a :: xs) (b :: bs)
theorem BnsAt.mono {H H' : Hp} (g : Same H H') : ∀ {xs : List V} {bs : List Bn}, BnsAt H xs bs → BnsAt H' xs bs
  | _, _, .nil => .nil
  | _, _, .cons h e r => .cons (g _ _ h) (g _ _ e) (r.mono g)
theorem BnsAt.append {H : Hp} : ∀ {xs ys : List V} {bs cs : List Bn}, BnsAt H xs bs → BnsAt H ys cs → BnsAt H (xs ++ ys) (bs ++ cs)
  | _, _, _, _, .nil, s => s
  | _, _, _, _, .cons h e r, s => .cons h e (r.append s)
theorem BnsAt.length {H : Hp} : ∀ {xs : List V} {bs : List Bn}, BnsAt H xs bs → xs.length = bs.length
  | _, _, .nil => rfl
  | _, _, .cons _ _ r => congrArg (· + 1) r.length
theorem strs_dvs {H : Hp} : ∀ zs : List Str, DVs H (zs.map V.str) (zs.map PyData.str)
  | [] => .nil
  | z :: zs => .cons (.str z) (strs_dvs zs)
theorem BnsAt.dvs {H : Hp} : ∀ {xs : List V} {bs : List Bn}, BnsAt H xs bs → DVs H xs (bs.map bnD)
  | _, _, .nil => .nil
  | _, _, .cons (b := b) h e r => .cons (.tup h (.cons (.tup e (strs_dvs b.1)) (.cons (.int _) .nil))) r.dvs
theorem BnsAt.get {H : Hp} : ∀ {xs : List V} {bs : List Bn}, BnsAt H xs bs → ∀ {i : Nat} {x : V}, xs[i]? = some x → ∃ (a c : Addr) (b : Bn), x = .ref a ∧ bs[i]? = some b ∧ H a = some (.tup [.ref c, .int b.2]) ∧ H c = some (.tup (b.1.map V.str))
  | _, _, .nil, i, x, hx => by simp at hx
  | _, _, .cons (a := a) (c := c) (b := b) h e r, 0, x, hx => by
    have : V.ref a = x := by simpa using hx
    subst this
    exact ⟨a, c, b, rfl, rfl, h, e⟩
  | _, _, .cons h e r, i + 1, x, hx => by
    obtain ⟨a, c, b, h1, h2, h3, h4⟩ := r.get (i := i) (x := x) (by simpa using hx)
    exact ⟨a, c, b, h1, by simpa using h2, h3, h4⟩
/-- a paper at p -/
def PapAt (H : Hp) (p : Addr) (bs : List Bn) : Prop := ∃ xs, H p = some (.lst xs) ∧ BnsAt H xs bs
theorem PapAt.mono {H H' : Hp} {p : Addr} {bs : List Bn} (h : PapAt H p bs) (g : Same H H') : PapAt H' p bs := by
  obtain ⟨xs, e, r⟩ := h
  exact ⟨xs, g _ _ e, r.mono g⟩
theorem PapAt.dv {H : Hp} {p : Addr} {bs : List Bn} (h : PapAt H p bs) : DV H (.ref p) (papD bs) := by
  obtain ⟨xs, e, r⟩ := h
  exact .lst e r.dvs
end L2

namespace L2
open PySem PySem.Spec PyProof.Rows
/-- tuples of plain values, laid one by one -/
inductive TpsAt (H : Hp) : List V → List (List V) → Prop
  | nil : TpsAt H [] []
  | cons {a : Addr} {xs row : List V} {rows : List (List V)} (h : H a = some (.tup row)) (r : TpsAt H xs rows) : TpsAt H (.ref a :: xs) (row :: rows)
theorem TpsAt.mono {H H' : Hp} (g : Same H H') : ∀ {xs : List V} {bs : List (List V)}, TpsAt H xs bs → TpsAt H' xs bs
  | _, _, .nil => .nil
  | _, _, .cons h r => .cons (g _ _ h) (r.mono g)
theorem TpsAt.append {H : Hp} : ∀ {xs ys : List V} {bs cs : List (List V)}, TpsAt H xs bs → TpsAt H ys cs → TpsAt H (xs ++ ys) (bs ++ cs)
  | _, _, _, _, .nil, s => s
  | _, _, _, _, .cons h r, s => .cons h (r.append s)
theorem TpsAt.length {H : Hp} : ∀ {xs : List V} {bs : List (List V)}, TpsAt H xs bs → xs.length = bs.length
  | _, _, .nil => rfl
  | _, _, .cons _ r => congrArg (· + 1) r.length
theorem TpsAt.get {H : Hp} : ∀ {xs : List V} {bs : List (List V)}, TpsAt H xs bs → ∀ {i : Nat} {x : V}, xs[i]? = some x → ∃ (a : Addr) (b : List V), x = .ref a ∧ bs[i]? = some b ∧ H a = some (.tup b)
  | _, _, .nil, i, x, hx => by simp at hx
  | _, _, .cons (a := a) (row := b) h r, 0, x, hx => by
    have : V.ref a = x := by simpa using hx
    subst this
    exact ⟨a, b, rfl, rfl, h⟩
  | _, _, .cons h r, i + 1, x, hx => by
    obtain ⟨a, b, h1, h2, h3⟩ := r.get (i := i) (x := x) (by simpa using hx)
    exact ⟨a, b, h1, by simpa using h2, h3⟩
theorem TpsAt.dvs {α : Type} {H : Hp} {f : α → List V} {g : α → List PyData} (hg : ∀ k, DVs H (f k) (g k)) : ∀ {ks : List α} {xs : List V}, TpsAt H xs (ks.map f) → DVs H xs (ks.map fun k => .tuple (g k))
  | [], xs, h => by cases h; exact .nil
  | k :: ks, xs, h => by
    rw [List.map_cons] at h
    cases h with
    | cons h r => exact .cons (.tup h (hg k)) (TpsAt.dvs hg r)
/-! ### comprehensions over such rows -/
section
variable {α : Type} {K : PySem.W.Frag} {a : Addr} {xs : List V} {ks : List α} {k : Nat} {g : TG} {tt : TT} {te : TE} {σ : St} {H : Hp} {Q : VK}
end
/-! ### nets and cells -/
structure Kn where
  mark : Str
  row : Int
  col : Int
def Kn.vs (k : Kn) : List V := [.str k.mark, .int k.row, .int k.col]
def Kn.D (k : Kn) : PyData := .tuple [.str k.mark, .int k.row, .int k.col]
def NetAt (H : Hp) (a : Addr) (ks : List Kn) : Prop := ∃ xs, H a = some (.tup xs) ∧ TpsAt H xs (ks.map Kn.vs)
theorem NetAt.mono {H H' : Hp} {a : Addr} {ks : List Kn} (h : NetAt H a ks) (g : Same H H') : NetAt H' a ks := by
  obtain ⟨xs, e, r⟩ := h
  exact ⟨xs, g _ _ e, r.mono g⟩
theorem NetAt.dv {H : Hp} {a : Addr} {ks : List Kn} (h : NetAt H a ks) : DV H (.ref a) (.tuple (ks.map Kn.D)) := by
  obtain ⟨xs, e, r⟩ := h
  exact .tup e (r.dvs (g := fun k : Kn => [PyData.str k.mark, .int k.row, .int k.col]) fun k => .cons (.str _) (.cons (.int _) (.cons (.int _) .nil)))
/-- of one to eight small letters -/
structure Mrk (z : Str) : Prop where
  lo : 1 ≤ z.cps.size
  hi : z.cps.size ≤ 8
  ab : ∀ c ∈ z.cps.toList, 97 ≤ c ∧ c ≤ 122
theorem Mrk.ok {z : Str} (h : Mrk z) : PyData.strOk z = true := strOk_of fun c hc => by
  have := (h.ab c hc).2
  omega
structure NetOk (ks : List Kn) : Prop where
  mw : ∀ k ∈ ks, Mrk k.mark
  row : ∀ k ∈ ks, 0 ≤ k.row ∧ k.row ≤ 30
  col : ∀ k ∈ ks, 0 ≤ k.col ∧ k.col ≤ 30
  len : ks.length ≤ 60
  nd : (ks.map Kn.mark).Nodup
  rise : (ks.map Kn.mark).Pairwise (fun a b => leS a b = true)
def CelAt (H : Hp) (c : Addr) (rs cs : List Int) : Prop := ∃ a b, H c = some (.tup [.ref a, .ref b]) ∧ H a = some (.tup (rs.map V.int)) ∧ H b = some (.tup (cs.map V.int))
theorem CelAt.mono {H H' : Hp} {c : Addr} {rs cs : List Int} (h : CelAt H c rs cs) (g : Same H H') : CelAt H' c rs cs := by
  obtain ⟨a, b, e, f, i⟩ := h
  exact ⟨a, b, g _ _ e, g _ _ f, g _ _ i⟩
def celD (rs cs : List Int) : PyData := .tuple [.tuple (rs.map PyData.int), .tuple (cs.map PyData.int)]
theorem CelAt.dv {H : Hp} {c : Addr} {rs cs : List Int} (h : CelAt H c rs cs) : DV H (.ref c) (celD rs cs) := by
  obtain ⟨a, b, e, f, i⟩ := h
  exact .tup e (.cons (.tup f (dvs_ints rs)) (.cons (.tup i (dvs_ints cs)) .nil))
/-! ### rising lists -/
def Asc (ns : List Int) : Prop := ns.Pairwise (· < ·)
def uni (ns : List Int) : List Int := srtI (uniI ns)
end L2

namespace L2
open PySem PySem.Spec PyProof.Rows PySem.Builtin PySem.Builtin.Str
/-- of small letters -/
def Ltr (z : Str) : Prop := ∀ c ∈ z.cps.toList, 97 ≤ c ∧ c ≤ 122
def abc : Str := "abcdefghijklmnopqrstuvwxyz"
theorem Ltr.one {c : Nat} (h : 97 ≤ c ∧ c ≤ 122) : Ltr ⟨#[c]⟩ := fun d hd => by
  have : d = c := by simpa using hd
  rw [this]; exact h
theorem Ltr.slice {z : Str} (h : Ltr z) (l u : Option Int) : Ltr (Txt.slice z l u) := fun c hc => by
  unfold Txt.slice at hc
  split at hc
  · exact h c hc
  · obtain ⟨i, _, hi⟩ := List.mem_filterMap.mp hc
    exact h c (Array.mem_def.mp (Array.mem_of_getElem? hi))
theorem Ltr.ok {z : Str} (h : Ltr z) : PyData.strOk z = true := strOk_of fun c hc => by
  have := (h c hc).2
  omega
/-! ### a list of one's own that is filled beside a pen -/
theorem PenAt.put {H : Hp} {a l : Addr} {o : HO} (h : PenAt H a) (n : l ≠ a) : PenAt (upd H l o) a := by
  obtain ⟨p, q, r, e⟩ := h
  exact ⟨p, q, r, by rw [upd_ne (Ne.symm n)]; exact e⟩
theorem grw_put {H H' : Hp} {a l : Addr} {o : HO} (g : Grw a H H') (n : hide a H l = none) : Grw a H (upd H' l o) := fun b u e => by
  have hb : b ≠ l := fun q => by rw [q, n] at e; cases e
  have e2 := g b u e
  obtain ⟨h1, h2⟩ := hide_some e2
  rw [hide_ne h1, upd_ne hb]
  exact h2
theorem TpsAt.updL {H : Hp} {l : Addr} {ys : List V} {o : HO} (e : H l = some (.lst ys)) : ∀ {xs : List V} {rows : List (List V)}, TpsAt H xs rows → TpsAt (upd H l o) xs rows
  | _, _, .nil => .nil
  | _, _, .cons (a := a) h r => .cons (by
    have ne : a ≠ l := fun q => by rw [q, e] at h; cases h
    rw [upd_ne ne]; exact h) (r.updL e)
theorem NetAt.updL {H : Hp} {l n : Addr} {ys : List V} {o : HO} {ks : List Kn} (h : NetAt H n ks) (e : H l = some (.lst ys)) : NetAt (upd H l o) n ks := by
  obtain ⟨xs, en, tn⟩ := h
  have ne : n ≠ l := fun q => by rw [q, e] at en; cases en
  exact ⟨xs, by rw [upd_ne ne]; exact en, tn.updL e⟩
theorem hide_put {H : Hp} {a l : Addr} {o : HO} (n : l ≠ a) : hide a (upd H l o) l = some o := by rw [hide_ne n]; exact upd_same
/-- a stream's things at r -/
def StAt (H : Hp) (r : Addr) (ts : List Th) : Prop := ∃ xs, H r = some (.lst xs) ∧ TpsAt H xs (ts.map Th.vs)
theorem StAt.mono {H H' : Hp} {r : Addr} {ts : List Th} (h : StAt H r ts) (g : Same H H') : StAt H' r ts := by
  obtain ⟨xs, e, t⟩ := h
  exact ⟨xs, g _ _ e, t.mono g⟩
theorem StAt.dv {H : Hp} {r : Addr} {ts : List Th} (h : StAt H r ts) : DV H (.ref r) (.list (ts.map Th.D)) := by
  obtain ⟨xs, e, t⟩ := h
  exact .lst e (t.dvs (g := fun t : Th => [PyData.int t.day, .str t.word, .int t.num, .int t.many]) fun k => .cons (.int _) (.cons (.str _) (.cons (.int _) (.cons (.int _) .nil))))
/-- the cells that a stream meets -/
def metP (ts : List Th) (k : Kn) : Bool := decide (k.mark ∈ ts.map Th.word)
def metR (ks : List Kn) (ts : List Th) : List Int := uni ((ks.filter (metP ts)).map Kn.row)
def metC (ks : List Kn) (ts : List Th) : List Int := uni ((ks.filter (metP ts)).map Kn.col)
structure CelOk (rs cs : List Int) : Prop where
  r : Asc rs
  c : Asc cs
  rl : rs.length ≤ 62
  cl : cs.length ≤ 62
theorem Asc.sub {a b : List Int} (h : Asc b) (s : a.Sublist b) : Asc a := List.Pairwise.sublist s h
theorem CelAt.updL {H : Hp} {l n : Addr} {ys : List V} {o : HO} {rs cs : List Int} (h : CelAt H n rs cs) (e : H l = some (.lst ys)) : CelAt (upd H l o) n rs cs := by
  obtain ⟨a, b, e1, e2, e3⟩ := h
  have f : ∀ {x : Addr} {zs : List V}, H x = some (.tup zs) → upd H l o x = some (.tup zs) := fun {x zs} q => by
    have ne : x ≠ l := fun z => by rw [z, e] at q; cases q
    rw [upd_ne ne]; exact q
  exact ⟨a, b, f e1, f e2, f e3⟩
inductive CelsAt (H : Hp) : List V → List (List Int × List Int) → Prop
  | nil : CelsAt H [] []
  | cons {a : Addr} {xs : List V} {c : List Int × List Int} {cs : List (List Int × List Int)} (h : CelAt H a c.1 c.2) (r : CelsAt H xs cs) : CelsAt H (.ref a :: xs) (c :: cs)
theorem CelsAt.mono {H H' : Hp} (g : Same H H') : ∀ {xs : List V} {cs : List (List Int × List Int)}, CelsAt H xs cs → CelsAt H' xs cs
  | _, _, .nil => .nil
  | _, _, .cons h r => .cons (h.mono g) (r.mono g)
theorem CelsAt.append {H : Hp} : ∀ {xs ys : List V} {bs cs : List (List Int × List Int)}, CelsAt H xs bs → CelsAt H ys cs → CelsAt H (xs ++ ys) (bs ++ cs)
  | _, _, _, _, .nil, s => s
  | _, _, _, _, .cons h r, s => .cons h (r.append s)
theorem CelsAt.length {H : Hp} : ∀ {xs : List V} {bs : List (List Int × List Int)}, CelsAt H xs bs → xs.length = bs.length
  | _, _, .nil => rfl
  | _, _, .cons _ r => congrArg (· + 1) r.length
theorem CelsAt.get {H : Hp} : ∀ {xs : List V} {bs : List (List Int × List Int)}, CelsAt H xs bs → ∀ {i : Nat} {x : V}, xs[i]? = some x → ∃ (a : Addr) (b : List Int × List Int), x = .ref a ∧ b ∈ bs ∧ CelAt H a b.1 b.2
  | _, _, .nil, i, x, hx => by simp at hx
  | _, _, .cons (a := a) (c := b) h r, 0, x, hx => by
    have : V.ref a = x := by simpa using hx
    subst this
    exact ⟨a, b, rfl, .head _, h⟩
  | _, _, .cons h r, i + 1, x, hx => by
    obtain ⟨a, b, h1, h2, h3⟩ := r.get (i := i) (x := x) (by simpa using hx)
    exact ⟨a, b, h1, .tail _ h2, h3⟩
theorem CelsAt.updL {H : Hp} {l : Addr} {ys : List V} {o : HO} (e : H l = some (.lst ys)) : ∀ {xs : List V} {cs : List (List Int × List Int)}, CelsAt H xs cs → CelsAt (upd H l o) xs cs
  | _, _, .nil => .nil
  | _, _, .cons h r => .cons (h.updL e) (r.updL e)
theorem CelsAt.atI {H : Hp} {xs : List V} {cs : List (List Int × List Int)} (h : CelsAt H xs cs) {i : Int} (h0 : 0 ≤ i) (h1 : i < cs.length) : ∃ (a : Addr) (b : List Int × List Int), L2.atI xs i = some (.ref a) ∧ b ∈ cs ∧ CelAt H a b.1 b.2 := by
  obtain ⟨v, hv, mv⟩ := atI_in (xs := xs) h0 (by rw [h.length]; exact h1)
  obtain ⟨j, hj⟩ := List.mem_iff_getElem?.mp mv
  obtain ⟨a, b, rfl, q1, q2⟩ := h.get hj
  exact ⟨a, b, hv, q1, q2⟩
end L2

namespace HT
open PySem PySem.Spec PyProof.Rows
section
variable {prog : Program} {w : World} {A : Around} {E : Value → Shared → Prop} {s : Shared}
end
end HT
namespace L2
open PySem PySem.Spec PyProof.Rows
section
variable {X : Cx}
/-- t[lo:hi] of a tracked tuple, the whole of it too -/
def rSlG : V → Option Int → Option Int → Hp → VK → Prop := fun x lo hi H Q => ∃ a xs, x = .ref a ∧ H a = some (.tup xs) ∧ ∀ (c : Addr) (H' : Hp), Same H H' → H' c = some (.tup (cutV xs lo hi)) → Q (.ref c) H'
end
end L2

namespace L2
open PySem PySem.Spec PyProof.Rows
section
variable {X : Cx}
end
end L2

namespace L2
open PySem PySem.Spec PyProof.Rows
/-- what stands while things are dealt -/
structure DF (a l d : Addr) (fz : HO) (Hf : Hp) (xs : List V) (ts : List Th) (H' : Hp) : Prop where
  el : hide a H' l = some (.lst xs)
  tl : TpsAt (hide a H') xs (ts.map Th.vs)
  ed : hide a H' d = some fz
  hp : PenAt H' a
  gg : Grw a Hf H'
section
variable {a l d : Addr} {fz : HO} {Hf H' H'' : Hp} {xs : List V} {ts : List Th}
theorem DF.step (f : DF a l d fz Hf xs ts H') (g : Grw a H' H'') (hp : PenAt H'' a) : DF a l d fz Hf xs ts H'' := ⟨g _ _ f.el, f.tl.mono g, g _ _ f.ed, hp, f.gg.trans g⟩
theorem DF.putS {xs' : List V} {ts' : List Th} (f : DF a l d fz Hf xs ts H') (t : TpsAt (hide a H') xs' (ts'.map Th.vs)) (nd : l ≠ d) (nf : hide a Hf l = none) : DF a l d fz Hf xs' ts' (upd H' l (.lst xs')) := by
  have n := (hide_some f.el).1
  refine ⟨hide_put n, ?_, ?_, f.hp.put n, grw_put f.gg nf⟩
  · rw [hide_upd n]; exact t.updL f.el
  · rw [hide_upd n, upd_ne (Ne.symm nd)]; exact f.ed
end
theorem TpsAt.ins {H : Hp} {xs : List V} {rows : List (List V)} (h : TpsAt H xs rows) {t : Addr} {row : List V} (e : H t = some (.tup row)) (i : Nat) : TpsAt H (xs.take i ++ .ref t :: xs.drop i) (rows.take i ++ row :: rows.drop i) := by
  have tk : ∀ {xs : List V} {rows : List (List V)} (i : Nat), TpsAt H xs rows → TpsAt H (xs.take i) (rows.take i) ∧ TpsAt H (xs.drop i) (rows.drop i) := by
    intro xs rows i h
    induction h generalizing i with
    | nil => cases i <;> exact ⟨.nil, .nil⟩
    | cons h r ih =>
      cases i with
      | zero => exact ⟨.nil, .cons h r⟩
      | succ i => exact ⟨.cons h (ih i).1, (ih i).2⟩
  obtain ⟨h1, h2⟩ := tk i h
  exact h1.append (.cons e h2)
end L2

namespace HT
open PySem PySem.Spec PyProof.Rows
section
variable {prog : Program} {w : World} {A : Around} {E : Value → Shared → Prop} {s : Shared}
end
end HT
namespace L2
open PySem PySem.Spec PyProof.Rows
section
variable {X : Cx}
/-- t[::-1] of a tuple -/
def tRevT (K : PySem.W.Frag) (te ts : TE) : TE := fun σ H Q => te σ H fun x H1 => ts σ H1 fun y H2 => ∃ (a : Addr) (xs : List V), x = .ref a ∧ y = .int (-1) ∧ SqT K H2 a xs ∧ ∀ p, H2 p = none → Q (.ref p) (upd H2 p (.tup xs.reverse))
end
end L2

namespace L2
open PySem PySem.Spec PyProof.Rows
/-! ### sorting by a comparison that leans on the heap (fewer than 64 things) -/
/-- keys are compared as told, here -/
def CmpAt (prog : Program) (w : World) (A : Around) (s : Shared) (κ : KeyKind) (kd : SortKind) : Prop :=
  ∀ (E : Value → Shared → Prop) (x y : Value) (a b : κ.α) (Q : Bool → Shared → Prop), κ.keyOf x = some a → κ.keyOf y = some b → Q (κ.blt a b) s → wpAny (model prog w) A (keyLt' kd x y) Q E s
structure Sst (kd : SortKind) (xs0 : Array Keyed) (st : SortSt) : Prop where
  pm : (arrOf st).Perm xs0
  kn : kindOf st = kd
  pd : pendingOf st = #[]
  fl : failedOf st = none
def Rz (κ : KeyKind) (xs : Array Keyed) (n : Nat) : Prop := ∀ i j, i ≤ j → j < n → κ.blt (KK κ xs j) (KK κ xs i) = false
def Fz (κ : KeyKind) (xs : Array Keyed) (n : Nat) : Prop := ∀ i j, i ≤ j → j < n → κ.blt (KK κ xs i) (KK κ xs j) = false
section
variable {prog : Program} {w : World} {A : Around} {E : Value → Shared → Prop} {s : Shared} {κ : KeyKind} {kd : SortKind} {xs0 : Array Keyed} {st : SortSt}
theorem Sst.sz (b : Sst kd xs0 st) : (arrOf st).size = xs0.size := b.pm.size_eq
theorem Sst.put (b : Sst kd xs0 st) {ys : Array Keyed} (p : ys.Perm (arrOf st)) : Sst kd xs0 (setArr st ys) := ⟨p.trans b.pm, b.kn, b.pd, b.fl⟩
theorem ltF {a b c : κ.α} (h : κ.blt b a = false) (g : κ.blt c b = false) : κ.blt c a = false := by
  rcases e : κ.blt c a with _ | _
  · rfl
  · rcases κ.negTrans c b a e with q | q
    · rw [g] at q; exact q.symm
    · rw [h] at q; exact q.symm
theorem ltA {a b : κ.α} (h : κ.blt a b = true) : κ.blt b a = false := by
  rcases e : κ.blt b a with _ | _
  · rfl
  · have q := κ.trans a b a h e
    rw [κ.irrefl] at q
    exact q.symm
theorem Rz.snoc {xs : Array Keyed} {m : Nat} (r : Rz κ xs m) (h1 : 1 ≤ m) (h : κ.blt (KK κ xs m) (KK κ xs (m - 1)) = false) : Rz κ xs (m + 1) := by
  intro i j hij hj
  rcases Nat.lt_or_ge j m with l | l
  · exact r i j hij l
  obtain rfl : j = m := by omega
  rcases Nat.lt_or_ge i j with l2 | l2
  · exact ltF (r i (j - 1) (by omega) (by omega)) h
  · obtain rfl : i = j := by omega
    exact κ.irrefl _
theorem Fz.snoc {xs : Array Keyed} {m : Nat} (r : Fz κ xs m) (h1 : 1 ≤ m) (h : κ.blt (KK κ xs (m - 1)) (KK κ xs m) = false) : Fz κ xs (m + 1) := by
  intro i j hij hj
  rcases Nat.lt_or_ge j m with l | l
  · exact r i j hij l
  obtain rfl : j = m := by omega
  rcases Nat.lt_or_ge i j with l2 | l2
  · exact ltF h (r i (j - 1) (by omega) (by omega))
  · obtain rfl : i = j := by omega
    exact κ.irrefl _
theorem one_Rz {xs : Array Keyed} : Rz κ xs 1 := fun i j hij hj => by
  obtain rfl : i = j := by omega
  exact κ.irrefl _
theorem one_Fz {xs : Array Keyed} : Fz κ xs 1 := fun i j hij hj => by
  obtain rfl : i = j := by omega
  exact κ.irrefl _
theorem Fz.same {xs ys : Array Keyed} {m : Nat} (r : Fz κ xs m) (h : ∀ k, KK κ ys k = KK κ xs k) : Fz κ ys m := fun i j hij hj => by
  rw [h, h]; exact r i j hij hj
theorem cmp_two {i j : Nat} {Q : Option Bool → SortSt → Prop} (hc : CmpAt prog w A s κ kd) (hk : KeysOf κ xs0) (b : Sst kd xs0 st) (hi : i < xs0.size) (hj : j < xs0.size)
    (q : Q (some (κ.blt (KK κ (arrOf st) i) (KK κ (arrOf st) j))) st) : wpS (model prog w) A E s (ltAt' i j) Q st := by
  have look : ∀ {i : Nat}, i < xs0.size → ∃ p a, (arrOf st)[i]? = some p ∧ κ.keyOf p.1 = some a ∧ KK κ (arrOf st) i = a := by
    intro i hi
    have hl : i < (arrOf st).size := by rw [b.sz]; exact hi
    have e : (arrOf st)[i]? = some (arrOf st)[i] := Array.getElem?_eq_getElem hl
    obtain ⟨a, ha⟩ := hk (arrOf st)[i] ((Array.perm_iff_toList_perm.mp b.pm).mem_iff.mp (Array.mem_toList_iff.mpr (Array.getElem_mem hl)))
    refine ⟨_, a, e, ha, ?_⟩
    unfold KK
    rw [e]
    show (κ.keyOf _).getD _ = a
    rw [ha]
    rfl
  obtain ⟨⟨x, x'⟩, a, e1, k1, g1⟩ := look hi
  obtain ⟨⟨y, y'⟩, a', e2, k2, g2⟩ := look hj
  rw [g1, g2] at q
  rw [ltAt'_eq]
  refine wpS_bind (wpS_get ?_)
  show wpS (model prog w) A E s (elem' (arrOf st) i >>= fun u => elem' (arrOf st) j >>= fun v => lt' u v) Q st
  rw [elem'_eq, elem'_eq, e1, e2]
  refine wpS_bind (wpS_pure ?_)
  refine wpS_bind (wpS_pure ?_)
  rw [lt'_eq]
  refine wpS_bind (wpS_get ?_)
  rw [b.kn]
  exact wpS_bind (wpS_lift (wpAny_attempt (hc _ x y a a' _ k1 k2 ⟨rfl, wpS_pure q⟩)))
theorem up_loop {a n : Nat} {Q : AscSt → SortSt → Prop} (hc : CmpAt prog w A s κ kd) (hk : KeysOf κ xs0) (hn : n ≤ xs0.size) (h1 : 1 ≤ a) (h2 : a ≤ n) (b : Sst kd xs0 st) (r : Rz κ (arrOf st) a)
    (fin : ∀ m, a ≤ m → m ≤ n → Rz κ (arrOf st) m → (m < n → κ.blt (KK κ (arrOf st) m) (KK κ (arrOf st) (m - 1)) = true) → Q (none, m) st) : wpS (model prog w) A E s (ascLoop a n) Q st := by
  unfold ascLoop
  refine wpS_forRange (fun i c u => u = st ∧ c = (none, i) ∧ Rz κ (arrOf st) i) ?_ ?_ ⟨rfl, rfl, r⟩
  · rintro i _ _ h3 h4 ⟨rfl, rfl, r'⟩
    refine wpS_bind (cmp_two hc hk b (by omega) (by omega) ?_)
    rcases e : κ.blt (KK κ (arrOf _) i) (KK κ (arrOf _) (i - 1)) with _ | _
    · exact wpS_pure ⟨rfl, rfl, r'.snoc (by omega) e⟩
    · exact wpS_pure (fin i h3 (by omega) r' fun _ => e)
  · rintro _ _ ⟨rfl, rfl, r'⟩
    rw [Nat.max_eq_right h2] at r' ⊢
    exact fin n h2 (Nat.le_refl _) r' fun q => absurd q (Nat.lt_irrefl _)
theorem wp_turn {i j : Nat} {Q : Unit → SortSt → Prop} (q : Q () (setArr st (mirror (arrOf st) i j ((j - i) / 2)))) : wpS (model prog w) A E s (reverseSlice' i j) Q st := by
  rw [reverseSlice'_eq]
  exact wpS_modify q
theorem tail_up {m n : Nat} {Q : Option Nat → SortSt → Prop} (hc : CmpAt prog w A s κ kd) (hk : KeysOf κ xs0) (hn : n ≤ xs0.size) (h1 : 1 ≤ m) (h2 : m ≤ n) (b : Sst kd xs0 st) (r : Fz κ (arrOf st) m)
    (fin : ∀ l u, Sst kd xs0 u → 1 ≤ l → l ≤ n → Rz κ (arrOf u) l → Q (some l) u) : wpS (model prog w) A E s (tail3 m n) Q st := by
  unfold tail3
  refine wpS_bind (wp_turn ?_)
  have b' := b.put (mirror_perm (arrOf st) 0 m ((m - 0) / 2))
  have ml : m ≤ (arrOf st).size := by rw [b.sz]; omega
  refine wpS_bind (up_loop hc hk hn h1 h2 b' (fun i j hij hj => ?_) fun l h3 h4 r' _ => wpS_pure (fin l _ b' (by omega) h4 r'))
  show κ.blt (KK κ (mirror (arrOf st) 0 m ((m - 0) / 2)) j) (KK κ (mirror (arrOf st) 0 m ((m - 0) / 2)) i) = false
  rw [KK_mirror ml, KK_mirror ml, if_pos ⟨Nat.zero_le _, hj⟩, if_pos ⟨Nat.zero_le _, by omega⟩]
  exact r _ _ (by omega) (by omega)
theorem down_loop {m n : Nat} {Q : DescSt → SortSt → Prop} (hc : CmpAt prog w A s κ kd) (hk : KeysOf κ xs0) (hn : n ≤ xs0.size) (h1 : 1 ≤ m) (h2 : m ≤ n) (b : Sst kd xs0 st) (r : Fz κ (arrOf st) m)
    (fin : ∀ l e u, Sst kd xs0 u → m ≤ l → l ≤ n → Fz κ (arrOf u) l → e + 1 ≤ l → (∀ i, l - (e + 1) ≤ i → i < l → KK κ (arrOf u) i = KK κ (arrOf u) (l - 1)) → Q (none, l, e) u) :
    wpS (model prog w) A E s (descLoop m n) Q st := by
  unfold descLoop
  refine wpS_forRange (fun i c u => ∃ e, c = (none, i, e) ∧ Sst kd xs0 u ∧ Fz κ (arrOf u) i ∧ e + 1 ≤ i ∧ ∀ k, i - (e + 1) ≤ k → k < i → KK κ (arrOf u) k = KK κ (arrOf u) (i - 1)) ?_ ?_ ⟨0, rfl, b, r, h1, fun k h3 h4 => by rw [show k = m - 1 by omega]⟩
  · rintro i _ u h3 h4 ⟨e, rfl, b', r', he, al⟩
    have il : i ≤ (arrOf u).size := by rw [b'.sz]; omega
    dsimp only
    refine wpS_bind (cmp_two hc hk b' (by omega) (by omega) ?_)
    rcases e1 : κ.blt (KK κ (arrOf u) i) (KK κ (arrOf u) (i - 1)) with _ | _
    · show wpS (model prog w) A E s (ltAt' (i - 1) i >>= _) _ u
      refine wpS_bind (cmp_two hc hk b' (by omega) (by omega) ?_)
      rcases e2 : κ.blt (KK κ (arrOf u) (i - 1)) (KK κ (arrOf u) i) with _ | _
      · have eq : KK κ (arrOf u) i = KK κ (arrOf u) (i - 1) := κ.total _ _ e1 e2
        refine wpS_pure ⟨e + 1, rfl, b', r'.snoc (by omega) e2, by omega, fun k h5 h6 => ?_⟩
        show KK κ (arrOf u) k = KK κ (arrOf u) i
        rcases Nat.lt_or_ge k i with l | l
        · rw [eq]; exact al k (by omega) l
        · rw [show k = i by omega]
      · exact wpS_pure (fin i e u b' h3 (by omega) r' he al)
    · have up := r'.snoc (by omega) (ltA e1)
      show wpS (model prog w) A E s (if e > 0 then _ else _) _ u
      by_cases c : e > 0
      · rw [if_pos c]
        refine wpS_bind (wp_turn ?_)
        exact wpS_pure ⟨0, rfl, b'.put (mirror_perm _ _ _ _), up.same (KK_mirror_equal il al), by omega, fun k h5 h6 => by rw [show k = i + 1 - 1 by omega]⟩
      · rw [if_neg c]
        exact wpS_pure ⟨0, rfl, b', up, by omega, fun k h5 h6 => by rw [show k = i + 1 - 1 by omega]⟩
  · rintro _ u ⟨e, rfl, b', r', he, al⟩
    rw [Nat.max_eq_right h2] at r' he al ⊢
    exact fin n e u b' h2 (Nat.le_refl _) r' he al
theorem down_part {m n : Nat} {Q : Option Nat → SortSt → Prop} (hc : CmpAt prog w A s κ kd) (hk : KeysOf κ xs0) (hn : n ≤ xs0.size) (h2 : m + 1 ≤ n) (b : Sst kd xs0 st) (r : Fz κ (arrOf st) (m + 1))
    (fin : ∀ l u, Sst kd xs0 u → 1 ≤ l → l ≤ n → Rz κ (arrOf u) l → Q (some l) u) : wpS (model prog w) A E s (descPart m n) Q st := by
  unfold descPart
  refine wpS_bind (m := liftM (rule _)) (wpS_lift (wpAny_rule ⟨rfl, ?_⟩))
  refine wpS_bind (down_loop hc hk hn (by omega) h2 b r fun l e u b' h3 h4 r' he al => ?_)
  have ll : l ≤ (arrOf u).size := by rw [b'.sz]; omega
  show wpS (model prog w) A E s (if e > 0 then _ else _) _ u
  by_cases c : e > 0
  · rw [if_pos c]
    refine wpS_bind (wp_turn ?_)
    exact tail_up (m := l) hc hk hn (by omega) h4 (b'.put (mirror_perm _ _ _ _)) (r'.same (KK_mirror_equal ll al)) fin
  · rw [if_neg c]
    exact tail_up (m := l) hc hk hn (by omega) h4 b' r' fin
theorem count_up {n : Nat} {Q : Option Nat → SortSt → Prop} (hc : CmpAt prog w A s κ kd) (hk : KeysOf κ xs0) (hn : n ≤ xs0.size) (h1 : 1 ≤ n) (b : Sst kd xs0 st)
    (fin : ∀ l u, Sst kd xs0 u → 1 ≤ l → l ≤ n → Rz κ (arrOf u) l → Q (some l) u) : wpS (model prog w) A E s (countRun' 0 n) Q st := by
  rw [countRun0_eq]
  refine wpS_bind (up_loop hc hk hn (Nat.le_refl 1) h1 b one_Rz fun m h3 h4 r lt => ?_)
  show wpS (model prog w) A E s (if (m == n) = true then _ else _) _ st
  rcases Nat.lt_or_ge m n with c | c
  · rw [if_neg (by rw [beq_iff_eq]; omega)]
    have lt := lt c
    by_cases c2 : m > 1
    · rw [if_pos c2]
      refine wpS_bind (cmp_two hc hk b (by omega) (by omega) ?_)
      rcases e : κ.blt (KK κ (arrOf st) 0) (KK κ (arrOf st) (m - 1)) with _ | _
      · have ml : m ≤ (arrOf st).size := by rw [b.sz]; omega
        have al : ∀ k, 0 ≤ k → k < m → KK κ (arrOf st) k = KK κ (arrOf st) (m - 1) := fun k _ h =>
          κ.total _ _ (ltF e (r 0 k (Nat.zero_le _) h)) (r k (m - 1) (by omega) (by omega))
        refine wpS_bind (wp_turn (down_part hc hk hn (by omega) (b.put (mirror_perm _ _ _ _)) ?_ fin))
        refine Fz.same (xs := arrOf st) (Fz.snoc (fun i j hij hj => ?_) (by omega) (ltA lt)) (KK_mirror_equal ml al)
        rw [al i (Nat.zero_le _) (by omega), al j (Nat.zero_le _) hj]
        exact κ.irrefl _
      · exact wpS_pure (fin m st b h3 h4 r)
    · rw [if_neg c2]
      obtain rfl : m = 1 := by omega
      exact down_part hc hk hn (by omega) b (one_Fz.snoc (by omega) (ltA lt)) fin
  · obtain rfl : m = n := by omega
    rw [if_pos (by rw [beq_iff_eq])]
    exact wpS_pure (fin m st b h3 h4 r)
/-- where the k-th goes: all ahead of p are not above it, all from p on are -/
theorem ins_sort {n ok : Nat} {Q : Bool → SortSt → Prop} (hc : CmpAt prog w A s κ kd) (hk : KeysOf κ xs0) (hn : n ≤ xs0.size) (h2 : ok ≤ n) (b : Sst kd xs0 st) (r : Rz κ (arrOf st) ok)
    (fin : ∀ u, Sst kd xs0 u → Rz κ (arrOf u) n → Q true u) : wpS (model prog w) A E s (binarySort' 0 n ok) Q st := by
  rw [binarySort'_eq]
  simp only [Nat.zero_add]
  have start : Rz κ (arrOf st) (min (max ok 1) n) := fun i j hij hj => by
    rcases Nat.lt_or_ge j ok with l | l
    · exact r i j hij l
    · obtain rfl : i = j := by omega
      exact κ.irrefl _
  refine wpS_bind (wpS_mono (wpS_forRange (Q := fun c u => c = (none, ()) ∧ Sst kd xs0 u ∧ Rz κ (arrOf u) n) (fun k c u => c = (none, ()) ∧ Sst kd xs0 u ∧ Rz κ (arrOf u) (min k n)) ?_ ?_ ⟨rfl, b, start⟩) ?_)
  · rintro k _ u h3 h4 ⟨rfl, b', r'⟩
    rw [Nat.min_eq_left (Nat.le_of_lt h4)] at r'
    have kl : k < xs0.size := by omega
    have ks : k < (arrOf u).size := by rw [b'.sz]; exact kl
    refine wpS_bind (wpS_mono (wpS_forRange (Q := fun c v => v = u ∧ ∃ p, c = (none, p, p) ∧ p ≤ k ∧ (∀ i, i < p → κ.blt (KK κ (arrOf u) k) (KK κ (arrOf u) i) = false) ∧ ∀ i, p ≤ i → i < k → κ.blt (KK κ (arrOf u) k) (KK κ (arrOf u) i) = true)
      (fun x c v => v = u ∧ ∃ p q, c = (none, p, q) ∧ p ≤ q ∧ q ≤ k ∧ q + x ≤ k + p ∧ (∀ i, i < p → κ.blt (KK κ (arrOf u) k) (KK κ (arrOf u) i) = false) ∧ ∀ i, q ≤ i → i < k → κ.blt (KK κ (arrOf u) k) (KK κ (arrOf u) i) = true) ?_ ?_
      ⟨rfl, 0, k, rfl, Nat.zero_le _, Nat.le_refl _, by omega, fun i h => absurd h (Nat.not_lt_zero i), fun i h h' => absurd h' (by omega)⟩) ?_)
    · rintro x _ _ h5 h6 ⟨rfl, p, q, rfl, pq, qk, qx, lo, hi⟩
      dsimp only
      rcases Nat.lt_or_ge p q with c | c
      · rw [if_neg (by omega)]
        refine wpS_bind (cmp_two hc hk b' kl (by omega) ?_)
        rcases e : κ.blt (KK κ (arrOf _) k) (KK κ (arrOf _) ((p + q) / 2)) with _ | _
        · refine wpS_pure ⟨rfl, (p + q) / 2 + 1, q, rfl, by omega, qk, by omega, fun i h => ?_, hi⟩
          exact ltF (r' i ((p + q) / 2) (by omega) (by omega)) e
        · refine wpS_pure ⟨rfl, p, (p + q) / 2, rfl, by omega, by omega, by omega, lo, fun i h h' => ?_⟩
          rcases κ.negTrans _ (KK κ (arrOf _) i) _ e with z | z
          · exact z
          · rw [r' _ i h h'] at z
            cases z
      · rw [if_pos c]
        obtain rfl : p = q := by omega
        exact wpS_pure ⟨rfl, p, rfl, qk, lo, hi⟩
    · rintro _ _ ⟨rfl, p, q, rfl, pq, qk, qx, lo, hi⟩
      obtain rfl : p = q := by omega
      exact ⟨rfl, p, rfl, qk, lo, hi⟩
    · rintro _ _ ⟨rfl, p, rfl, pk, lo, hi⟩
      show wpS (model prog w) A E s (moveDown' k p >>= fun _ => pure (ForInStep.yield (none, ()))) _ _
      rw [moveDown'_eq]
      refine wpS_bind (wpS_modify (wpS_pure ⟨rfl, b'.put (bubble_perm _ _ _), ?_⟩))
      rw [Nat.min_eq_left h4]
      intro i j hij hj
      show κ.blt (KK κ (bubble (arrOf _) k (k - p)) j) (KK κ (bubble (arrOf _) k (k - p)) i) = false
      have at_ : ∀ i, KK κ (bubble (arrOf _) k (k - p)) i = if i = p then KK κ (arrOf _) k else if p < i ∧ i ≤ k then KK κ (arrOf _) (i - 1) else KK κ (arrOf _) i := fun i => by
        rw [KK_bubble ks (Nat.sub_le _ _), show k - (k - p) = p by omega]
      rw [at_, at_]
      rcases Nat.lt_trichotomy j p with c | c | c
      · rw [if_neg (by omega), if_neg (by omega), if_neg (by omega), if_neg (by omega)]
        exact r' i j hij (by omega)
      · rw [if_pos c]
        rcases Nat.lt_or_ge i p with d | d
        · rw [if_neg (by omega), if_neg (by omega)]
          exact lo i d
        · rw [if_pos (by omega)]
          exact κ.irrefl _
      · rw [if_neg (by omega), if_pos (by omega)]
        rcases Nat.lt_trichotomy i p with d | d | d
        · rw [if_neg (by omega), if_neg (by omega)]
          exact r' i (j - 1) (by omega) (by omega)
        · rw [if_pos d]
          exact ltA (hi (j - 1) (by omega) (by omega))
        · rw [if_neg (by omega), if_pos (by omega)]
          exact r' (i - 1) (j - 1) (by omega) (by omega)
  · rintro _ u ⟨h, b', r'⟩
    refine ⟨h, b', ?_⟩
    rw [show min (max (max ok 1) n) n = n by omega] at r'
    exact r'
  · rintro _ u ⟨rfl, b', r'⟩
    exact wpS_pure (fin u b' r')
/-- all is sorted -/
theorem runs_up {Q : Unit → SortSt → Prop} (hc : CmpAt prog w A s κ kd) (hk : KeysOf κ xs0) (b : Sst kd xs0 st) (h2 : 2 ≤ xs0.size) (h64 : xs0.size < 64)
    (fin : ∀ u, (arrOf u).Perm xs0 → failedOf u = none → Rz κ (arrOf u) xs0.size → Q () u) : wpS (model prog w) A E s sortRuns' Q st := by
  have mr : minRun' xs0.size xs0.size 0 = xs0.size := by
    have e : ∀ f, minRun' (f + 1) xs0.size 0 = xs0.size := fun f => by rw [minRun'_succ, if_pos h64]; rfl
    have := e (xs0.size - 1)
    rwa [show xs0.size - 1 + 1 = xs0.size by omega] at this
  rw [sortRuns'_eq]
  refine wpS_bind (wpS_get ?_)
  simp only [b.sz, mr]
  have done : ∀ {u : SortSt}, Sst kd xs0 u → Rz κ (arrOf u) xs0.size → (arrOf (setPending u ((pendingOf u).push (0, xs0.size, 0)))).Perm xs0 ∧ failedOf (setPending u ((pendingOf u).push (0, xs0.size, 0))) = none ∧ pendingOf (setPending u ((pendingOf u).push (0, xs0.size, 0))) = #[(0, xs0.size, 0)] ∧ Rz κ (arrOf (setPending u ((pendingOf u).push (0, xs0.size, 0)))) xs0.size := fun {u} b r => ⟨b.pm, b.fl, by show (pendingOf u).push _ = _; rw [b.pd]; rfl, r⟩
  refine wpS_bind (wpS_mono (wpS_forRange (Q := fun c u => c = (none, xs0.size) ∧ (arrOf u).Perm xs0 ∧ failedOf u = none ∧ pendingOf u = #[(0, xs0.size, 0)] ∧ Rz κ (arrOf u) xs0.size)
    (fun x c u => (x = 0 → c = (none, 0) ∧ Sst kd xs0 u) ∧ (1 ≤ x → c = (none, xs0.size) ∧ (arrOf u).Perm xs0 ∧ failedOf u = none ∧ pendingOf u = #[(0, xs0.size, 0)] ∧ Rz κ (arrOf u) xs0.size)) ?_ ?_ ⟨fun _ => ⟨rfl, b⟩, fun h => absurd h (by decide)⟩) ?_)
  · rintro x c u _ hx ⟨g0, g1⟩
    cases x with
    | succ x =>
      obtain ⟨rfl, g2⟩ := g1 (by omega)
      dsimp only
      rw [if_pos (Nat.le_refl _)]
      exact wpS_pure ⟨rfl, g2⟩
    | zero =>
      obtain ⟨rfl, b'⟩ := g0 rfl
      dsimp only
      rw [if_neg (by omega)]
      simp only [Nat.min_self, Nat.zero_add, Nat.sub_zero]
      refine wpS_bind (count_up hc hk (Nat.le_refl _) (by omega) b' fun l v bv l1 l2 r => ?_)
      dsimp only
      rcases Nat.lt_or_ge l xs0.size with c | c
      · rw [if_pos c]
        refine wpS_bind (m := liftM (rule _)) (wpS_lift (wpAny_rule ⟨rfl, ?_⟩))
        refine wpS_bind (ins_sort hc hk (Nat.le_refl _) l2 bv r fun y b3 r3 => ?_)
        rw [Bool.not_true, if_neg Bool.false_ne_true]
        refine wpS_bind (wpS_get ?_)
        rw [show (pendingOf y).back? = none by rw [b3.pd]; rfl]
        exact wpS_bind (wpS_modify (wpS_pure ⟨fun h => absurd h (by decide), fun _ => ⟨rfl, done b3 r3⟩⟩))
      · rw [if_neg (by omega)]
        obtain rfl : l = xs0.size := by omega
        refine wpS_bind (wpS_get ?_)
        rw [show (pendingOf v).back? = none by rw [bv.pd]; rfl]
        exact wpS_bind (wpS_modify (wpS_pure ⟨fun h => absurd h (by decide), fun _ => ⟨rfl, done bv r⟩⟩))
  · rintro c u ⟨_, g1⟩
    exact g1 (by omega)
  · rintro _ u ⟨rfl, g1, g2, g3, g4⟩
    dsimp only
    refine wpS_bind (wpS_mono (wpS_forRange (Q := fun c v => v = u ∧ c = (none, ())) (fun _ c v => v = u ∧ c = (none, ())) ?_ (fun _ _ h => h) ⟨rfl, rfl⟩) ?_)
    · rintro x _ _ _ _ ⟨rfl, rfl⟩
      refine wpS_bind (wpS_get ?_)
      rw [if_pos (by rw [g3]; exact Nat.le_refl 1)]
      exact wpS_pure ⟨rfl, rfl⟩
    · rintro _ _ ⟨rfl, rfl⟩
      exact wpS_pure (fin _ g1 g2 g4)
end
end L2

namespace L2
open PySem PySem.Spec PyProof.Rows
/-! ### orders -/
def intO : KeyOrd where
  α := Int
  blt a b := decide (a < b)
  irrefl a := decide_eq_false (Int.lt_irrefl a)
  trans a b c h g := decide_eq_true (Int.lt_trans (of_decide_eq_true h) (of_decide_eq_true g))
  negTrans a b c h := by
    have h := of_decide_eq_true h
    rcases Int.lt_or_le a b with q | q
    · exact .inl (decide_eq_true q)
    · exact .inr (decide_eq_true (by omega))
  total a b h g := by
    have h := of_decide_eq_false h
    have g := of_decide_eq_false g
    omega
def lexB (O U : KeyOrd) (a b : O.α × U.α) : Bool := O.blt a.1 b.1 || (!O.blt b.1 a.1 && U.blt a.2 b.2)
theorem lex_iff {O U : KeyOrd} {a b : O.α × U.α} : lexB O U a b = true ↔ O.blt a.1 b.1 = true ∨ (a.1 = b.1 ∧ U.blt a.2 b.2 = true) := by
  unfold lexB
  constructor
  · intro h
    rcases e : O.blt a.1 b.1 with _ | _
    · rw [e, Bool.false_or, Bool.and_eq_true, Bool.not_eq_true'] at h
      exact .inr ⟨O.total _ _ e h.1, h.2⟩
    · exact .inl rfl
  · rintro (h | ⟨e, h⟩)
    · rw [h, Bool.true_or]
    · rw [e, O.irrefl, Bool.false_or, h]
      rfl
def lexO (O U : KeyOrd) : KeyOrd where
  α := O.α × U.α
  blt := lexB O U
  irrefl a := by
    rcases e : lexB O U a a with _ | _
    · rfl
    · rcases lex_iff.mp e with h | ⟨_, h⟩
      · rw [O.irrefl] at h; exact h.symm
      · rw [U.irrefl] at h; exact h.symm
  trans a b c h g := by
    rw [lex_iff] at *
    rcases h with h | ⟨e, h⟩
    · rcases g with g | ⟨e', g⟩
      · exact .inl (O.trans _ _ _ h g)
      · exact .inl (e' ▸ h)
    · rcases g with g | ⟨e', g⟩
      · exact .inl (e ▸ g)
      · exact .inr ⟨e.trans e', U.trans _ _ _ h g⟩
  negTrans a b c h := by
    rw [lex_iff] at *
    rw [lex_iff]
    rcases h with h | ⟨e, h⟩
    · rcases O.negTrans _ b.1 _ h with q | q
      · exact .inl (.inl q)
      · exact .inr (.inl q)
    · rcases e1 : O.blt a.1 b.1 with _ | _
      · rcases e2 : O.blt b.1 a.1 with _ | _
        · have ab := O.total _ _ e1 e2
          rcases U.negTrans _ b.2 _ h with q | q
          · exact .inl (.inr ⟨ab, q⟩)
          · exact .inr (.inr ⟨ab.symm.trans e, q⟩)
        · exact .inr (.inl (e ▸ e2))
      · exact .inl (.inl rfl)
  total a b h g := by
    have n1 : ∀ {a b : O.α × U.α}, lexB O U a b = false → O.blt a.1 b.1 = false := fun {a b} h => by
      rcases e : O.blt a.1 b.1 with _ | _
      · rfl
      · rw [lex_iff.mpr (.inl e)] at h; exact h
    have e := O.total _ _ (n1 h) (n1 g)
    have n2 : ∀ {a b : O.α × U.α}, a.1 = b.1 → lexB O U a b = false → U.blt a.2 b.2 = false := fun {a b} e h => by
      rcases q : U.blt a.2 b.2 with _ | _
      · rfl
      · rw [lex_iff.mpr (.inr ⟨e, q⟩)] at h; exact h
    exact Prod.ext e (U.total _ _ (n2 e h) (n2 e.symm g))
/-- keys by a relation -/
noncomputable def relK (O : KeyOrd) (R : Value → O.α → Prop) (d : O.α) : KeyKind := { O with keyOf := fun v => open Classical in if h : ∃ a, R v a then some h.choose else none, dflt := d }
theorem relK_of {O : KeyOrd} {R : Value → O.α → Prop} {d : O.α} {v : Value} {a : O.α} (h : (relK O R d).keyOf v = some a) : R v a := by
  unfold relK at h
  simp only at h
  split at h
  · rename_i q
    cases h
    exact q.choose_spec
  · cases h
theorem relK_at {O : KeyOrd} {R : Value → O.α → Prop} {d : O.α} {v : Value} {a : O.α} (h : R v a) : ∃ b, (relK O R d).keyOf v = some b := by
  refine ⟨(⟨a, h⟩ : ∃ a, R v a).choose, ?_⟩
  unfold relK
  simp only
  rw [dif_pos ⟨a, h⟩]
def eqO (O : KeyOrd) (a b : O.α) : Bool := !O.blt a b && !O.blt b a
theorem eqO_iff {O : KeyOrd} {a b : O.α} : eqO O a b = true ↔ a = b := by
  unfold eqO
  constructor
  · intro h
    rw [Bool.and_eq_true, Bool.not_eq_true', Bool.not_eq_true'] at h
    exact O.total _ _ h.1 h.2
  · rintro rfl
    rw [O.irrefl]
    rfl
/-! ### what stands in a tuple -/
def TupsStay (h h' : Heap) : Prop := ∀ b o, h.get? b = some o → o.cls = .type "tuple" → h'.get? b = some o
structure El (prog : Program) (w : World) (O : KeyOrd) (R : Heap → Value → O.α → Prop) (T : String) : Prop where
  mono : ∀ {h h' : Heap} {v : Value} {a : O.α}, TupsStay h h' → R h v a → R h' v a
  fn : ∀ {h : Heap} {v : Value} {a b : O.α}, R h v a → R h v b → a = b
  ty : ∀ {s : Shared} {v : Value} {a : O.α}, R s.heap v a → s.TypeIs v T
  eq : ∀ {A : Around} {E : Value → Shared → Prop} {s : Shared} {u v : Value} {a b : O.α} {Q : Bool → Shared → Prop}, A.units + 8 < cLine → R s.heap u a → R s.heap v b → Q (eqO O a b) s → wpAny (model prog w) A (eqBool u v) Q E s
  lt : ∀ {A : Around} {E : Value → Shared → Prop} {s : Shared} {u v : Value} {a b : O.α} {Q : Bool → Shared → Prop} (f : Bool), (f = true → T ≠ "tuple") → A.units + 8 < cLine → R s.heap u a → R s.heap v b → Q (O.blt a b) s → wpAny (model prog w) A (oneLt' f u v) Q E s
theorem eqI (a b : Int) : (a == b) = eqO intO a b := by
  rw [Bool.eq_iff_iff, beq_iff_eq]
  exact (eqO_iff (O := intO)).symm
def IntR (_ : Heap) (v : Value) (a : intO.α) : Prop := ∃ t, v = .int a t
theorem el_int {prog : Program} {w : World} : El prog w intO IntR "int" where
  mono _ h := h
  fn h g := by
    obtain ⟨t, rfl⟩ := h
    obtain ⟨u, e⟩ := g
    cases e
    rfl
  ty h := by
    obtain ⟨t, rfl⟩ := h
    exact typeIs_int _ _ _
  eq {A E s u v a b Q} _ h g q := by
    obtain ⟨t, rfl⟩ := h
    obtain ⟨u, rfl⟩ := g
    refine wpAny_eqBool_int ?_
    exact (eqI a b) ▸ q
  lt {A E s u v a b Q} f _ _ h g q := by
    obtain ⟨t, rfl⟩ := h
    obtain ⟨u, rfl⟩ := g
    cases f with
    | true => exact oneLt_int q
    | false =>
      rw [oneLt'_eq]
      rw [if_neg Bool.false_ne_true]
      exact wpAny_bind (wpAny_richCompare_same (op := .Lt) (typeIs_int _ _ _) (typeIs_int _ _ _) slot_int_lt (call_int_lt ⟨(fun x => nomatch x), wpAny_truthy_bool q⟩))
def strO : KeyOrd := strKind.toKeyOrd
def StrR (_ : Heap) (v : Value) (a : strO.α) : Prop := ∃ z t, v = .str z t ∧ z.cps.toList = a
/-! ### pairs -/
def PairR {O U : KeyOrd} (R : Heap → Value → O.α → Prop) (S : Heap → Value → U.α → Prop) (h : Heap) (v : Value) (a : O.α × U.α) : Prop :=
  ∃ c o n x y, v = .ref c ∧ h.get? c = some o ∧ o.cls = .type "tuple" ∧ o.data = .seq #[x, y] n ∧ R h x a.1 ∧ S h y a.2
section
variable {prog : Program} {w : World} {O U : KeyOrd} {R : Heap → Value → O.α → Prop} {S : Heap → Value → U.α → Prop} {T V : String}
theorem pair_mono (e : El prog w O R T) (f : El prog w U S V) {h h' : Heap} {v : Value} {a : O.α × U.α} (st : TupsStay h h') (p : PairR R S h v a) : PairR R S h' v a := by
  obtain ⟨c, o, n, x, y, rfl, ho, hc, hd, h1, h2⟩ := p
  exact ⟨c, o, n, x, y, rfl, st _ _ ho hc, hc, hd, e.mono st h1, f.mono st h2⟩
theorem pair_fn (e : El prog w O R T) (f : El prog w U S V) {h : Heap} {v : Value} {a b : O.α × U.α} (p : PairR R S h v a) (q : PairR R S h v b) : a = b := by
  obtain ⟨c, o, n, x, y, rfl, ho, hc, hd, h1, h2⟩ := p
  obtain ⟨c', o', n', x', y', e1, ho', hc', hd', g1, g2⟩ := q
  cases e1
  rw [ho] at ho'
  cases ho'
  rw [hd] at hd'
  cases hd'
  exact Prod.ext (e.fn h1 g1) (f.fn h2 g2)
theorem keyLt_tup (b : Bool) (x y : Value) : keyLt' (tuples' b) x y = (do
    let xs ← Builtin.List.listItems x
    let ys ← Builtin.List.listItems y
    for ((p, q), i) in (xs.toList.zip ys.toList).zipIdx do
      if !(← eqBool p q) then return ← oneLt' (b && i == 0) p q
    return decide (xs.size < ys.size)) := rfl
theorem lt_pair (e : El prog w O R T) (f : El prog w U S V) {A : Around} {E : Value → Shared → Prop} {s : Shared} {x y : Value} {a b : O.α × U.α} {Q : Bool → Shared → Prop} (hu : A.units + 8 < cLine) (bb : Bool) (hb : bb = true → T ≠ "tuple")
    (ha : PairR R S s.heap x a) (hb' : PairR R S s.heap y b) (q : Q (lexB O U a b) s) : wpAny (model prog w) A (keyLt' (tuples' bb) x y) Q E s := by
  obtain ⟨c, o, n, x1, x2, rfl, ho, hc, hd, h1, h2⟩ := ha
  obtain ⟨c', o', n', y1, y2, rfl, ho', hc', hd', g1, g2⟩ := hb'
  rw [keyLt_tup]
  refine wpAny_bind (listItems_at ho hd ?_)
  refine wpAny_bind (listItems_at ho' hd' ?_)
  show wpAny _ _ (forIn [((x1, y1), 0), ((x2, y2), 1)] _ _ >>= _) _ _ s
  rw [List.forIn_cons]
  refine wpAny_bind (wpAny_bind (wpAny_bind (e.eq hu h1 g1 ?_)))
  rcases e1 : eqO O a.1 b.1 with _ | _
  · rw [Bool.not_false, if_pos rfl]
    have ne : a.1 ≠ b.1 := fun z => by rw [eqO_iff.mpr z] at e1; cases e1
    have q : Q (O.blt a.1 b.1) s := by
      have z : lexB O U a b = O.blt a.1 b.1 := by
        rw [Bool.eq_iff_iff, lex_iff]
        exact ⟨fun h => h.elim id fun h => absurd h.1 ne, .inl⟩
      rw [z] at q
      exact q
    exact wpAny_bind (e.lt _ (fun z => hb (by rw [Bool.and_eq_true] at z; exact z.1)) hu h1 g1 (wpAny_pure (wpAny_pure (wpAny_pure q))))
  · rw [Bool.not_true, if_neg Bool.false_ne_true]
    have ea := eqO_iff.mp e1
    refine wpAny_pure ?_
    show wpAny _ _ (forIn [((x2, y2), 1)] _ _) _ _ s
    rw [List.forIn_cons]
    refine wpAny_bind (wpAny_bind (f.eq hu h2 g2 ?_))
    rcases e2 : eqO U a.2 b.2 with _ | _
    · rw [Bool.not_false, if_pos rfl]
      have q : Q (U.blt a.2 b.2) s := by
        have z : lexB O U a b = U.blt a.2 b.2 := by
          rw [Bool.eq_iff_iff, lex_iff]
          constructor
          · rintro (h | h)
            · rw [ea, O.irrefl] at h; cases h
            · exact h.2
          · exact fun h => .inr ⟨ea, h⟩
        rw [z] at q
        exact q
      exact wpAny_bind (f.lt _ (fun z => by rw [Bool.and_eq_true] at z; exact absurd z.2 (by decide)) hu h2 g2 (wpAny_pure (wpAny_pure (wpAny_pure q))))
    · rw [Bool.not_true, if_neg Bool.false_ne_true]
      have eb := eqO_iff.mp e2
      have q : Q false s := by
        have z : lexB O U a b = false := by
          rcases y : lexB O U a b with _ | _
          · rfl
          · rcases lex_iff.mp y with h | h
            · rw [ea, O.irrefl] at h; exact h.symm
            · rw [eb, U.irrefl] at h; exact h.2.symm
        rw [z] at q
        exact q
      refine wpAny_pure ?_
      show wpAny _ _ (forIn [] _ _) _ _ s
      rw [List.forIn_nil]
      exact wpAny_pure (wpAny_pure q)
theorem cmp_pair (e : El prog w O R T) (f : El prog w U S V) {A : Around} {s : Shared} (hu : A.units + 8 < cLine) (d : O.α × U.α) (bb : Bool) (hb : bb = true → T ≠ "tuple") : CmpAt prog w A s (relK (lexO O U) (PairR R S s.heap) d) (tuples' bb) :=
  fun E x y a b Q ha hb' q => lt_pair e f hu bb hb (relK_of ha) (relK_of hb') q
theorem lexLt_two (a b : Int × Int) : HT.lexLt [a.1, a.2] [b.1, b.2] = lexB intO intO a b := by
  rw [Bool.eq_iff_iff]
  refine Iff.trans ?_ (lex_iff (O := intO) (U := intO) (a := a) (b := b)).symm
  rw [HT.lexLt_cons, HT.lexLt_cons, HT.lexLt_nil_nil]
  show _ ↔ decide (a.1 < b.1) = true ∨ (a.1 = b.1 ∧ decide (a.2 < b.2) = true)
  rw [decide_eq_true_iff, decide_eq_true_iff]
  by_cases c : a.1 = b.1
  · rw [if_pos c]
    by_cases c2 : a.2 = b.2
    · rw [if_pos c2]
      exact ⟨fun h => (by cases h), fun h => by omega⟩
    · rw [if_neg c2, decide_eq_true_iff]
      exact ⟨fun h => .inr ⟨c, h⟩, fun h => by omega⟩
  · rw [if_neg c, decide_eq_true_iff]
    exact ⟨.inl, fun h => by omega⟩
/-- a tuple of two ints, in a tuple -/
def TwoR : Heap → Value → (lexO intO intO).α → Prop := PairR IntR IntR
theorem two_ints {h : Heap} {v : Value} {a : Int × Int} (p : TwoR h v a) : ∃ c its, v = .ref c ∧ IsTup h c its ∧ IntsAre its.toList [a.1, a.2] := by
  obtain ⟨c, o, n, x, y, rfl, ho, hc, hd, ⟨t, rfl⟩, ⟨u, rfl⟩⟩ := p
  exact ⟨c, _, rfl, ⟨o, ho, hc, n, hd⟩, .cons _ _ (.cons _ _ .nil)⟩
theorem two_key {h : Heap} {v : Value} {a : Int × Int} (p : TwoR h v a) : ∃ c, v = .ref c ∧ IsTupleKey (mixKind prog w) h [.inl a.1, .inl a.2] c := by
  obtain ⟨c, o, n, x, y, rfl, ho, hc, hd, ⟨t, rfl⟩, ⟨u, rfl⟩⟩ := p
  exact ⟨c, rfl, o, _, n, ho, hc, hd, .cons (mixKind_int prog w _ _) (.cons (mixKind_int prog w _ _) .nil)⟩
theorem el_two : El prog w (lexO intO intO) TwoR "tuple" where
  mono st p := pair_mono (prog := prog) (w := w) el_int el_int st p
  fn p q := pair_fn (prog := prog) (w := w) el_int el_int p q
  ty p := by
    obtain ⟨c, its, rfl, t, _⟩ := two_ints p
    exact t.typeIs
  eq {A E s u v a b Q} hu p p' q := by
    obtain ⟨c, rfl, k⟩ := two_key (prog := prog) (w := w) p
    obtain ⟨c', rfl, k'⟩ := two_key (prog := prog) (w := w) p'
    refine wpAny_eqBool_tuple (Nat.lt_of_le_of_lt (Nat.le_add_right _ 8) hu) k k' ?_
    have z : decide (([.inl a.1, .inl a.2] : List Key) = [.inl b.1, .inl b.2]) = eqO (lexO intO intO) a b := by
      rw [Bool.eq_iff_iff, decide_eq_true_iff, eqO_iff]
      constructor
      · intro h
        injection h with h1 h2
        injection h2 with h2 _
        exact Prod.ext (Sum.inl.inj h1) (Sum.inl.inj h2)
      · rintro rfl
        rfl
    rw [z]
    exact q
  lt {A E s u v a b Q} f hf hu p p' q := by
    obtain ⟨c, its, rfl, t, i⟩ := two_ints p
    obtain ⟨c', its', rfl, t', i'⟩ := two_ints p'
    cases f with
    | true => exact absurd rfl (hf rfl)
    | false =>
      rw [oneLt'_eq]
      rw [if_neg Bool.false_ne_true]
      refine wpAny_bind (HT.lt_tupInts t t' i i' (Nat.lt_of_le_of_lt (Nat.le_add_right _ 8) hu) (wpAny_truthy_bool ?_))
      exact (lexLt_two a b) ▸ q
end
end L2

namespace L2
open PySem PySem.Spec PyProof.Rows
section
variable {prog : Program} {w : World} {A : Around} {E : Value → Shared → Prop} {s : Shared}
/-- one after another, nothing changes -/
theorem wp_mapM {M : Model} {β : Type} {f : Value → Sem β} (F : β → Prop) : ∀ (vs : List Value), (∀ v ∈ vs, ∃ y, F y ∧ ∀ Q : β → Shared → Prop, Q y s → wpAny M A (f v) Q E s) → ∃ ys : List β, ys.length = vs.length ∧ (∀ y ∈ ys, F y) ∧ ∀ Q : List β → Shared → Prop, Q ys s → wpAny M A (vs.mapM f) Q E s
  | [], _ => ⟨[], rfl, (fun _ h => nomatch h), fun Q q => by rw [List.mapM_nil]; exact wpAny_pure q⟩
  | v :: vs, h => by
    obtain ⟨y, fy, hy⟩ := h v (.head _)
    obtain ⟨ys, l, fys, hys⟩ := wp_mapM F vs fun x hx => h x (.tail _ hx)
    refine ⟨y :: ys, by rw [List.length_cons, List.length_cons, l], fun z hz => ?_, fun Q q => ?_⟩
    · rcases List.mem_cons.mp hz with e | e
      · rw [e]; exact fy
      · exact fys z e
    · rw [List.mapM_cons]
      exact wpAny_bind (hy _ (wpAny_bind (hys _ (wpAny_pure q))))
theorem first_eq (v : Value) : firstOfTuple' v = (do
    if (← typeOf v) != .type "tuple" then return none
    return (← Builtin.List.listItems v)[0]?) := rfl
variable {O U : KeyOrd} {R : Heap → Value → O.α → Prop} {S : Heap → Value → U.α → Prop} {T V : String}
theorem kind_pair (e : El prog w O R T) {vs : List Value} (h : ∀ v ∈ vs, ∃ a, PairR R S s.heap v a) (hn : vs ≠ []) {Q : SortKind → Shared → Prop} (q : Q (tuples' (decide (T ≠ "tuple"))) s) : wpAny (model prog w) A (keyKind' vs.toArray) Q E s := by
  rw [keyKind'_eq, List.mapM_toArray]
  obtain ⟨ys, yl, yf, hy⟩ := wp_mapM (M := model prog w) (A := A) (E := E) (s := s) (f := firstOfTuple') (fun y => ∃ x, y = some x ∧ s.TypeIs x T) vs fun v hv => by
    obtain ⟨a, c, o, n, x, y, rfl, ho, hc, hd, h1, h2⟩ := h v hv
    refine ⟨some x, ⟨x, rfl, e.ty h1⟩, fun Q q => ?_⟩
    rw [first_eq]
    refine wpAny_bind (wpAny_typeOf (T := "tuple") ⟨o, ho, hc⟩ ?_)
    rw [if_neg (by decide)]
    exact wpAny_bind (listItems_at ho hd (wpAny_pure q))
  refine wpAny_bind (wpAny_map ?_)
  refine hy _ ?_
  have al : ys.toArray.all (·.isSome) = true := by
    rw [List.all_toArray, List.all_eq_true]
    intro y hy
    obtain ⟨x, rfl, _⟩ := yf y hy
    rfl
  rw [if_pos al]
  refine wpAny_bind (wpAny_rule ?_)
  rw [oneTypeOnly'_eq, List.filterMap_toArray, List.mapM_toArray]
  have ht : ∀ x ∈ ys.filterMap id, s.TypeIs x T := fun x hx => by
    obtain ⟨y, hy, ey⟩ := List.mem_filterMap.mp hx
    obtain ⟨x', rfl, t⟩ := yf y hy
    cases (show x' = x from Option.some.inj ey)
    exact t
  obtain ⟨ts, tl, tf, htt⟩ := wp_mapM (M := model prog w) (A := A) (E := E) (s := s) (f := typeOf) (fun y => y = .type T) (ys.filterMap id) fun v hv => ⟨_, rfl, fun Q q => wpAny_typeOf (ht v hv) q⟩
  refine wpAny_bind (wpAny_bind (wpAny_map ?_))
  refine htt _ ?_
  have fl : (ys.filterMap id).length = ys.length := by
    clear hy al ht htt tl tf yl
    induction ys with
    | nil => rfl
    | cons y ys ih =>
      obtain ⟨x, rfl, _⟩ := yf y (.head _)
      rw [show List.filterMap id (some x :: ys) = x :: ys.filterMap id from rfl, List.length_cons, List.length_cons, ih fun z hz => yf z (.tail _ hz)]
  cases ts with
  | nil =>
    rw [List.length_nil, fl, yl] at tl
    exact absurd (List.eq_nil_of_length_eq_zero tl.symm) hn
  | cons t ts =>
    have t0 : t = .type T := tf t (.head _)
    subst t0
    show wpAny _ _ (pure (if ((Value.type T :: ts).toArray.all (· == Value.type T)) = true then some (Value.type T) else none)) _ _ s
    rw [if_pos (by
      rw [List.all_toArray, List.all_eq_true]
      intro y hy
      rw [tf y hy]
      exact beq_self_eq_true _)]
    refine wpAny_pure (wpAny_pure ?_)
    have z : (some (Value.type T)).any (· != Value.type "tuple") = decide (T ≠ "tuple") := by
      show (Value.type T != Value.type "tuple") = _
      rw [Bool.eq_iff_iff, bne_iff_ne, decide_eq_true_iff]
      exact ⟨fun h e => h (by rw [e]), fun h e => h (by injection e)⟩
    rw [z]
    exact q
/-- sorted: the same things, rising by their keys -/
def RisR {O : KeyOrd} (R : Value → O.α → Prop) (vs : List Value) : Prop := vs.Pairwise fun x y => ∀ a b, R x a → R y b → O.blt b a = false
theorem zip_self {vs : List Value} {p : Value × Value} (h : p ∈ vs.zip vs) : p.1 = p.2 ∧ p.1 ∈ vs := mem_zip_self h
theorem out_sorted {O : KeyOrd} {R : Value → O.α → Prop} (fn : ∀ {v a b}, R v a → R v b → a = b) {d : O.α} {vs : List Value} (hk : ∀ v ∈ vs, ∃ a, R v a) {xs : Array Keyed} (pm : xs.Perm (pairsOf vs)) (r : Rz (relK O R d) xs (pairsOf vs).size) :
    (xs.map (·.2)).toList.Perm vs ∧ RisR R (xs.map (·.2)).toList := by
  have pl : xs.toList.Perm (vs.zip vs) := by rw [← pairsOf_toList]; exact Array.perm_iff_toList_perm.mp pm
  have both : ∀ p ∈ xs.toList, p.1 = p.2 ∧ p.1 ∈ vs := fun p hp => zip_self (pl.mem_iff.mp hp)
  rw [Array.toList_map]
  constructor
  · have q := pl.map Prod.snd
    rw [List.map_snd_zip (Nat.le_refl _)] at q
    exact q
  · unfold RisR
    rw [List.pairwise_iff_getElem]
    intro i j hi hj hij a b ha hb
    rw [List.length_map] at hi hj
    have hi' : i < xs.size := by rw [← Array.length_toList]; exact hi
    have hj' : j < xs.size := by rw [← Array.length_toList]; exact hj
    have key : ∀ {k : Nat} (hk' : k < xs.size) {c : O.α}, R xs[k].2 c → KK (relK O R d) xs k = c := by
      intro k hk' c hc
      have e := (both xs[k] (Array.mem_toList_iff.mpr (Array.getElem_mem hk'))).1
      rw [← e] at hc
      obtain ⟨c', h'⟩ := relK_at (d := d) hc
      have : c' = c := fn (relK_of h') hc
      unfold KK
      rw [Array.getElem?_eq_getElem hk']
      show ((relK O R d).keyOf xs[k].1).getD _ = c
      rw [h', this]
      rfl
    rw [List.getElem_map, Array.getElem_toList] at ha hb
    have q := r i j (Nat.le_of_lt hij) (by rw [← pm.size_eq]; exact hj')
    rw [key hi' ha, key hj' hb] at q
    exact q
theorem far_push {h : Heap} {l b : Addr} {g : Obj → Obj} {o1 o2 : Obj} (lt : b < h.objs.size) : (((h.update l g).push o1).push o2).get? b = (h.update l g).get? b := by
  have l1 : b < (h.update l g).objs.size := by rw [Heap.size_update]; exact lt
  rw [Heap.get?_push_ne _ _ _ (Nat.ne_of_lt (by rw [size_push']; exact Nat.lt_succ_of_lt l1)), Heap.get?_push_ne _ _ _ (Nat.ne_of_lt l1)]
theorem stay_sort {h : Heap} {l : Addr} {vs : List Value} {n : Nat} (ho : h.get? l = some (seqObj "list" vs.toArray n)) (o1 o2 : Obj) : TupsStay h (((h.update l (Obj.mapSeq fun _ => #[])).push o1).push o2) := by
  intro b o hb hc
  have ne : b ≠ l := fun z => by
    rw [z, ho] at hb
    cases hb
    exact absurd hc (by show ¬ Value.type "list" = Value.type "tuple"; intro z; injection z with z; exact absurd z (by decide))
  have lt := Heap.lt_size hb
  rw [far_push lt, Heap.get?_update_ne _ _ _ _ ne]
  exact hb
/-- xs.sort() of pairs -/
theorem sort_pairs (e : El prog w O R T) (f : El prog w U S V) {l : Addr} {vs : List Value} {n : Nat} {P : Fin → Shared → Prop} (ho : s.heap.get? l = some (seqObj "list" vs.toArray n)) (hk : ∀ v ∈ vs, ∃ a, PairR R S s.heap v a) (h64 : vs.length < 64) (hu : A.units + 8 < cLine) (d : O.α × U.α)
    (fin : ∀ out : Array Value, out.toList.Perm vs → RisR (O := lexO O U) (PairR R S s.heap) out.toList → P (.done (.ret .none)) { s with heap := sortedHeap s.heap l vs out }) : wpAny (model prog w) A (Builtin.«list.sort» ⟨[.ref l], []⟩) P E s := by
  rw [list_sort_plain]
  refine wpAny_bind (listItems_at ho rfl ?_)
  refine wpAny_bind (listUpdate_at ho rfl ?_)
  obtain ⟨e1, ho1⟩ : ∃ m, (s.heap.update l (Obj.mapSeq fun _ => #[])).get? l = some (seqObj "list" #[] m) := ⟨_, get?_update_seq ho fun _ => #[]⟩
  refine wpAny_bind (seqEpoch_at ho1 rfl ?_)
  refine wpAny_bind (wpAny_newTuple ?_)
  refine wpAny_bind (wpAny_newList ?_)
  refine wpAny_holding ?_
  have ll := Heap.lt_size ho
  have ho2 : (((s.heap.update l (Obj.mapSeq fun _ => #[])).push (seqObj "tuple" vs.toArray 0)).push (seqObj "list" #[] 0)).get? l = some (seqObj "list" #[] e1) := by
    rw [far_push ll]
    exact ho1
  have st := stay_sort ho (seqObj "tuple" vs.toArray 0) (seqObj "list" #[] 0)
  have hk' : ∀ v ∈ vs, ∃ a, PairR R S (((s.heap.update l (Obj.mapSeq fun _ => #[])).push (seqObj "tuple" vs.toArray 0)).push (seqObj "list" #[] 0)) v a := fun v hv => let ⟨a, h⟩ := hk v hv; ⟨a, pair_mono e f st h⟩
  have back : ∀ {v a}, v ∈ vs → PairR R S s.heap v a → PairR R S (((s.heap.update l (Obj.mapSeq fun _ => #[])).push (seqObj "tuple" vs.toArray 0)).push (seqObj "list" #[] 0)) v a := fun _ h => pair_mono e f st h
  show wpAny (model prog w) A _ P E { s with heap := ((s.heap.update l (Obj.mapSeq fun _ => #[])).push (seqObj "tuple" vs.toArray 0)).push (seqObj "list" #[] 0) }
  dsimp only
  have vsz : vs.toArray.size = vs.length := List.size_toArray
  have finish : ∀ u : SortSt, (arrOf u).Perm (pairsOf vs) → failedOf u = none → Rz (relK (lexO O U) (PairR R S (((s.heap.update l (Obj.mapSeq fun _ => #[])).push (seqObj "tuple" vs.toArray 0)).push (seqObj "list" #[] 0))) d) (arrOf u) (pairsOf vs).size →
      P (.done (.ret .none)) { s with heap := sortedHeap s.heap l vs ((arrOf u).map (·.2)) } := fun u pm _ r => by
    obtain ⟨p1, p2⟩ := out_sorted (O := lexO O U) (R := PairR R S (((s.heap.update l (Obj.mapSeq fun _ => #[])).push (seqObj "tuple" vs.toArray 0)).push (seqObj "list" #[] 0))) (fun h g => pair_fn e f h g) hk' pm r
    exact fin _ p1 (p2.imp_of_mem fun {x y} hx hy h a b ha hb => h a b (back (p1.mem_iff.mp hx) ha) (back (p1.mem_iff.mp hy) hb))
  by_cases c : vs.toArray.size < 2
  · rw [if_pos c, if_pos c]
    refine wpAny_bind (wpAny_pure ?_)
    rw [StateT.run_pure]
    refine wpAny_bind (wpAny_pure ?_)
    dsimp only
    refine wpAny_bind (seqEpoch_at ho2 rfl ?_)
    refine wpAny_bind (listUpdate_at ho2 rfl ?_ (hsz2 := by rw [Array.size_map]; show (pairsOf vs).size ≤ _; rw [pairsOf_size]; exact Nat.le_trans (Nat.le_of_lt h64) (by decide)))
    rw [show (e1 != e1) = false from bne_self_eq_false e1]
    rw [if_neg Bool.false_ne_true]
    refine wpAny_pure (finish (SortSt.mk' general' (vs.toArray.zip vs.toArray) #[] 7 none) (Array.Perm.refl _) rfl fun i j hij hj => ?_)
    obtain rfl : i = j := by rw [pairsOf_size] at hj; omega
    exact (relK (lexO O U) _ d).irrefl _
  · rw [if_neg c, if_neg c]
    have vn : vs ≠ [] := fun z => by rw [z] at c; exact c (by decide)
    refine wpAny_bind (kind_pair (O := O) (U := U) e hk' vn ?_)
    have hc := cmp_pair (A := A) (s := { s with heap := ((s.heap.update l (Obj.mapSeq fun _ => #[])).push (seqObj "tuple" vs.toArray 0)).push (seqObj "list" #[] 0) }) e f hu d (decide (T ≠ "tuple")) (fun z => of_decide_eq_true z)
    refine wpAny_bind (wpAny_mono (runs_up (E := E) (xs0 := pairsOf vs) (st := SortSt.mk' (tuples' (decide (T ≠ "tuple"))) (vs.toArray.zip vs.toArray) #[] 7 none) (Q := fun _ u => (arrOf u).Perm (pairsOf vs) ∧ failedOf u = none ∧ Rz _ (arrOf u) (pairsOf vs).size) hc
      (fun p hp => ?_) ⟨Array.Perm.refl _, rfl, rfl, rfl⟩ (by rw [pairsOf_size]; omega) (by rw [pairsOf_size]; exact h64) fun u a1 a2 a3 => ⟨a1, a2, a3⟩) ?_ fun _ _ z => z)
    · rw [pairsOf_toList] at hp
      obtain ⟨a, ha⟩ := hk' p.1 (zip_self hp).2
      exact relK_at ha
    rintro ⟨⟨⟩, u⟩ s2 ⟨rfl, pm, fl, r⟩
    dsimp only
    refine wpAny_bind (seqEpoch_at ho2 rfl ?_)
    refine wpAny_bind (listUpdate_at ho2 rfl ?_ (hsz2 := by rw [Array.size_map]; exact Nat.le_trans (Nat.le_of_eq (pm.size_eq.trans (pairsOf_size _))) (Nat.le_trans (Nat.le_of_lt h64) (by decide))))
    rw [fl]
    rw [show (e1 != e1) = false from bne_self_eq_false e1]
    rw [if_neg Bool.false_ne_true]
    exact wpAny_pure (finish u pm fl r)
end
end L2

namespace L2
open PySem PySem.Spec PyProof.Rows
section
variable {prog : Program} {w : World} {A : Around} {E : Value → Shared → Prop} {s : Shared}
end
section
variable {X : Cx}
theorem perm_refs {as : List Addr} {out : List Value} (h : out.Perm (as.map Value.ref)) : ∃ bs : List Addr, bs.Perm as ∧ out = bs.map Value.ref := by
  let g : Value → Addr := fun v => match v with | .ref a => a | _ => 0
  refine ⟨out.map g, ?_, ?_⟩
  · have q := h.map g
    rw [List.map_map] at q
    rw [show (g ∘ Value.ref) = id from rfl, List.map_id] at q
    exact q
  · rw [List.map_map]
    have e : ∀ l : List Value, (∀ v ∈ l, ∃ a, v = .ref a) → l = l.map (Value.ref ∘ g) := fun l hl => by
      induction l with
      | nil => rfl
      | cons v l ih =>
        obtain ⟨a, rfl⟩ := hl v (.head _)
        rw [List.map_cons, ← ih fun x hx => hl x (.tail _ hx)]
        rfl
    exact e out fun v hv => by
      obtain ⟨a, _, rfl⟩ := List.mem_map.mp (h.mem_iff.mp hv)
      exact ⟨a, rfl⟩
/-- sorted(..) of pairs in a list or a tuple -/
def rSortG {O : KeyOrd} (F : Hp → Addr → O.α → Prop) : List V → Hp → VK → Prop := fun xs H Q => ∃ (p : Addr) (as : List Addr), xs = [.ref p] ∧ (H p = some (.lst (as.map V.ref)) ∨ H p = some (.tup (as.map V.ref))) ∧ as.length < 64 ∧ (∀ a ∈ as, ∃ k, F H a k) ∧
  ∀ bs : List Addr, bs.Perm as → (bs.Pairwise fun a b => ∀ k l, F H a k → F H b l → O.blt l k = false) → ∀ q, H q = none → Q (.ref q) (upd H q (.lst (bs.map V.ref)))
theorem tup_at {pins : List (Addr × Obj)} {σ : St} {H : Hp} {s : Shared} {a : Addr} {x y : V} (I : Inv X pins σ H s) (h : H a = some (.tup [x, y])) : ∃ o n u v, s.heap.get? a = some o ∧ o.cls = .type "tuple" ∧ o.data = .seq #[u, v] n ∧ RelV x u ∧ RelV y v := by
  obtain ⟨_, its, r, o, e1, e2, n, e3⟩ := (show ObjOk X.prog X.w H s.heap a (.tup [x, y]) from I.hok a _ h)
  obtain ⟨u, v, rfl, ru, rv⟩ := vals2 r
  exact ⟨o, n, u, v, e1, e2.1, e3, ru, rv⟩
def FSI (H : Hp) (a : Addr) (k : (lexO strO intO).α) : Prop := ∃ (z : Str) (n : Int), H a = some (.tup [.str z, .int n]) ∧ k = (z.cps.toList, n)
def FII (H : Hp) (a : Addr) (k : (lexO intO intO).α) : Prop := ∃ (i j : Int), H a = some (.tup [.int i, .int j]) ∧ k = (i, j)
def FTI (H : Hp) (a : Addr) (k : (lexO (lexO intO intO) intO).α) : Prop := ∃ (b : Addr) (i j n : Int), H a = some (.tup [.ref b, .int n]) ∧ H b = some (.tup [.int i, .int j]) ∧ k = ((i, j), n)
end
end L2

namespace L2
open PySem PySem.Spec PyProof.Rows
/-! ### a dict by its entries, whatever its keys are -/
def RwD (h : Heap) (d : Addr) (es : Array DictEntry) (ep : Nat) : Prop := ∃ o, h.get? d = some o ∧ o.ExactDict ∧ o.data = .dict es ep
theorem RwD.typeIs {s : Shared} {d : Addr} {es : Array DictEntry} {ep : Nat} (x : RwD s.heap d es ep) : s.TypeIs (.ref d) "dict" := let ⟨o, h, c, _⟩ := x; ⟨o, h, c.1⟩
theorem RwD.at {h g : Heap} {d : Addr} {es : Array DictEntry} {ep : Nat} (x : RwD h d es ep) (k : ∀ o, h.get? d = some o → g.get? d = some o) : RwD g d es ep := let ⟨o, h, r⟩ := x; ⟨o, k _ h, r⟩
theorem RwD.lt {h : Heap} {d : Addr} {es : Array DictEntry} {ep : Nat} (x : RwD h d es ep) : d < h.objs.size := let ⟨_, h, _⟩ := x; Heap.lt_size h
theorem own_no : Builtin.Dict_items.ownsTuple "dict_keyiterator" = false ∧ Builtin.Dict_items.ownsTuple "dict_valueiterator" = false ∧ Builtin.Dict_items.ownsTuple "dict_itemiterator" = true := by decide
theorem ref_some (d : Addr) : ¬ ((Value.ref d == Value.none) = true) := Bool.false_ne_true
section
variable {prog : Program} {w : World} {A : Around} {E : Value → Shared → Prop} {s : Shared} {it d : Addr} {i ep : Nat} {es : Array DictEntry}
theorem bP {α β : Type} {M : Model} {a : α} {k : α → Sem β} {Q : β → Shared → Prop} (h : wpAny M A (k a) Q E s) : wpAny M A (pure a >>= k) Q E s := wpAny_bind (wpAny_pure h)
/-- next(..) of an iterator whose step is told: a thing, or the end -/
theorem next_at {T id : String} {B : Builtin} {Q : Option Value → Shared → Prop} (ty : s.TypeIs (.ref it) T) (sl : Slot T (Str.ofString "__next__") id) (en : entryFor table id = some B) (ar : argsOk id { pos := [.ref it] })
    (h : wpAny (model prog w) A.in1 (B ⟨[.ref it], []⟩) (fun fin s' => ∃ v, fin = .done (.ret v) ∧ Q (some v) s') (fun e s' => s'.TypeIs e "StopIteration" ∧ Q none s') s) : wpAny (model prog w) A (pyNext (.ref it)) Q E s := by
  unfold pyNext
  refine wpAny_bind (wpAny_attempt (wpAny_callSpecial?_slotG ty sl.toG (wpAny_mono (wpAny_call_entry sl ty en (Q := fun v s' => Q (some v) s') h ar) (fun v s' q => wpAny_pure q) (fun e s' q => ?_))))
  exact wpAny_bind (wpAny_isInstance q.1 isSubtype_stop (by rw [if_pos rfl]; exact wpAny_pure q.2))
theorem rk_item {Q : Option Value → Shared → Prop} (zi : s.heap.IsKeyIter it d i es.size ep) (zm : RwD s.heap d es ep) (zx : i < es.size)
    (zq : ∀ g : Heap, g.IsKeyIter it d (i + 1) es.size ep → Heap.SameBut it s.heap g → Q (some es[i].key) { s with heap := g }) : wpAny (model prog w) A (pyNext (.ref it)) Q E s := by
  obtain ⟨o, go, co, fo⟩ := id zi
  obtain ⟨od, yo, _, yd⟩ := zm
  refine next_at zi.typeIs PySem.F.slot_dict_keyiterator_next PySem.F.entry_dict_keyiterator_next (PySem.F.args_dict_keyiterator_next_1 _) (bP (wpAny_bind (wpAny_bind (wpAny_bind (wpAny_typeNameOfWhole_keyiter zi.typeIs (wpAny_pure (wpAny_bind (wpAny_fieldsOf go fo ?_))))))))
  simp only [own_no.1, Bool.false_eq_true, if_false]
  show wpAny (model prog w) _ (if (Value.ref d == Value.none) = true then _ else _) _ _ s
  rw [if_neg (ref_some d)]; refine bP (wpAny_bind (wpAny_dictEntries yo yd ?_))
  rw [if_neg (by simp)]; refine bP (wpAny_bind (wpAny_dictEpoch yo yd ?_))
  rw [if_neg (by simp)]; refine wpAny_pure ?_
  simp only [show ¬ ((i : Int) < 0) from by omega, if_false, Int.toNat_natCast, Array.getElem?_eq_getElem zx]
  refine wpAny_bind (wpAny_bind (wpAny_typeNameOfWhole_keyiter zi.typeIs (wpAny_pure (wpAny_bind (wpAny_isOneOf_keyiter zi.typeIs ?_)))))
  show wpAny _ _ (setField (.ref it) 1 (rawInt ((i : Int) + 1)) >>= fun _ => _) _ _ s
  refine wpAny_bind (wpAny_setField go fo (by simp) ?_)
  have zj : (s.heap.update it (Obj.mapFields (·.setIfInBounds 1 (rawInt ((i : Int) + 1))))).IsKeyIter it d (i + 1) es.size ep := ⟨_, Heap.get?_update_self _ go (Obj.isFreed_of_fields (Obj.data_mapFields fo _)), (Obj.cls_mapFields ..).trans co, by rw [Obj.data_mapFields fo]; simp [rawInt]⟩
  have ty : Shared.TypeIs { s with heap := s.heap.update it (Obj.mapFields (·.setIfInBounds 1 (rawInt ((i : Int) + 1)))) } (.ref it) "dict_keyiterator" := zj.typeIs
  refine wpAny_bind (wpAny_holding (wpAny_bind (wpAny_isOneOf_keyiter ty ?_)))
  show wpAny _ _ (pure es[i].key) _ _ { s with heap := _ }
  exact wpAny_pure (wpAny_pure ⟨_, rfl, zq _ zj (Heap.SameBut.update ..)⟩)
theorem rk_done {Q : Option Value → Shared → Prop} (zh : A.handled = none) (zi : s.heap.IsKeyIter it d i es.size ep) (zm : RwD s.heap d es ep) (zx : es.size ≤ i) (zq : ∀ g : Heap, Heap.ExtBut it s.heap g → Q none { s with heap := g }) : wpAny (model prog w) A (pyNext (.ref it)) Q E s := by
  obtain ⟨o, go, co, fo⟩ := id zi
  obtain ⟨od, yo, _, yd⟩ := zm
  refine next_at zi.typeIs PySem.F.slot_dict_keyiterator_next PySem.F.entry_dict_keyiterator_next (PySem.F.args_dict_keyiterator_next_1 _) (bP (wpAny_bind (wpAny_bind (wpAny_bind (wpAny_typeNameOfWhole_keyiter zi.typeIs (wpAny_pure (wpAny_bind (wpAny_fieldsOf go fo ?_))))))))
  simp only [own_no.1, Bool.false_eq_true, if_false]
  show wpAny (model prog w) _ (if (Value.ref d == Value.none) = true then _ else _) _ _ s
  rw [if_neg (ref_some d)]; refine bP (wpAny_bind (wpAny_dictEntries yo yd ?_))
  rw [if_neg (by simp)]; refine bP (wpAny_bind (wpAny_dictEpoch yo yd ?_))
  rw [if_neg (by simp)]; refine wpAny_pure ?_
  simp only [show ¬ ((i : Int) < 0) from by omega, if_false, Int.toNat_natCast, Array.getElem?_eq_none zx]
  refine wpAny_bind (wpAny_bind (wpAny_typeNameOfWhole_keyiter zi.typeIs (wpAny_pure ?_)))
  show wpAny _ _ (setField (.ref it) 0 .none >>= fun _ => _) _ _ s
  refine wpAny_bind (wpAny_setField go fo (by simp) (raise_stop (by simpa using zh) fun g e k ty => ⟨ty, zq g fun b u nb eb => k b u ?_⟩))
  exact (Heap.get?_update_other _ _ (Ne.symm nb)).trans eb
theorem rv_item {Q : Option Value → Shared → Prop} (zi : s.heap.IsValIter it d i es.size ep) (zm : RwD s.heap d es ep) (zx : i < es.size)
    (zq : ∀ g : Heap, g.IsValIter it d (i + 1) es.size ep → Heap.SameBut it s.heap g → Q (some es[i].val) { s with heap := g }) : wpAny (model prog w) A (pyNext (.ref it)) Q E s := by
  obtain ⟨o, go, co, fo⟩ := id zi
  obtain ⟨od, yo, _, yd⟩ := zm
  refine next_at zi.typeIs PySem.F.slot_dict_valueiterator_next PySem.F.entry_dict_valueiterator_next (PySem.F.args_dict_valueiterator_next_1 _) (bP (wpAny_bind (wpAny_bind (wpAny_bind (wpAny_typeNameOfWhole_valiter zi.typeIs (wpAny_pure (wpAny_bind (wpAny_fieldsOf go fo ?_))))))))
  simp only [own_no.2.1, Bool.false_eq_true, if_false]
  show wpAny (model prog w) _ (if (Value.ref d == Value.none) = true then _ else _) _ _ s
  rw [if_neg (ref_some d)]; refine bP (wpAny_bind (wpAny_dictEntries yo yd ?_))
  rw [if_neg (by simp)]; refine bP (wpAny_bind (wpAny_dictEpoch yo yd ?_))
  rw [if_neg (by simp)]; refine wpAny_pure ?_
  simp only [show ¬ ((i : Int) < 0) from by omega, if_false, Int.toNat_natCast, Array.getElem?_eq_getElem zx]
  refine wpAny_bind (wpAny_bind (wpAny_typeNameOfWhole_valiter zi.typeIs (wpAny_pure (wpAny_bind (wpAny_isOneOf_valiter zi.typeIs ?_)))))
  show wpAny _ _ (setField (.ref it) 1 (rawInt ((i : Int) + 1)) >>= fun _ => _) _ _ s
  refine wpAny_bind (wpAny_setField go fo (by simp) ?_)
  have zj : (s.heap.update it (Obj.mapFields (·.setIfInBounds 1 (rawInt ((i : Int) + 1))))).IsValIter it d (i + 1) es.size ep := ⟨_, Heap.get?_update_self _ go (Obj.isFreed_of_fields (Obj.data_mapFields fo _)), (Obj.cls_mapFields ..).trans co, by rw [Obj.data_mapFields fo]; simp [rawInt]⟩
  have ty : Shared.TypeIs { s with heap := s.heap.update it (Obj.mapFields (·.setIfInBounds 1 (rawInt ((i : Int) + 1)))) } (.ref it) "dict_valueiterator" := zj.typeIs
  refine wpAny_bind (wpAny_holding (wpAny_bind (wpAny_isOneOf_valiter ty ?_)))
  refine wpAny_bind (wpAny_isOneOf_valiter ty ?_)
  show wpAny _ _ (pure es[i].val) _ _ { s with heap := _ }
  exact wpAny_pure (wpAny_pure ⟨_, rfl, zq _ zj (Heap.SameBut.update ..)⟩)
theorem rv_done {Q : Option Value → Shared → Prop} (zh : A.handled = none) (zi : s.heap.IsValIter it d i es.size ep) (zm : RwD s.heap d es ep) (zx : es.size ≤ i) (zq : ∀ g : Heap, Heap.ExtBut it s.heap g → Q none { s with heap := g }) : wpAny (model prog w) A (pyNext (.ref it)) Q E s := by
  obtain ⟨o, go, co, fo⟩ := id zi
  obtain ⟨od, yo, _, yd⟩ := zm
  refine next_at zi.typeIs PySem.F.slot_dict_valueiterator_next PySem.F.entry_dict_valueiterator_next (PySem.F.args_dict_valueiterator_next_1 _) (bP (wpAny_bind (wpAny_bind (wpAny_bind (wpAny_typeNameOfWhole_valiter zi.typeIs (wpAny_pure (wpAny_bind (wpAny_fieldsOf go fo ?_))))))))
  simp only [own_no.2.1, Bool.false_eq_true, if_false]
  show wpAny (model prog w) _ (if (Value.ref d == Value.none) = true then _ else _) _ _ s
  rw [if_neg (ref_some d)]; refine bP (wpAny_bind (wpAny_dictEntries yo yd ?_))
  rw [if_neg (by simp)]; refine bP (wpAny_bind (wpAny_dictEpoch yo yd ?_))
  rw [if_neg (by simp)]; refine wpAny_pure ?_
  simp only [show ¬ ((i : Int) < 0) from by omega, if_false, Int.toNat_natCast, Array.getElem?_eq_none zx]
  refine wpAny_bind (wpAny_bind (wpAny_typeNameOfWhole_valiter zi.typeIs (wpAny_pure ?_)))
  show wpAny _ _ (setField (.ref it) 0 .none >>= fun _ => _) _ _ s
  refine wpAny_bind (wpAny_setField go fo (by simp) (raise_stop (by simpa using zh) fun g e k ty => ⟨ty, zq g fun b u nb eb => k b u ?_⟩))
  exact (Heap.get?_update_other _ _ (Ne.symm nb)).trans eb
/-- iter(d) -/
theorem rk_iter {Q : Value → Shared → Prop} (lo : (d == sysModules) = false) (zm : RwD s.heap d es ep)
    (zq : Q (.ref s.heap.objs.size) { s with heap := s.heap.push { cls := .type "dict_keyiterator", data := .fields #[.ref d, .int 0 0, .int es.size 0, .int ep 0] } }) : wpAny (model prog w) A (pyIter (.ref d)) Q E s := by
  obtain ⟨o, yo, _, yd⟩ := id zm
  refine wpAny_pyIter_slot zm.typeIs PySem.F.slot_dict_iter (wpAny_call_entry PySem.F.slot_dict_iter zm.typeIs PySem.F.entry_dict_iter (wpAny_bind (wpAny_bind (wpAny_notOrdered_dict zm.typeIs ?_))) (PySem.F.args_dict_iter_1 _))
  show wpAny (model prog w) _ (pure (Value.ref d)) _ _ s
  refine wpAny_pure (show wpAny (model prog w) _ (Builtin.Dict.showsAll d >>= fun _ => _) _ _ s from wpAny_bind ?_)
  unfold Builtin.Dict.showsAll; rw [lo, if_neg (by decide)]
  refine wpAny_pure (wpAny_bind (wpAny_dictEntries yo yd (wpAny_bind (wpAny_dictEpoch yo yd (wpAny_bind (wpAny_newObj_type (wpAny_pure ⟨_, rfl, "dict_keyiterator", _, ⟨_, Heap.get?_push_size _ rfl, rfl⟩, PySem.F.slot_dict_keyiterator_next.lookup, ?_⟩)))))))
  simpa [rawInt] using zq
/-- iter(d.values()) -/
theorem rv_iter {v : Addr} {Q : Value → Shared → Prop} (zv : s.heap.IsValuesView v d) (zm : RwD s.heap d es ep)
    (zq : Q (.ref s.heap.objs.size) { s with heap := s.heap.push { cls := .type "dict_valueiterator", data := .fields #[.ref d, .int 0 0, .int es.size 0, .int ep 0] } }) : wpAny (model prog w) A (pyIter (.ref v)) Q E s := by
  obtain ⟨ov, vo, _, vd⟩ := id zv
  obtain ⟨o, yo, _, yd⟩ := id zm
  refine wpAny_pyIter_slot zv.typeIs PySem.F.slot_dict_values_iter (wpAny_call_entry PySem.F.slot_dict_values_iter zv.typeIs PySem.F.entry_dict_values_iter (bP (wpAny_bind (wpAny_bind (wpAny_field vo vd (x := .ref d) rfl (wpAny_pure (wpAny_bind ?_)))))) (PySem.F.args_dict_values_iter_1 _))
  unfold Builtin.Dict_items.newIterator; skip
  refine wpAny_bind (wpAny_dictEntries yo yd (wpAny_bind (wpAny_dictEpoch yo yd ?_)))
  simp only [own_no.2.1, Bool.false_eq_true, if_false]
  refine wpAny_newObj_type (wpAny_pure ⟨_, rfl, "dict_valueiterator", _, ⟨_, Heap.get?_push_size _ rfl, rfl⟩, PySem.F.slot_dict_valueiterator_next.lookup, by simpa [rawInt] using zq⟩)
/-- the walks -/
theorem rk_walks (zh : A.handled = none) (I d : Addr) (ne : d ≠ I) (es : Array DictEntry) (ep : Nat) : Walks prog w A I [I, d] [I] es.size (fun i v => ∃ e, es[i]? = some e ∧ v = e.key) (fun i h => h.IsKeyIter I d i es.size ep ∧ RwD h d es ep) where
  sub := fun b zb => by rw [List.mem_singleton.mp zb]; exact .head _
  frame := fun _ _ _ st k => ⟨st.1.at fun o e => k I (.head _) o e, st.2.at fun o e => k d (.tail _ (.head _)) o e⟩
  item := fun i s Q E zi st q => rk_item st.1 st.2 zi fun g z sb => q _ g s.toks ⟨_, Array.getElem?_eq_getElem zi, rfl⟩ ⟨z, st.2.at fun o e => sb.extBut d o ne e⟩ fun b o nb e => sb.extBut b o (fun z => nb (by rw [z]; exact .head _)) e
  done := fun s Q E st q => rk_done zh st.1 st.2 (Nat.le_refl _) fun g x => q g s.toks fun b o nb e => x b o (fun z => nb (by rw [z]; exact .head _)) e
  self := fun _ _ _ _ st q => wpAny_pyIter_keyiter st.1 q
theorem rv_walks (zh : A.handled = none) (I d : Addr) (ne : d ≠ I) (es : Array DictEntry) (ep : Nat) : Walks prog w A I [I, d] [I] es.size (fun i v => ∃ e, es[i]? = some e ∧ v = e.val) (fun i h => h.IsValIter I d i es.size ep ∧ RwD h d es ep) where
  sub := fun b zb => by rw [List.mem_singleton.mp zb]; exact .head _
  frame := fun _ _ _ st k => ⟨st.1.at fun o e => k I (.head _) o e, st.2.at fun o e => k d (.tail _ (.head _)) o e⟩
  item := fun i s Q E zi st q => rv_item st.1 st.2 zi fun g z sb => q _ g s.toks ⟨_, Array.getElem?_eq_getElem zi, rfl⟩ ⟨z, st.2.at fun o e => sb.extBut d o ne e⟩ fun b o nb e => sb.extBut b o (fun z => nb (by rw [z]; exact .head _)) e
  done := fun s Q E st q => rv_done zh st.1 st.2 (Nat.le_refl _) fun g x => q g s.toks fun b o nb e => x b o (fun z => nb (by rw [z]; exact .head _)) e
  self := fun _ _ _ _ st q => wpAny_pyIter_valiter st.1 q
theorem rk_src (lo : (d == sysModules) = false) : PySem.W.KdlSrc prog w "dict" d d es.size (fun i v => ∃ e, es[i]? = some e ∧ v = e.key) (fun h => RwD h d es ep) where
  type := fun _ z => z.typeIs
  there := fun _ z => ⟨z.lt, z.lt⟩
  keep := fun _ _ z k => z.at fun o e => k d (.inl rfl) o e
  notList := by decide
  notTuple := by decide
  hint := fun _ _ _ _ z q => PySem.W.kdl_hint_dict z.typeIs q
  iter := fun _ _ zh z => ⟨_, _, (fun _ _ q => rk_iter lo z q), rk_walks zh _ d (Nat.ne_of_lt z.lt) es ep, ⟨⟨_, Heap.get?_push_size _ rfl, rfl, rfl⟩, z.at fun o e => Heap.get?_push_of_some _ e⟩⟩
theorem rv_src {r : Addr} : PySem.W.KdlSrc prog w "dict_values" r d es.size (fun i v => ∃ e, es[i]? = some e ∧ v = e.val) (fun h => h.IsValuesView r d ∧ RwD h d es ep) where
  type := fun _ z => z.1.typeIs
  there := fun _ z => ⟨let ⟨_, e, _⟩ := z.1; Heap.lt_size e, z.2.lt⟩
  keep := fun _ _ z k => ⟨let ⟨o, e, x⟩ := z.1; ⟨o, k r (.inl rfl) o e, x⟩, z.2.at fun o e => k d (.inr rfl) o e⟩
  notList := by decide
  notTuple := by decide
  hint := fun _ _ _ _ z q => PySem.W.kdl_hint_values z.1.typeIs q
  iter := fun _ _ zh z => ⟨_, _, (fun _ _ q => rv_iter z.1 z.2 q), rv_walks zh _ d (Nat.ne_of_lt z.2.lt) es ep, ⟨⟨_, Heap.get?_push_size _ rfl, rfl, rfl⟩, z.2.at fun o e => Heap.get?_push_of_some _ e⟩⟩
theorem src_list {f : DictEntry → Value} {xs : Array Value} (h : ItemsOf (fun i v => ∃ e, es[i]? = some e ∧ v = f e) xs es.size) : xs.toList = es.toList.map f := by
  obtain ⟨sz, at_⟩ := h
  refine List.ext_getElem? fun j => ?_
  rw [Array.getElem?_toList, List.getElem?_map, Array.getElem?_toList]
  by_cases hj : j < xs.size
  · obtain ⟨e, h1, h2⟩ := at_ j xs[j] (Array.getElem?_eq_getElem hj)
    rw [Array.getElem?_eq_getElem hj, h1, h2]
    rfl
  · rw [Array.getElem?_eq_none (by omega), Array.getElem?_eq_none (by omega)]
    rfl
end
end L2

namespace L2
open PySem PySem.Spec PyProof.Rows
/-! ### dicts from pairs of ints to ints -/
abbrev Sps := List ((Int × Int) × Int)
def kk (p : Int × Int) : List Key := [.inl p.1, .inl p.2]
def tvOf (ps : Sps) : List (List Key × V) := ps.map fun p => (kk p.1, .int p.2)
theorem kk_inj {p q : Int × Int} (e : kk p = kk q) : p = q := by
  unfold kk at e
  injection e with e1 e2
  injection e2 with e2 _
  exact Prod.ext (Sum.inl.inj e1) (Sum.inl.inj e2)
theorem tvOf_len (ps : Sps) : (tvOf ps).length = ps.length := List.length_map _
theorem tvOf_keys (ps : Sps) : (tvOf ps).map (·.1) = (ps.map (·.1)).map kk := by
  unfold tvOf
  rw [List.map_map, List.map_map]
  rfl
/-- pairs of ints at their places -/
def KsAt (H : Hp) : List Addr → List (Int × Int) → Prop := Paired fun b k => H b = some (.tup [.int k.1, .int k.2])
theorem KsAt.mono {H H' : Hp} {bs : List Addr} {ks : List (Int × Int)} (h : KsAt H bs ks) (g : ∀ b xs, H b = some (.tup xs) → H' b = some (.tup xs)) : KsAt H' bs ks := Paired.mapP h fun _ _ e => g _ _ e
/-! ### their order -/
def leK (a b : Int × Int) : Bool := decide (a.1 < b.1) || (decide (a.1 = b.1) && decide (a.2 ≤ b.2))
theorem leK_iff {a b : Int × Int} : leK a b = true ↔ a.1 < b.1 ∨ (a.1 = b.1 ∧ a.2 ≤ b.2) := by
  unfold leK
  simp only [Bool.or_eq_true, Bool.and_eq_true, decide_eq_true_iff]
theorem leK_total (a b : Int × Int) : (leK a b || leK b a) = true := by
  rw [Bool.or_eq_true, leK_iff, leK_iff]
  omega
theorem leK_trans (a b c : Int × Int) (h1 : leK a b = true) (h2 : leK b c = true) : leK a c = true := by
  rw [leK_iff] at *
  omega
theorem leK_anti {a b : Int × Int} (h1 : leK a b = true) (h2 : leK b a = true) : a = b := by
  rw [leK_iff] at h1 h2
  exact Prod.ext (by omega) (by omega)
def srtK (ks : List (Int × Int)) : List (Int × Int) := ks.mergeSort leK
theorem srtK_perm (ks : List (Int × Int)) : (srtK ks).Perm ks := List.mergeSort_perm _ _
theorem srtK_pw (ks : List (Int × Int)) : (srtK ks).Pairwise (fun a b => leK a b = true) := List.pairwise_mergeSort leK_trans leK_total ks
theorem riseK_eq : ∀ {l m : List (Int × Int)}, l.Perm m → l.Pairwise (fun a b => leK a b = true) → m.Pairwise (fun a b => leK a b = true) → l = m
  | [], m, p, _, _ => List.Perm.nil_eq p
  | a :: l, [], p, _, _ => absurd p.length_eq (by simp)
  | a :: l, b :: m, p, h1, h2 => by
    have e : a = b := by
      rcases List.mem_cons.mp (p.mem_iff.mp List.mem_cons_self) with q | q
      · exact q
      · rcases List.mem_cons.mp (p.mem_iff.mpr List.mem_cons_self) with r | r
        · exact r.symm
        · exact leK_anti ((List.pairwise_cons.mp h1).1 b r) ((List.pairwise_cons.mp h2).1 a q)
    subst e
    rw [riseK_eq ((List.perm_cons a).mp p) (List.pairwise_cons.mp h1).2 (List.pairwise_cons.mp h2).2]
/-- sorted places have sorted keys -/
theorem ks_sorted {H : Hp} {as bs : List Addr} {ks : List (Int × Int)} (h : KsAt H as ks) (p : bs.Perm as) (pw : bs.Pairwise fun a b => ∀ k l, FII H a k → FII H b l → (lexO intO intO).blt l k = false) : KsAt H bs (srtK ks) := by
  let key : Addr → Int × Int := fun b => match H b with
    | some (.tup [.int i, .int j]) => (i, j)
    | _ => (0, 0)
  have kat : ∀ {b : Addr} {k : Int × Int}, H b = some (.tup [.int k.1, .int k.2]) → key b = k := fun {b k} e => by
    show (match H b with | some (.tup [.int i, .int j]) => (i, j) | _ => (0, 0)) = k
    rw [e]
  have all : ∀ {l : List Addr} {m : List (Int × Int)}, KsAt H l m → l.map key = m ∧ ∀ b ∈ l, H b = some (.tup [.int (key b).1, .int (key b).2]) := fun {l m} r => by
    induction r with
    | nil => exact ⟨rfl, fun _ h => nomatch h⟩
    | @cons b k l m e _ ih =>
      have kb := kat e
      refine ⟨by rw [List.map_cons, kb, ih.1], fun c hc => ?_⟩
      rcases List.mem_cons.mp hc with rfl | hc
      · rw [kb]; exact e
      · exact ih.2 c hc
  obtain ⟨e1, e2⟩ := all h
  have atb : ∀ b ∈ bs, H b = some (.tup [.int (key b).1, .int (key b).2]) := fun b hb => e2 b (p.mem_iff.mp hb)
  have back : ∀ {l : List Addr}, (∀ b ∈ l, H b = some (.tup [.int (key b).1, .int (key b).2])) → KsAt H l (l.map key) := fun {l} hl => by
    induction l with
    | nil => exact .nil
    | cons b l ih => exact .cons (hl b (.head _)) (ih fun c hc => hl c (.tail _ hc))
  have eq : bs.map key = srtK ks := by
    refine riseK_eq ((p.map key).trans (by rw [e1]; exact (srtK_perm ks).symm)) (List.pairwise_map.mpr (pw.imp_of_mem fun {a b} ha hb q => ?_)) (srtK_pw ks)
    have q := q (key a) (key b) ⟨_, _, atb a ha, rfl⟩ ⟨_, _, atb b hb, rfl⟩
    rw [leK_iff]
    by_cases c : (key a).1 < (key b).1
    · exact .inl c
    · by_cases c2 : (key b).1 < (key a).1
      · exact absurd (lex_iff (O := intO) (U := intO) (a := key b) (b := key a) |>.mpr (.inl (decide_eq_true c2))) (by rw [show lexB intO intO (key b) (key a) = false from q]; decide)
      · have e : (key b).1 = (key a).1 := by omega
        by_cases c3 : (key b).2 < (key a).2
        · exact absurd (lex_iff (O := intO) (U := intO) (a := key b) (b := key a) |>.mpr (.inr ⟨e, decide_eq_true c3⟩)) (by rw [show lexB intO intO (key b) (key a) = false from q]; decide)
        · exact .inr ⟨e.symm, by omega⟩
  rw [← eq]
  exact back atb
end L2

namespace L2
open PySem PySem.Spec PyProof.Rows
section
variable {X : Cx}
/-- sorted(..) of pairs, whatever holds them -/
theorem sort_core {O U : KeyOrd} {R : Heap → Value → O.α → Prop} {S : Heap → Value → U.α → Prop} {T W : String} (e : El X.prog X.w O R T) (f : El X.prog X.w U S W) (F : Hp → Addr → (lexO O U).α → Prop)
    (br : ∀ {pins : List (Addr × Obj)} {σ : St} {H : Hp} {s : Shared} {a : Addr} {k : O.α × U.α}, Inv X pins σ H s → F H a k → PairR R S s.heap (.ref a) k) (d : O.α × U.α) (hu : X.A.units + 64 < cLine)
    {pins : List (Addr × Obj)} {s : Shared} {σ : St} {p : Addr} {Q : VK}
    (src : ∀ {E : Value → Shared → Prop} {C : List Value → Shared → Prop}, (∀ (g : Heap) (tk : Nat) (H : Hp) (as : List Addr), Inv X pins σ H { s with heap := g, toks := tk } → as.length < 64 → (∀ a ∈ as, ∃ k, F H a k) →
      (∀ bs : List Addr, bs.Perm as → (bs.Pairwise fun a b => ∀ k l, F H a k → F H b l → (lexO O U).blt l k = false) → ∀ q, H q = none → Q (.ref q) (upd H q (.lst (bs.map V.ref)))) → C (as.map Value.ref) { s with heap := g, toks := tk }) → wpAny (model X.prog X.w) X.A.in1 (collect (.ref p)) C E s) :
    wpAny (model X.prog X.w) X.A (call (.builtin "sorted") [.ref p]) (EP X pins σ Q) X.xe s := by
  refine Calls.call_function_entry kind_sorted plain_sorted entry_sorted (args_sorted1 _) ?_
  unfold Builtin.«sorted»
  refine wpAny_bind (m := checkCount "sorted" 1 1 _) (wpAny_pure (wpAny_bind (src fun g tk H as I h64 hk q => wpAny_bind (wpAny_newList ?_ (by rw [List.length_map]; exact small_le (by omega))))))
  have hoL : (g.push (seqObj "list" (as.map Value.ref).toArray 0)).get? g.objs.size = some (seqObj "list" (as.map Value.ref).toArray 0) := Heap.get?_push_size _ rfl
  have st : TupsStay g (g.push (seqObj "list" (as.map Value.ref).toArray 0)) := fun b ob e _ => Heap.get?_push_of_some _ e
  refine wpAny_bind (wpAny_holding (wpAny_call_entry slot_list_sort ⟨_, hoL, rfl⟩ entry_list_sort (sort_pairs e f hoL (fun v hv => ?_) (by rw [List.length_map]; exact h64) (by show X.A.units + 1 + 1 + 8 < _; omega) d fun out op os => ⟨_, rfl, ?_⟩) (args_list_sort _)))
  · obtain ⟨a, ha, rfl⟩ := List.mem_map.mp hv
    obtain ⟨k, fk⟩ := hk a ha
    exact ⟨k, pair_mono e f st (br I fk)⟩
  refine wpAny_pure ⟨_, rfl, ?_⟩
  obtain ⟨bs, bp, be⟩ := perm_refs op
  obtain ⟨e2, he2⟩ := sortedHeap_at (vs := as.map Value.ref) (out := out) hoL
  refine ⟨.ref g.objs.size, _, I.laid (t' := tk) (o := .lst (bs.map V.ref)) (fun b ob e => ?_) (Nat.le_refl _) ?_, rfl, q bs bp ?_ _ (I.hok.fresh (Nat.le_refl _))⟩
  · have hlt := Heap.lt_size e
    rw [sortedHeap_old (Nat.ne_of_lt hlt) (by rw [size_push']; exact Nat.lt_succ_of_lt hlt)]
    exact Heap.get?_push_of_some _ e
  · refine ⟨by rw [List.length_map, bp.length_eq]; exact small_le (by omega), bs.map Value.ref, e2, refs_vals bs, ?_⟩
    rw [← be, Array.toArray_toList]
    exact he2
  · rw [be] at os
    exact (List.pairwise_map.mp os).imp_of_mem fun {a b} ha hb h k l fk fl => h k l (pair_mono e f st (br I fk)) (pair_mono e f st (br I fl))
/-- the entries of a dict with tuple keys -/
theorem dt_raw {P : Program} {w : World} {H : Hp} {h : Heap} {d : Addr} {kvs : List (List Key × V)} (ok : HOk P w H h) (e : Rd H d (.dT kvs)) : kvs.length ≤ sizeLine ∧ (d == sysModules) = false ∧ ∃ (xs : List (List Key × Addr × Value)) (es : Array DictEntry) (ep : Nat), KT H kvs xs ∧ RwD h d es ep ∧
    es.toList.map DictEntry.key = (xs.map fun x => x.2.1).map Value.ref ∧ es.toList.map DictEntry.val = xs.map (fun x => x.2.2) ∧ es.size = kvs.length := by
  obtain ⟨z, lo, xs, r, o, es, ep, h1, h2, h3, h4, _⟩ := (show ObjOk P w H h d (.dT kvs) from rd_of ok e)
  refine ⟨z, lo, xs, es, ep, r, ⟨o, h1, h2, h3⟩, ?_, ?_, ?_⟩
  · rw [h4, List.map_map, List.map_map]
    rfl
  · rw [h4, List.map_map]
    rfl
  · rw [← Array.length_toList, h4, List.length_map, ← Paired.length r]
theorem kt_at {H : Hp} : ∀ {ps : Sps} {xs : List (List Key × Addr × Value)}, KT H (tvOf ps) xs → KsAt H (xs.map fun x => x.2.1) (ps.map (·.1))
  | [], xs, r => by
    cases (show KT H [] xs from r)
    exact .nil
  | p :: ps, xs, r => by
    cases (show KT H ((kk p.1, .int p.2) :: tvOf ps) xs from r) with
    | cons h t => exact .cons h.2.1 (kt_at t)
/-- sorted(d), its keys pairs of ints -/
def rSortDT : List V → Hp → VK → Prop := fun xs H Q => ∃ (d : Addr) (ps : Sps), xs = [.ref d] ∧ H d = some (.dT (tvOf ps)) ∧ ps.length < 64 ∧ ∀ bs : List Addr, KsAt H bs (srtK (ps.map (·.1))) → ∀ q, H q = none → Q (.ref q) (upd H q (.lst (bs.map V.ref)))
theorem ks_fii {H : Hp} : ∀ {as : List Addr} {ks : List (Int × Int)}, KsAt H as ks → ∀ a ∈ as, ∃ k, FII H a k
  | _, _, .nil, _, h => nomatch h
  | _, _, .cons e r, b, h => (List.mem_cons.mp h).elim (fun z => by rw [z]; exact ⟨_, _, _, e, rfl⟩) (ks_fii r b)
theorem call_sortDT (hc : X.calm = true) (hu : X.A.units + 64 < cLine) : CallR X (.builtin "sorted") rSortDT := by
  intro pins s σ H xs us Q I rx h
  obtain ⟨d, ps, rfl, hd, h64, q⟩ := h
  obtain ⟨u, rfl, ru⟩ := vals1 rx
  cases ru
  obtain ⟨_, lo, es0, es, ep, kt, raw, ek, _, sz⟩ := dt_raw I.hok (.inl hd)
  rw [tvOf_len] at sz
  have ka := kt_at kt
  have al : (es0.map fun x => x.2.1).length < 64 := by rw [List.length_map, ← Paired.length kt, tvOf_len]; exact h64
  refine sort_core (el_int (prog := X.prog) (w := X.w)) (el_int (prog := X.prog) (w := X.w)) FII (fun {pins σ H s a k} I h => ?_) ((0 : Int), (0 : Int)) hu (fun {E C} hC => ?_)
  · obtain ⟨i, j, h, rfl⟩ := h
    obtain ⟨o, m, u, v, e1, e2, e3, ⟨t, ru⟩, ⟨t', rv⟩⟩ := tup_at I h
    exact ⟨a, o, m, u, v, rfl, e1, e2, e3, ⟨t, ru⟩, ⟨t', rv⟩⟩
  · refine collect_src (A := X.A.in1) (rk_src lo) (by simpa using I.ok.hd hc) raw (small_le (by omega)) fun g tk acc kp lt it => ?_
    rw [src_list it, ek]
    exact hC g tk H _ (I.kept kp) al (ks_fii ka) fun bs bp pw => q bs (ks_sorted ka bp pw)
end
end L2

namespace L2
open PySem PySem.Spec PyProof.Rows
section
variable {X : Cx}
theorem tyV_dT {K : PySem.W.Frag} {H : Hp} {d : Addr} {kvs : List (List Key × V)} (h : H d = some (.dT kvs)) : tyV K "dict" (.ref d) H := .inr (.inr (.inl ⟨rfl, .inr ⟨kvs, h⟩⟩))
/-- d.values(), d.items(): a view is laid -/
theorem vals_meets {prog : Program} {w : World} (d : Addr) (lo : (d == sysModules) = false) : MeetsIn prog w (Builtin.«dict.values» ⟨[.ref d], []⟩) (fun _ R s => s.TypeIs (.ref d) "dict" ∧ R (.ok (.ret (.ref s.heap.objs.size))) { s with heap := s.heap.push { cls := .type "dict_values", data := .fields #[.ref d] } }) :=
  .of_wp fun A R s ⟨ty, h⟩ => by
    refine wpAny_bind (wpAny_bind (wpAny_notOrdered_dict ty (show wpAny (model prog w) _ (pure d) _ _ s from wpAny_pure (wpAny_bind ?_))))
    unfold Builtin.Dict.showsAll; rw [lo, if_neg (by decide)]
    exact wpAny_pure (wpAny_bind (wpAny_newObj_type (wpAny_pure ⟨_, rfl, h⟩)))
theorem items_meets {prog : Program} {w : World} (d : Addr) (lo : (d == sysModules) = false) : MeetsIn prog w (Builtin.«dict.items» ⟨[.ref d], []⟩) (fun _ R s => s.TypeIs (.ref d) "dict" ∧ R (.ok (.ret (.ref s.heap.objs.size))) { s with heap := s.heap.push { cls := .type "dict_items", data := .fields #[.ref d] } }) :=
  .of_wp fun A R s ⟨ty, h⟩ => by
    unfold Builtin.«dict.items»
    refine wpAny_bind (wpAny_bind (wpAny_notOrdered_dict ty (show wpAny (model prog w) _ (pure d) _ _ s from wpAny_pure (wpAny_bind ?_))))
    unfold Builtin.Dict.showsAll; rw [lo, if_neg (by decide)]
    exact wpAny_pure (wpAny_bind (wpAny_newObj_type (wpAny_pure ⟨_, rfl, h⟩)))
def rViewT (w : Addr → Addr → HO) : V → List V → Hp → VK → Prop := fun x vs H Q => ∃ d kvs, x = .ref d ∧ vs = [] ∧ H d = some (.dT kvs) ∧ ∀ a, H a = none → Q (.ref a) (upd H a (w a d))
theorem mt_valuesT : MtR X "dict.values" (rViewT vView) := by
  intro pins s σ H x vs v us Q I rx rv h
  obtain ⟨d, kvs, rfl, rfl, hd, q⟩ := h
  cases rx
  cases rv
  obtain ⟨_, lo, _, es, ep, _, raw, _⟩ := dt_raw I.hok (.inl hd)
  refine call_meetsIn PySem.F.slot_dict_values raw.typeIs PySem.F.entry_dict_values (PySem.F.args_dict_values_1 _) (vals_meets d lo) ⟨raw.typeIs, .ref s.heap.objs.size, _, I.laid (t' := s.toks) (o := vView s.heap.objs.size d) (fun b o e => Heap.get?_push_of_some _ e) (Nat.le_refl _) ?_, rfl, q _ (I.hok.fresh (Nat.le_refl _))⟩
  exact ⟨⟨_, Heap.get?_push_size _ rfl, rfl, rfl⟩, ⟨_, Heap.get?_push_size _ rfl⟩, fun h1 h2 x k => let ⟨o, ho, r⟩ := x; ⟨o, k o ho, r⟩⟩
theorem mt_itemsT : MtR X "dict.items" (rViewT iView) := by
  intro pins s σ H x vs v us Q I rx rv h
  obtain ⟨d, kvs, rfl, rfl, hd, q⟩ := h
  cases rx
  cases rv
  obtain ⟨_, lo, _, es, ep, _, raw, _⟩ := dt_raw I.hok (.inl hd)
  refine call_meetsIn PySem.F.slot_dict_items raw.typeIs PySem.F.entry_dict_items (PySem.F.args_dict_items_1 _) (items_meets d lo) ⟨raw.typeIs, .ref s.heap.objs.size, _, I.laid (t' := s.toks) (o := iView s.heap.objs.size d) (fun b o e => Heap.get?_push_of_some _ e) (Nat.le_refl _) ?_, rfl, q _ (I.hok.fresh (Nat.le_refl _))⟩
  exact ⟨⟨_, Heap.get?_push_size _ rfl, rfl, rfl⟩, ⟨_, Heap.get?_push_size _ rfl⟩, fun h1 h2 x k => let ⟨o, ho, r⟩ := x; ⟨o, k o ho, r⟩⟩
theorem kt_vals {H : Hp} : ∀ {kvs : List (List Key × V)} {xs : List (List Key × Addr × Value)}, KT H kvs xs → Vals (kvs.map (·.2)) (xs.map fun x => x.2.2)
  | _, _, .nil => .nil
  | _, _, .cons h t => .cons h.2.2 (kt_vals t)
/-- list(d.values()) -/
def rListVT : List V → Hp → VK → Prop := fun xs H Q => ∃ (v d : Addr) (kvs : List (List Key × V)), xs = [.ref v] ∧ H v = some (vView v d) ∧ H d = some (.dT kvs) ∧ ∀ p, H p = none → Q (.ref p) (upd H p (.lst (kvs.map (·.2))))
theorem call_listVT (hc : X.calm = true) : CallR X (.type "list") rListVT := by
  intro pins s σ H xs us Q I rx h
  obtain ⟨v, d, kvs, rfl, hv, hd, q⟩ := h
  obtain ⟨u, rfl, ru⟩ := vals1 rx
  cases ru
  obtain ⟨z, lo, xs, es, ep, kt, raw, _, ev, sz⟩ := dt_raw I.hok (.inl hd)
  obtain ⟨view, _⟩ := (show ObjOk X.prog X.w H s.heap v (vView v d) from I.hok v _ hv)
  refine PySem.W.kdl_call (rv_src (es := es) (ep := ep)) (I.ok.hd hc) ⟨view, raw⟩ (by rw [sz]; exact z) fun g tk acc c kp hD it => ?_
  refine ⟨.ref s.heap.objs.size, _, I.laid (t' := tk) (o := .lst (kvs.map (·.2))) kp (Nat.le_refl _) ⟨by rw [List.length_map]; exact z, xs.map (fun x => x.2.2), c, kt_vals kt, ?_⟩, rfl, q _ (I.hok.fresh (Nat.le_refl _))⟩
  rw [← ev, ← src_list it, Array.toArray_toList]
  exact hD
end
end L2

namespace L2
open PySem PySem.Spec PyProof.Rows
section
variable {X : Cx} {pins : List (Addr × Obj)} {σ : St} {H : Hp} {s : Shared}
theorem kt_get {H : Hp} : ∀ {kvs : List (List Key × V)} {xs : List (List Key × Addr × Value)} {i : Nat} {p : List Key × V}, KT H kvs xs → kvs[i]? = some p → ∃ x, xs[i]? = some x ∧ H x.2.1 = some (.tup (p.1.map kV)) ∧ RelV p.2 x.2.2
  | _, _, _, _, .nil, e => by simp at e
  | _, _, 0, _, .cons h _, e => by
    rw [List.getElem?_cons_zero] at e
    cases e
    exact ⟨_, rfl, h.2.1, h.2.2⟩
  | _, _, i + 1, _, .cons _ r, e => kt_get (i := i) r (by simpa using e)
/-! ### a dict keyed by tuples while it is walked -/
theorem Inv.thawT {d : Addr} {o : Obj} {kvs : List (List Key × V)} (nf : ∀ o u, X.H₀ d ≠ some (.frz o u)) (I : Inv X pins σ H s) (h : H d = some (.frz o (.dT kvs))) : Inv X pins σ (upd H d (.dT kvs)) s := by
  have nd : ∀ b, H b = none → upd H d (.dT kvs) b = none := fun b e => by rw [upd_ne (Ne.symm (ne_of_none h e))]; exact e
  have ot : ∀ b u, H b = some u → u ≠ .frz o (.dT kvs) → upd H d (.dT kvs) b = some u := fun b u e n => by rw [upd_ne (ne_of e h n)]; exact e
  have tu : ∀ b xs, H b = some (.tup xs) → upd H d (.dT kvs) b = some (.tup xs) := fun b xs e => ot b _ e (by intro z; cases z)
  refine ⟨I.ok, I.os, I.bare, ⟨I.base.keep, I.base.slot, fun b ob q n hx => nd b (I.base.free b ob q n hx), I.base.there, fun b xs e => tu b _ (I.base.tups b xs e), fun b ob u e => ?_, fun b ps e => ?_⟩, I.loc, I.cell, nd _ I.free, fun x c e => nd c (I.freeC x c e), fun p hp => ?_, fun b u e => ?_, I.len⟩
  · rw [upd_ne (fun z => nf ob u (by rw [← z]; exact e))]
    exact I.base.frzs b ob u e
  · obtain ⟨m, q⟩ := I.base.tbls b ps e
    exact ⟨m, ot b _ q (by intro z; cases z)⟩
  · obtain ⟨h1, h2, h3⟩ := I.pin p hp
    exact ⟨h1, nd _ h2, h3⟩
  · by_cases hb : b = d
    · subst hb
      rw [upd_same] at e
      cases e
      obtain ⟨z, lo, xs, kt, r⟩ := (show ObjOk X.prog X.w H s.heap b (.dT kvs) from (I.hok b _ h).2)
      exact ⟨z, lo, xs, KT.keeps kt tu, r⟩
    · rw [upd_ne hb] at e
      exact (I.hok b u e).stay (fun _ _ _ q => q) (fun c q => ot c _ q (by intro z; cases z)) fun c xs q => tu c xs q
theorem Inv.freezeT {d : Addr} {kvs : List (List Key × V)} (I : Inv X pins σ H s) (h : H d = some (.dT kvs)) : ∃ o, Inv X pins σ (upd H d (.frz o (.dT kvs))) s ∧ ∀ o u, X.H₀ d ≠ some (.frz o u) := by
  obtain ⟨z, lo, xs, kt, o, es, ep, ho, r⟩ := (show ObjOk X.prog X.w H s.heap d (.dT kvs) from I.hok d _ h)
  have tu : ∀ b ys, H b = some (.tup ys) → upd H d (.frz o (.dT kvs)) b = some (.tup ys) := fun b ys e => by rw [upd_ne (ne_of e h (by intro z; cases z))]; exact e
  refine ⟨o, I.write (x := d) (e := d) (t' := s.toks) (h' := s.heap) (by rw [h]; exact trivial) (.inl rfl) (fun _ _ _ q => q) ⟨o, ho⟩ ⟨ho, z, lo, xs, KT.keeps kt tu, o, es, ep, ho, r⟩, fun o' u e => ?_⟩
  have q := I.base.frzs d o' u e
  rw [h] at q
  cases q
def tFrzT (t : TE) : TE := fun σ H Q => ∃ (d : Addr) (kvs : List (List Key × V)), H d = some (.dT kvs) ∧ ∀ o, t σ (upd H d (.frz o (.dT kvs))) fun v H2 => H2 d = some (.frz o (.dT kvs)) ∧ Q v (upd H2 d (.dT kvs))
theorem pe_frzT {e : Expr} {t : TE} (h : PE X e t) : PE X e (tFrzT t) := by
  intro pins s σ H Q I hw
  obtain ⟨d, kvs, hd, q⟩ := hw
  obtain ⟨o, I1, nf⟩ := I.freezeT hd
  exact thn (h pins s σ _ _ I1 (q o)) fun v s1 ⟨x, H1, I2, r, hd2, q2⟩ => ⟨x, _, I2.thawT nf hd2, r, q2⟩
def Itdt (d : Addr) (kvs : List (List Key × V)) (o : Obj) : It := ⟨fun i H => i < kvs.length ∧ H d = some (.frz o (.dT kvs)), fun i H x H' => H' = H ∧ ∃ p b, kvs[i]? = some p ∧ x = .ref b ∧ H b = some (.tup (p.1.map kV)), fun i H => kvs.length ≤ i ∧ H d = some (.frz o (.dT kvs))⟩
theorem turn_dT {P : Program} {w : World} {K : PySem.W.Frag} {tg : Expr} {d it : Addr} {kvs : List (List Key × V)} {o : Obj} {es : Array DictEntry} {ep : Nat} (ex : o.ExactDict) (od : o.data = .dict es ep) (sz : es.size = kvs.length) :
    Turn P w K tg (Itdt d kvs o) [it] it (fun i h => h.IsKeyIter it d i es.size ep) where
  mem := by simp
  obj := fun i h st b hb => by
    obtain ⟨q, e, c, dd⟩ := st
    rw [List.mem_singleton.mp hb]
    exact ⟨q, e, fun v z => by rw [dd] at z; cases z⟩
  keep := fun i h h' st k => st.at fun q e => k it (.head _) q e
  item := by
    intro X hP hw hK hc i pins s σ H E I hf st hg
    subst hP hw hK
    obtain ⟨hi, hd⟩ := hg
    obtain ⟨ho, z, lo, xs, kt, o', es', ep', h1, _, h3, h4, _⟩ := (show ObjOk X.prog X.w H s.heap d (.frz o (.dT kvs)) from I.hok d _ hd)
    rw [ho] at h1
    cases h1
    rw [od] at h3
    cases h3
    obtain ⟨f0, f1, f2, f3, f4, f5⟩ := hf it (.head _)
    have e1 : kvs[i]? = some kvs[i] := by simp [hi]
    obtain ⟨x, ex1, hx, _⟩ := kt_get kt e1
    have ek : es[i].key = .ref x.2.1 := by
      have q : es.toList[i]? = some es[i] := by rw [Array.getElem?_toList]; exact Array.getElem?_eq_getElem (by omega)
      rw [h4, List.getElem?_map, ex1] at q
      rw [← Option.some.inj q]
      rfl
    refine rk_item st ⟨o, ho, ex, od⟩ (by omega) fun g st' sb => ?_
    obtain ⟨q, e, c, dd⟩ := id st'
    have I1 : Inv X pins σ H { s with heap := g } := I.turned (t' := s.toks) (fun b ob hb eb => (sb.2 b hb).trans eb) f0 f1 f3 f4 f5
    exact ⟨_, rfl, go_of (s := { s with heap := g }) e c dd (by decide) ⟨.ref x.2.1, H, I1, ek, ⟨rfl, _, _, e1, rfl, hx⟩, st', fun b hb => (hf b hb).1⟩⟩
  done := by
    intro X hP hw hK hc i pins s σ H E I hf st hg
    subst hP hw hK
    obtain ⟨hi, hd⟩ := hg
    obtain ⟨ho, _⟩ := I.hok d _ hd
    obtain ⟨f0, f1, f2, f3, f4, f5⟩ := hf it (.head _)
    exact rk_done (I.ok.hd hc) st ⟨o, ho, ex, od⟩ (by omega) fun g eb => ⟨rfl, I.turned (t' := s.toks) (fun b ob hb e => eb b ob hb e) f0 f1 f3 f4 f5⟩
  self := fun _ _ _ _ _ st h => wpAny_pyIter_keyiter st h
def iDictT (tl : TE) : TI := fun σ H R => tl σ H fun x H1 => ∃ (d : Addr) (o : Obj) (kvs : List (List Key × V)), x = .ref d ∧ H1 d = some (.frz o (.dT kvs)) ∧ R (Itdt d kvs o) H1
theorem pi_dictT {tg l : Expr} {tl : TE} (hl : PE X l tl) : PI X tg l (iDictT tl) := by
  intro pins s σ H R I h
  refine thn (hl pins s σ H _ I h) fun v s1 ⟨x, H1, I1, r1, q1⟩ => ?_
  obtain ⟨d, o, kvs, rfl, hd, q⟩ := q1
  cases r1
  obtain ⟨ho, z, lo, xs, kt, o', es, ep, h1, h2, h3, h4, _⟩ := (show ObjOk X.prog X.w H1 s1.heap d (.frz o (.dT kvs)) from I1.hok d _ hd)
  rw [ho] at h1
  cases h1
  have sz : es.size = kvs.length := by rw [← Array.length_toList, h4, List.length_map, ← Paired.length kt]
  refine rk_iter lo ⟨o, ho, h2, h3⟩ ⟨s1.heap.objs.size, [s1.heap.objs.size], _, _, H1, rfl, I1.kept (t' := s1.toks) (fun b ob e => Heap.get?_push_of_some _ e), turn_dT h2 h3 sz, ⟨_, Heap.get?_push_size _ rfl, rfl, rfl⟩, fun b hb => ?_, q⟩
  rw [List.mem_singleton.mp hb]
  exact I1.fpOk (Nat.le_refl _) (I1.hok.fresh (Nat.le_refl _))
theorem comp_dictT {d : Addr} {o : Obj} {kvs : List (List Key × V)} {k : Nat} {g : TG} {tt : TT} {te : TE} {σ : St} {H : Hp} {Q : VK} (Pv : Nat → List V → Hp → Prop) (h0 : Pv 0 [] H) (hl : ∀ i ys H, Pv i ys H → H d = some (.frz o (.dT kvs)))
    (hs : ∀ i p b ys H (C : List V → Hp → Prop), kvs[i]? = some p → H b = some (.tup (p.1.map kV)) → Pv i ys H → (∀ ys' H', Pv (i + 1) ys' H' → C ys' H') → ys.length < sizeLine ∧ g (.ref b) (List.replicate k none ++ σ) H fun σ2 H2 => Wk σ2 (List.replicate k none ++ σ) ∧ tt σ2 H2 fun ok H3 =>
      if ok = true then te σ2 H3 fun y H4 => C (ys ++ [y]) H4 else C ys H3)
    (hz : ∀ i ys H, Pv i ys H → ys.length < sizeLine)
    (hd : ∀ ys H, Pv kvs.length ys H → ys.length ≤ sizeLine ∧ ∀ p, H p = none → Q (.ref p) (upd H p (.lst ys))) : CompR (Itdt d kvs o) H k g tt te σ Q := by
  refine ⟨fun i m ys H => m = kvs.length - i ∧ i ≤ kvs.length ∧ Pv i ys H, ⟨kvs.length, by simp, Nat.zero_le _, h0⟩, ?_⟩
  rintro i m ys H ⟨rfl, hi, p⟩
  have q := hl i ys H p
  by_cases hlt : i < kvs.length
  · refine .inr ⟨⟨hlt, q⟩, hz i ys H p, fun v H' y => ?_⟩
    obtain ⟨e, p', b, hp', rfl, hb⟩ := y
    subst e
    exact (hs i p' b ys H' (fun ys' H' => ∃ m', m' < kvs.length - i ∧ m' = kvs.length - (i + 1) ∧ i + 1 ≤ kvs.length ∧ Pv (i + 1) ys' H') hp' hb p fun ys' H' p' => ⟨_, by omega, rfl, hlt, p'⟩).2
  · have e : i = kvs.length := by omega
    subst e
    exact .inl ⟨⟨Nat.le_refl _, q⟩, hd ys H p⟩
end
end L2

namespace L2
open PySem PySem.Spec PyProof.Rows
/-! ### dict(..) of pairs whose keys are tuples -/
abbrev TKv := List Key × Addr × Value
def mrgH (xs : List TKv) : List TKv := xs.foldl (fun acc x => storedH acc x.1 x.2.1 x.2.2) []
def mrgTV (kvs : List (List Key × V)) : List (List Key × V) := kvs.foldl (fun acc kv => putK acc kv.1 kv.2) []
theorem mrgH_snoc (xs : List TKv) (x : TKv) : mrgH (xs ++ [x]) = storedH (mrgH xs) x.1 x.2.1 x.2.2 := by
  unfold mrgH
  rw [List.foldl_append]
  rfl
theorem storedH_len (xs : List TKv) (k : List Key) (a : Addr) (v : Value) : (storedH xs k a v).length ≤ xs.length + 1 := by
  unfold storedH
  split
  · rw [List.length_map]; omega
  · rw [List.length_append]; exact Nat.le_refl _
theorem foldH_len : ∀ (ys xs : List TKv), (ys.foldl (fun acc x => storedH acc x.1 x.2.1 x.2.2) xs).length ≤ xs.length + ys.length
  | [], xs => Nat.le_refl _
  | y :: ys, xs => by
    have q := foldH_len ys (storedH xs y.1 y.2.1 y.2.2)
    have l := storedH_len xs y.1 y.2.1 y.2.2
    rw [List.foldl_cons, List.length_cons]
    omega
theorem mrgH_len (xs : List TKv) : (mrgH xs).length ≤ xs.length := by
  have q := foldH_len xs []
  rw [List.length_nil, Nat.zero_add] at q
  exact q
/-- a key in the dict is a key of a pair -/
theorem storedH_mem {xs : List TKv} {k : List Key} {a : Addr} {v : Value} {x : TKv} (h : x ∈ storedH xs k a v) : (∃ y ∈ xs, x.1 = y.1 ∧ x.2.1 = y.2.1) ∨ (x.1 = k ∧ x.2.1 = a) := by
  unfold storedH at h
  split at h
  · obtain ⟨y, hy, rfl⟩ := List.mem_map.mp h
    refine .inl ⟨y, hy, ?_⟩
    unfold putAt
    split <;> exact ⟨rfl, rfl⟩
  · rcases List.mem_append.mp h with q | q
    · exact .inl ⟨x, q, rfl, rfl⟩
    · rw [List.mem_singleton.mp q]
      exact .inr ⟨rfl, rfl⟩
theorem foldH_mem : ∀ {ys xs : List TKv} {x : TKv}, x ∈ ys.foldl (fun acc x => storedH acc x.1 x.2.1 x.2.2) xs → ∃ y, (y ∈ xs ∨ y ∈ ys) ∧ x.1 = y.1 ∧ x.2.1 = y.2.1
  | [], xs, x, h => ⟨x, .inl h, rfl, rfl⟩
  | z :: ys, xs, x, h => by
    obtain ⟨y, hy, e1, e2⟩ := foldH_mem (ys := ys) h
    rcases hy with hy | hy
    · rcases storedH_mem hy with ⟨u, hu, f1, f2⟩ | ⟨f1, f2⟩
      · exact ⟨u, .inl hu, e1.trans f1, e2.trans f2⟩
      · exact ⟨z, .inr (.head _), e1.trans f1, e2.trans f2⟩
    · exact ⟨y, .inr (.tail _ hy), e1, e2⟩
theorem mrgH_mem {ys : List TKv} {x : TKv} (h : x ∈ mrgH ys) : ∃ y ∈ ys, x.1 = y.1 ∧ x.2.1 = y.2.1 := by
  obtain ⟨y, hy, e⟩ := foldH_mem h
  rcases hy with hy | hy
  · exact nomatch hy
  · exact ⟨y, hy, e⟩
theorem foldKT {H : Hp} : ∀ {more : List (List Key × V)} {rs : List TKv} {kvs : List (List Key × V)} {xs : List TKv}, KT H more rs → KT H kvs xs → KT H (more.foldl (fun acc kv => putK acc kv.1 kv.2) kvs) (rs.foldl (fun acc x => storedH acc x.1 x.2.1 x.2.2) xs)
  | _, _, _, _, .nil, b => b
  | p :: more, q :: rs, kvs, xs, .cons h t, b => by
    have e := KT.put b p.1 h.2.1 h.2.2
    have e2 : KT H (putK kvs p.1 p.2) (storedH xs q.1 q.2.1 q.2.2) := by
      rw [show storedH xs q.1 q.2.1 q.2.2 = storedH xs p.1 q.2.1 q.2.2 by rw [h.1]]
      exact e
    exact foldKT (more := more) (rs := rs) t e2
theorem mrgKT {H : Hp} {kvs : List (List Key × V)} {xs : List TKv} (h : KT H kvs xs) : KT H (mrgTV kvs) (mrgH xs) := foldKT h .nil
theorem mrgTV_go : ∀ (kvs acc : List (List Key × V)), ((acc ++ kvs).map (·.1)).Nodup → kvs.foldl (fun acc kv => putK acc kv.1 kv.2) acc = acc ++ kvs
  | [], acc, _ => (List.append_nil acc).symm
  | p :: kvs, acc, h => by
    have e : valV acc p.1 = none := by
      rw [List.map_append, List.map_cons] at h
      have nin : p.1 ∉ acc.map (·.1) := fun q => (List.nodup_append.mp h).2.2 p.1 q p.1 (.head _) rfl
      have : ∀ l : List (List Key × V), p.1 ∉ l.map (·.1) → valV l p.1 = none := fun l => by
        induction l with
        | nil => intro _; rfl
        | cons y l ih =>
          intro hl
          rw [List.map_cons, List.mem_cons, not_or] at hl
          rw [valV_neg (fun z => hl.1 z.symm)]
          exact ih hl.2
      exact this acc nin
    rw [List.foldl_cons, putK_new p.2 e, mrgTV_go kvs _ (by rw [List.append_assoc]; exact h), List.append_assoc]
    rfl
theorem mrgTV_nd {kvs : List (List Key × V)} (h : (kvs.map (·.1)).Nodup) : mrgTV kvs = kvs := mrgTV_go kvs [] h
section
variable {prog : Program} {w : World} {A : Around} {E : Value → Shared → Prop} {s : Shared}
theorem tk_mono {h g : Heap} {ks : List Key} {a : Addr} (x : (tupleKind (mixKind prog w)).is h ks a) (k : ∀ o, h.get? a = some o → g.get? a = some o) : (tupleKind (mixKind prog w)).is g ks a := by
  obtain ⟨o, its, n, h1, r⟩ := x
  exact ⟨o, its, n, k o h1, r⟩
def RawH (prog : Program) (w : World) (h : Heap) (D : Addr) (xs : List TKv) : Prop := ∃ o es ep, h.get? D = some o ∧ o.ExactDict ∧ o.data = .dict es ep ∧ es.toList = xs.map (entryOfKey (tupleKind (mixKind prog w))) ∧ (xs.map (·.1)).Nodup
def PairH (prog : Program) (w : World) (h : Heap) (p : TKv) (v : Value) (no : List Addr) : Prop := ∃ a o n, v = .ref a ∧ a ∉ no ∧ p.2.1 ∉ no ∧ h.get? a = some o ∧ o.cls = .type "tuple" ∧ o.data = .seq #[.ref p.2.1, p.2.2] n ∧ (tupleKind (mixKind prog w)).is h p.1 p.2.1
theorem dict_loopT {R : Result → Shared → Prop} {I : Addr} {fp wr : List Addr} {n : Nat} {P : Nat → Value → Prop} {St : Nat → Heap → Prop} (W : Walks prog w A.in1 I fp wr n P St) (hu : A.units + 1 < cLine) (D : Addr) (hD : D ∉ fp) (ps : List TKv) (hpn : ps.length = n) (its : List Value)
    (hP : ∀ i v, P i v → its[i]? = some v) (hb : n ≤ 100000) :
    ∀ (k i : Nat) (s : Shared), n - i = k → i ≤ n → St i s.heap → RawH prog w s.heap D (mrgH (ps.take i)) → (∀ (j : Nat) p, ps[j]? = some p → ∃ v, its[j]? = some v ∧ PairH prog w s.heap p v (D :: wr)) →
      (∀ g tk, (∀ b o, b ∉ D :: wr → s.heap.get? b = some o → g.get? b = some o) → RawH prog w g D (mrgH ps) → R (.ok (.ret .none)) { s with heap := g, toks := tk }) →
      codeAny (model prog w) A (.builtin "dict.update.loop" ⟨[.ref D, .ref I, rawInt i, .none], []⟩) R s := by
  have hDw : D ∉ wr := fun q => hD (W.sub _ q)
  intro k
  induction k with
  | zero =>
    intro i s hk hi st so tp fin
    obtain rfl : i = n := by omega
    refine codeAny_builtin entry_dloop ?_; rw [Around.under_plainId plain_dloop _]
    refine wpAny_bind (m := pyNext (.ref I)) (W.done s _ _ st fun h' tk kp => wpAny_bind (m := Builtin.Dict.addKeywords D []) (wpAny_pure (wpAny_pure (fin h' tk (fun b o nb e => kp b o (fun q => nb (List.mem_cons_of_mem _ q)) e) ?_))))
    rw [← hpn, List.take_length] at so
    obtain ⟨o, es, ep, ho, r⟩ := so
    exact ⟨o, es, ep, kp D o hDw ho, r⟩
  | succ k ih =>
    intro i s hk hi st so tp fin
    have hlt : i < n := by omega
    refine codeAny_builtin entry_dloop ?_; rw [Around.under_plainId plain_dloop _]
    refine wpAny_bind (m := pyNext (.ref I)) (W.item i s _ _ hlt st fun v h1 tk1 pv st1 kp1 => ?_)
    obtain ⟨p, hp⟩ : ∃ p, ps[i]? = some p := ⟨ps[i], List.getElem?_eq_getElem (by omega)⟩
    have kw : ∀ b o, b ∉ D :: wr → s.heap.get? b = some o → h1.get? b = some o := fun b o nb e => kp1 b o (fun q => nb (List.mem_cons_of_mem _ q)) e
    have tp1 : ∀ (j : Nat) p, ps[j]? = some p → ∃ v, its[j]? = some v ∧ PairH prog w h1 p v (D :: wr) := fun j p e => by
      obtain ⟨v, hv, a, o, m, rfl, na, nk, ha, r1, r2, r3⟩ := tp j p e
      exact ⟨_, hv, a, o, m, rfl, na, nk, kw a o na ha, r1, r2, tk_mono r3 fun o e => kw _ o nk e⟩
    obtain ⟨v', hv', a, o, m, rfl, na, nk, ha, hc, hd, hkey⟩ := tp1 i p hp
    obtain rfl : v = .ref a := Option.some.inj ((hP i v pv).symm.trans hv')
    have so1 : h1.DictOfH (tupleKind (mixKind prog w)) D (mrgH (ps.take i)) := by
      obtain ⟨o, es, ep, ho, r1, r2, r3, r4⟩ := so
      refine ⟨o, es, ep, kp1 D o hDw ho, r1, r2, r3, fun x hx => ?_, r4⟩
      obtain ⟨y, hy, e1, e2⟩ := mrgH_mem hx
      obtain ⟨j, hj⟩ := List.getElem?_of_mem (List.mem_of_mem_take hy)
      obtain ⟨_, _, _, _, _, _, _, _, _, _, _, q⟩ := tp1 j y hj
      rw [e1, e2]
      exact q
    refine wpAny_bind (wpAny_holding (wpAny_bind (wpAny_tryCatch ?_)))
    unfold Builtin.Dict.pairItems
    refine wpAny_bind (wpAny_typeOf (T := "tuple") ⟨o, ha, hc⟩ ?_)
    rw [if_pos (by decide)]
    refine wpAny_bind (m := seqItems? (.ref a)) ?_
    unfold seqItems?
    refine wpAny_bind (wpAny_load ha ?_)
    rw [hd]
    refine wpAny_pure (wpAny_pure ?_)
    show wpAny _ _ (holding [Value.ref p.2.1, p.2.2] (dictSet D (.ref p.2.1) p.2.2)) _ _ _
    have eb := mrgH_len (ps.take i)
    rw [List.length_take] at eb
    refine wpAny_holding (wpAny_dictSet_heap (s := { s with heap := h1, toks := tk1 }) (tupleKind_room_in1 hu) hkey so1 (fun g so2 sb => ?_) (by
      have : (100000 : Nat) ≤ sizeLine := by decide
      omega))
    have so3 : RawH prog w g D (mrgH (ps.take (i + 1))) := by
      rw [take_one hp, mrgH_snoc]
      obtain ⟨o, es, ep, ho, r1, r2, r3, _, r4⟩ := so2
      exact ⟨o, es, ep, ho, r1, r2, r3, r4⟩
    have ks : ∀ b o, b ≠ D → h1.get? b = some o → g.get? b = some o := fun b o nb e => (sb.2 b nb).trans e
    refine wpAny_pure ⟨plainId_quiet plain_dloop _, ih (i + 1) _ (by omega) hlt (W.frame _ _ _ st1 fun b hb o e => ks b o (fun q => hD (by rw [← q]; exact hb)) e) so3 (fun j p e => ?_) fun g' tk kp so' => fin g' tk (fun b o nb e => kp b o nb ?_) so'⟩
    · obtain ⟨v, hv, a, o, m, rfl, na, nk, ha, r1, r2, r3⟩ := tp1 j p e
      have nD : ∀ {b : Addr}, b ∉ D :: wr → b ≠ D := fun h z => h (by rw [z]; exact .head _)
      exact ⟨_, hv, a, o, m, rfl, na, nk, ks a o (nD na) ha, r1, r2, tk_mono r3 fun o e => ks _ o (nD nk) e⟩
    · exact ks b o (fun z => nb (by rw [z]; exact .head _)) (kw b o nb e)
end
end L2

namespace L2
open PySem PySem.Spec PyProof.Rows
/-- pairs whose first ones are tuples, in order -/
inductive TPsAt (H : Hp) : List V → List (List Key × V) → Prop
  | nil : TPsAt H [] []
  | cons {c b : Addr} {xs : List V} {k : List Key} {v : V} {kvs : List (List Key × V)} (h : H c = some (.tup [.ref b, v])) (g : H b = some (.tup (k.map kV))) (r : TPsAt H xs kvs) : TPsAt H (.ref c :: xs) ((k, v) :: kvs)
theorem TPsAt.mono {H H' : Hp} (g : ∀ b ys, H b = some (.tup ys) → H' b = some (.tup ys)) : ∀ {xs : List V} {kvs : List (List Key × V)}, TPsAt H xs kvs → TPsAt H' xs kvs
  | _, _, .nil => .nil
  | _, _, .cons h k r => .cons (g _ _ h) (g _ _ k) (r.mono g)
theorem TPsAt.length {H : Hp} : ∀ {xs : List V} {kvs : List (List Key × V)}, TPsAt H xs kvs → xs.length = kvs.length
  | _, _, .nil => rfl
  | _, _, .cons _ _ r => congrArg (· + 1) r.length
section
variable {prog : Program} {w : World} {A : Around} {E : Value → Shared → Prop} {s : Shared}
/-- dict(t), t a tuple of pairs -/
theorem call_dict_raw {l : Addr} {its : List Value} {k : Nat} {sl : Array (Option Value)} {ps : List TKv} {Q : Value → Shared → Prop} (hh : A.handled = none) (hu : A.units + 3 < cLine)
    (hl : s.heap.get? l = some { cls := .type "tuple", dict := none, data := .seq its.toArray k, slots := sl }) (hlen : its.length = ps.length) (hb : ps.length ≤ 100000) (hp : ∀ (j : Nat) p, ps[j]? = some p → ∃ v, its[j]? = some v ∧ PairH prog w s.heap p v [])
    (h : ∀ g tk, (∀ b o, s.heap.get? b = some o → g.get? b = some o) → RawH prog w g s.heap.objs.size (mrgH ps) → Q (.ref s.heap.objs.size) { s with heap := g, toks := tk }) : wpAny (model prog w) A (call (.type "dict") [.ref l]) Q E s := by
  refine callType_codes (Q₁ := fun obj s₁ => obj = .ref s.heap.objs.size ∧ s₁ = { s with heap := s.heap.push { cls := .type "dict", data := .dict #[] } }) F.kt_called_dict (F.kt_typeCall_dict_1 _) F.entry_dict_init (kt_code_dict_new _ ⟨rfl, rfl⟩) ?_
  rintro obj s₁ ⟨rfl, rfl⟩
  have gD : (s.heap.push { cls := .type "dict", data := .dict #[] }).get? s.heap.objs.size = some { cls := .type "dict", data := .dict #[] } := Heap.get?_push_size _ rfl
  have hl1 : (s.heap.push { cls := .type "dict", data := .dict #[] }).get? l = some { cls := .type "tuple", dict := none, data := .seq its.toArray k, slots := sl } := Heap.get?_push_of_some _ hl
  refine ⟨⟨_, gD, rfl⟩, F.args_dict_init_2 _ _, ?_⟩
  unfold Builtin.«dict.__init__»
  refine wpAny_bind ?_
  unfold Builtin.Dict.selfAndRest
  refine wpAny_bind (wpAny_notOrdered_dict ⟨_, gD, rfl⟩ (wpAny_pure (a := (s.heap.objs.size, [Value.ref l])) ?_))
  show wpAny (model prog w) _ (Builtin.Dict.updateFrom "dict.__init__" s.heap.objs.size (.ref l) [] .none) _ _ _
  unfold Builtin.Dict.updateFrom
  refine wpAny_bind (wpAny_typeOf (T := "tuple") ⟨_, hl1, rfl⟩ ?_)
  rw [if_pos (by decide)]
  refine wpAny_bind (keysT hl1 (by simpa using hh) fun g tk kp => ?_)
  rw [if_pos (by rfl)]
  have ltD : s.heap.objs.size < g.objs.size := Heap.lt_size (kp _ _ gD)
  have ltl : l < s.heap.objs.size := Heap.lt_size hl
  have hl2 : g.IsTuple l its.toArray := ⟨_, kp _ _ hl1, rfl, k, rfl⟩
  refine wpAny_bind (wpAny_rule (wpAny_bind (wpAny_pyIter_tuple hl2 (wpAny_pure ⟨plainId_quiet plain_dloop _, ?_⟩))))
  have hne : l ≠ g.objs.size := Nat.ne_of_lt (Nat.lt_trans ltl ltD)
  have nin : s.heap.objs.size ∉ [g.objs.size, l] := fun q => by
    rcases List.mem_cons.mp q with q | q
    · exact Nat.ne_of_lt ltD q
    · exact Nat.ne_of_gt ltl (List.mem_singleton.mp q)
  have nout : ∀ {b : Addr}, b < s.heap.objs.size → b ∉ [s.heap.objs.size, g.objs.size] := fun {b} lt q => by
    rcases List.mem_cons.mp q with q | q
    · exact Nat.ne_of_lt lt q
    · exact Nat.ne_of_lt (Nat.lt_trans lt ltD) (List.mem_singleton.mp q)
  have keep : ∀ b o, s.heap.get? b = some o → (g.push { cls := .type "tuple_iterator", data := .fields #[.ref l, .int 0 0] }).get? b = some o := fun b o e => Heap.get?_push_of_some _ (kp _ _ (Heap.get?_push_of_some _ e))
  refine dict_loopT (A := A.in1) (Walks.tuple (by simpa using hh) g.objs.size l hne its.toArray) (by show A.units + 1 + 1 < cLine; omega) s.heap.objs.size nin ps (by rw [List.size_toArray]; omega) its (fun i v e => by simpa using e) (by rw [List.size_toArray]; omega) its.toArray.size 0 _ (Nat.sub_zero _) (Nat.zero_le _) ⟨⟨_, Heap.get?_push_size _ rfl, rfl, rfl⟩, hl2.push _⟩ ⟨_, #[], 0, Heap.get?_push_of_some _ (kp _ _ gD), ⟨rfl, rfl, rfl⟩, rfl, rfl, List.nodup_nil⟩ (fun j p e => ?_) fun g' tk' kp' so' => ⟨rfl, h g' tk' (fun b o e => kp' b o (nout (Heap.lt_size e)) ?_) so'⟩
  · obtain ⟨v, hv, a, o, m, rfl, _, _, ha, r1, r2, r3⟩ := hp j p e
    have la := Heap.lt_size ha
    have lk : p.2.1 < s.heap.objs.size := by
      obtain ⟨_, _, _, h1, _⟩ := r3
      exact Heap.lt_size h1
    exact ⟨_, hv, a, o, m, rfl, nout la, nout lk, Heap.get?_push_of_some _ (kp _ _ (Heap.get?_push_of_some _ ha)), r1, r2, tk_mono r3 fun o e => Heap.get?_push_of_some _ (kp _ _ (Heap.get?_push_of_some _ e))⟩
  · exact Heap.get?_push_of_some _ (kp _ _ (Heap.get?_push_of_some _ e))
end
section
variable {X : Cx}
theorem tps_real {pins : List (Addr × Obj)} {s : Shared} {σ : St} {H : Hp} (I : Inv X pins σ H s) : ∀ {ys : List V} {kvs : List (List Key × V)} {its : List Value}, TPsAt H ys kvs → Vals ys its → ∃ ps : List TKv, KT H kvs ps ∧ its.length = ps.length ∧ ∀ (j : Nat) p, ps[j]? = some p → ∃ v, its[j]? = some v ∧ PairH X.prog X.w s.heap p v []
  | _, _, _, .nil, .nil => ⟨[], .nil, rfl, fun j p e => by simp at e⟩
  | _, _, _, .cons (c := c) (b := b) (k := k) (v := v) h g r, .cons r1 t => by
    obtain ⟨ps, kt, le, at_⟩ := tps_real I r t
    obtain ⟨_, its, rv, o, e1, e2, n, e3⟩ := (show ObjOk X.prog X.w H s.heap c (.tup [.ref b, v]) from I.hok c _ h)
    obtain ⟨u, x, rfl, ru, rx⟩ := vals2 rv
    cases ru
    cases r1
    refine ⟨(k, b, x) :: ps, .cons ⟨rfl, g, rx⟩ kt, by rw [List.length_cons, List.length_cons, le], fun j p e => ?_⟩
    cases j with
    | zero =>
      rw [List.getElem?_cons_zero] at e
      cases e
      exact ⟨_, rfl, c, o, n, rfl, List.not_mem_nil, List.not_mem_nil, e1, e2.1, e3, key_of I.hok g⟩
    | succ j => exact at_ j p (by simpa using e)
def rDictTT : List V → Hp → VK → Prop := fun xs H Q => ∃ (l : Addr) (ys : List V) (kvs : List (List Key × V)), xs = [.ref l] ∧ H l = some (.tup ys) ∧ TPsAt H ys kvs ∧ kvs.length ≤ 1000 ∧ ∀ p, H p = none → Q (.ref p) (upd H p (.dT (mrgTV kvs)))
theorem call_dictTT (hc : X.calm = true) (hu : X.A.units + 64 < cLine) : CallR X (.type "dict") rDictTT := by
  intro pins s σ H xs us Q I rx h
  obtain ⟨l, ys, kvs, rfl, hq, pa, hlen, q⟩ := h
  obtain ⟨u, rfl, ru⟩ := vals1 rx
  cases ru
  obtain ⟨_, its, rv, ⟨⟨c0, d0, dt0, sl0⟩, ho, hcl, m, hs⟩⟩ := (show ObjOk X.prog X.w H s.heap l (.tup ys) from I.hok l _ hq)
  simp only at hcl hs
  obtain ⟨hcl, hdn⟩ := hcl
  subst hcl hdn hs
  obtain ⟨ps, kt, hl, hp⟩ := tps_real I pa rv
  have kl := Paired.length kt
  refine call_dict_raw (I.ok.hd hc) (by omega) ho hl (by omega) hp fun g tk kp hD => ?_
  have km := mrgKT kt
  have ml := mrgH_len ps
  refine ⟨.ref s.heap.objs.size, _, I.laid (t' := tk) (o := .dT (mrgTV kvs)) kp (Nat.le_refl _) ⟨small_le (by rw [Paired.length km]; omega), beq_eq_false_iff_ne.mpr (Nat.ne_of_gt I.big), mrgH ps, ?_, hD⟩, rfl, q _ (I.hok.fresh (Nat.le_refl _))⟩
  exact KT.keeps km fun b ys e => by rw [upd_ne (ne_of_none e (I.hok.fresh (Nat.le_refl _)))]; exact e
end
end L2

namespace L2
open PySem PySem.Spec PyProof.Rows
/-! ### d.pop(t), t a tuple that is there -/
theorem drop_out {kvs : List (List Key × V)} {k : List Key} (h : k ∉ kvs.map (·.1)) : dropK kvs k = kvs := by
  unfold dropK
  refine List.filter_eq_self.mpr fun p hp => decide_eq_true fun e => h (List.mem_map.mpr ⟨p, hp, e⟩)
theorem kt_drop {H : Hp} : ∀ {kvs : List (List Key × V)} {xs : List TKv} {k : List Key} {j : Nat} {q : Addr × Value}, KT H kvs xs → (xs.map (·.1)).Nodup → xs[j]? = some (k, q) → KT H (dropK kvs k) (xs.eraseIdx j)
  | _, _, _, _, _, .nil, _, e => by simp at e
  | p :: kvs, x :: xs, k, 0, q, .cons h t, nd, e => by
    rw [List.getElem?_cons_zero] at e
    cases e
    rw [List.map_cons, List.nodup_cons] at nd
    have ke : kvs.map (·.1) = xs.map (·.1) := by
      clear nd h
      induction t with
      | nil => rfl
      | cons a _ ih => rw [List.map_cons, List.map_cons, ih, a.1]
    have e1 : dropK (p :: kvs) k = kvs := by
      have o := drop_out (kvs := kvs) (k := k) (by rw [ke]; exact nd.1)
      unfold dropK at o ⊢
      rw [List.filter_cons, if_neg (by simp [show p.1 = k from h.1])]
      exact o
    rw [e1]
    exact t
  | p :: kvs, x :: xs, k, j + 1, q, .cons h t, nd, e => by
    rw [List.map_cons, List.nodup_cons] at nd
    have e : xs[j]? = some (k, q) := by simpa using e
    have ne : p.1 ≠ k := fun z => nd.1 (List.mem_map.mpr ⟨(k, q), List.mem_of_getElem? e, by rw [← h.1, z]⟩)
    have e1 : dropK (p :: kvs) k = p :: dropK kvs k := by
      unfold dropK
      rw [List.filter_cons, if_pos (decide_eq_true ne)]
    rw [e1, List.eraseIdx_cons_succ]
    exact .cons h (kt_drop t nd.2 e)
theorem map_erase {α β : Type} (f : α → β) : ∀ (l : List α) (j : Nat), (l.map f).eraseIdx j = (l.eraseIdx j).map f
  | [], _ => rfl
  | _ :: _, 0 => rfl
  | a :: l, j + 1 => by rw [List.map_cons, List.eraseIdx_cons_succ, List.eraseIdx_cons_succ, List.map_cons, map_erase f l j]
theorem nd_erase {xs : List TKv} (nd : (xs.map (·.1)).Nodup) (j : Nat) : ((xs.eraseIdx j).map (·.1)).Nodup := nd.sublist ((List.eraseIdx_sublist xs j).map _)
section
variable {prog : Program} {w : World} {A : Around} {E : Value → Shared → Prop} {s : Shared}
theorem pop_raw {d a : Addr} {xs : List TKv} {k : List Key} {j : Nat} {q : Addr × Value} (hu : A.units + 1 < cLine) (hkey : (tupleKind (mixKind prog w)).is s.heap k a) (hm : s.heap.DictOfH (tupleKind (mixKind prog w)) d xs) (hz : xs.length ≤ sizeLine) (hj : xs[j]? = some (k, q)) {Q : Fin → Shared → Prop}
    (h : ∀ g tk, RawH prog w g d (xs.eraseIdx j) → Heap.SameBut d s.heap g → Q (.done (.ret q.2)) { s with heap := g, toks := tk }) : wpAny (model prog w) A.in1 (Builtin.«dict.pop» ⟨[.ref d, .ref a], []⟩) Q E s := by
  obtain ⟨o, es, ep, ho, ex, hd, he, his, hn⟩ := id hm
  have ty : s.TypeIs (.ref d) "dict" := hm.typeIs
  unfold Builtin.«dict.pop»
  refine wpAny_bind ?_
  unfold Builtin.Dict.keyAndDefault
  refine wpAny_bind (wpAny_notOrdered_dict ty (show wpAny (model prog w) _ (pure (d, Value.ref a, none)) _ _ s from wpAny_pure ?_))
  have jl : j < xs.length := (List.getElem?_eq_some_iff.mp hj).1
  have sz : es.size = xs.length := by rw [← Array.length_toList, he, List.length_map]
  have ne : es.isEmpty = false := by
    rcases z : es.isEmpty with _ | _
    · rfl
    · have := Array.isEmpty_iff_size_eq_zero.mp z
      omega
  have ej : es[j]? = some (entryOfKey (tupleKind (mixKind prog w)) (k, q)) := by rw [← Array.getElem?_toList, he, List.getElem?_map, hj]; rfl
  have kp : ¬ ((keyPart (Value.ref a)).isSome = true) := Bool.false_ne_true
  simp only [kp, if_false]
  refine wpAny_bind (wpAny_dictEntries ho hd (bP ?_))
  simp only [ne, Bool.false_eq_true, if_false]
  refine wpAny_bind ?_
  unfold Builtin.Dict.takeOut
  refine wpAny_holding (wpAny_bind ((tupleKind (mixKind prog w)).pyHash (tupleKind_room_in1 hu) hkey (wpAny_bind (wpAny_dictFind_heap (tupleKind_room_in1 hu) hkey ho hd he his hn (fun hno => absurd hj (hno j q)) fun i p hi => ?_))))
  have ij : i = j := idxH_unique hn hi hj
  subst ij
  show wpAny (model prog w) _ (dictEntries d (keyPart (.ref a)) >>= fun l => _) _ _ _
  refine wpAny_bind (wpAny_dictEntries ho hd ?_)
  rw [ej]
  refine wpAny_bind (wpAny_updateDictKeys (hz := ?_) ho hd (wpAny_pure ?_))
  · rw [if_neg (by exact Bool.false_ne_true)]
    refine wpAny_bind (wpAny_letGo (wpAny_pure (h _ _ ⟨_, _, ep + 1, Heap.get?_update_self _ ho (Obj.isFreed_of_dict (Obj.data_mapDictKeys hd _)), ex.mapDictKeys _, Obj.data_mapDictKeys hd _, ?_, nd_erase hn i⟩ (Heap.SameBut.update ..))))
    rw [Array.eraseIdxIfInBounds, dif_pos (by omega : i < es.size), Array.toList_eraseIdx, he]
    exact map_erase _ _ _
  · omega
end
section
variable {X : Cx}
def rPopT : V → List V → Hp → VK → Prop := fun x vs H Q => ∃ (d a : Addr) (kvs : List (List Key × V)) (k : List Key) (v : V), x = .ref d ∧ vs = [.ref a] ∧ H d = some (.dT kvs) ∧ H a = some (.tup (k.map kV)) ∧ valV kvs k = some v ∧ Q v (upd H d (.dT (dropK kvs k)))
theorem kt_find {H : Hp} : ∀ {kvs : List (List Key × V)} {xs : List TKv} {k : List Key} {v : V}, KT H kvs xs → valV kvs k = some v → ∃ (j : Nat) (q : Addr × Value), xs[j]? = some (k, q) ∧ RelV v q.2
  | _, _, _, _, .nil, e => by simp [valV] at e
  | p :: kvs, x :: xs, k, v, .cons h t, e => by
    by_cases z : p.1 = k
    · rw [valV_pos z] at e
      cases e
      exact ⟨0, x.2, by rw [List.getElem?_cons_zero, ← z, h.1], h.2.2⟩
    · rw [valV_neg z] at e
      obtain ⟨j, q, e1, e2⟩ := kt_find t e
      exact ⟨j + 1, q, by simpa using e1, e2⟩
theorem mt_popT (hu : X.A.units + 64 < cLine) : MtR X "dict.pop" rPopT := by
  intro pins s σ H x vs v us Q I rx rv h
  obtain ⟨d, a, kvs, k, y, rfl, rfl, hd, ha, hv, q⟩ := h
  cases rx
  obtain ⟨u, rfl, ru⟩ := vals1 rv
  cases ru
  obtain ⟨z, lo, xs, kt, dd⟩ := dt_of I.hok hd
  obtain ⟨j, p, hj, rp⟩ := kt_find kt hv
  have hn : (xs.map (·.1)).Nodup := by obtain ⟨_, _, _, _, _, _, _, _, hn⟩ := dd; exact hn
  have tu : ∀ b ys, H b = some (.tup ys) → upd H d (.dT (dropK kvs k)) b = some (.tup ys) := fun b ys e => by rw [upd_ne (ne_of e hd (by intro z; cases z))]; exact e
  refine wpAny_call_entry PySem.F.slot_dict_pop dd.typeIs PySem.F.entry_dict_pop (pop_raw (by omega) (key_of I.hok ha) dd (by rw [← Paired.length kt]; exact z) hj fun g tk raw sb => ⟨_, rfl, y, _, ?_, rp, q⟩) (PySem.F.args_dict_pop_2 _ _)
  have hg : ∃ o, g.get? d = some o := let ⟨o, _, _, e, _⟩ := raw; ⟨o, e⟩
  exact I.write (x := d) (e := d) (t' := tk) (by rw [hd]; exact trivial) (.inl rfl) (fun b u nb e => (sb.2 b nb).trans e) hg ⟨Nat.le_trans (List.length_filter_le _ _) z, lo, xs.eraseIdx j, KT.keeps (kt_drop kt hn hj) tu, raw⟩
end
end L2

namespace L2
open PySem PySem.Spec PyProof.Rows
/-! ### the items of a dict, by its entries -/
abbrev ItI (h : Heap) (it d : Addr) (i n ep : Nat) (f0 f1 ok ov : Value) : Prop := h.get? it = some { cls := .type "dict_itemiterator", dict := none, data := .fields #[f0, f1, .ref d, .int i 0, .int n 0, .int ep 0, ok, ov], slots := #[] }
abbrev duo (x y : Value) : Obj := { cls := .type "tuple", data := .seq #[x, y] }
section
variable {prog : Program} {w : World} {A : Around} {E : Value → Shared → Prop} {s : Shared} {it d : Addr} {i ep : Nat} {es : Array DictEntry} {f0 f1 ok ov : Value}
theorem ri_iter {v : Addr} {Q : Value → Shared → Prop} (zv : s.heap.IsItemsView v d) (zm : RwD s.heap d es ep)
    (zq : ∀ g : Heap, ItI g s.heap.objs.size d 0 es.size ep .none (.bool false) .none .none → g.objs.size = s.heap.objs.size + 1 → (∀ b o, s.heap.get? b = some o → g.get? b = some o) → Q (.ref s.heap.objs.size) { s with heap := g }) : wpAny (model prog w) A (pyIter (.ref v)) Q E s := by
  obtain ⟨ou, vo, _, vd⟩ := id zv
  obtain ⟨o, yo, _, yd⟩ := id zm
  refine wpAny_pyIter_slot zv.typeIs PySem.F.slot_dict_items_iter (wpAny_call_entry PySem.F.slot_dict_items_iter zv.typeIs PySem.F.entry_dict_items_iter (bP (wpAny_bind (wpAny_bind (wpAny_field vo vd (x := .ref d) rfl (wpAny_pure (wpAny_bind ?_)))))) (PySem.F.args_dict_items_iter_1 _))
  unfold Builtin.Dict_items.newIterator; skip
  refine wpAny_bind (wpAny_dictEntries yo yd (wpAny_bind (wpAny_dictEpoch yo yd ?_)))
  simp only [own_no.2.2, if_true]
  refine wpAny_newObj_type (wpAny_pure ⟨_, rfl, "dict_itemiterator", _, ⟨_, Heap.get?_push_size _ rfl, rfl⟩, PySem.F.slot_dict_itemiterator_next.lookup, ?_⟩) (by simp only [sizeOk, Builtin.Dict_items.ownedTupleFields, List.size_toArray, List.length_append, List.length_cons, List.length_nil, sizeLine_eq]; omega)
  refine zq _ ?_ (size_push' _ _) fun b o e => Heap.get?_push_of_some _ e
  unfold ItI
  rw [Heap.get?_push_size _ rfl]
  simp [rawInt, Builtin.Dict_items.ownedTupleFields]
theorem ri_item {Q : Option Value → Shared → Prop} (zi : ItI s.heap it d i es.size ep f0 f1 ok ov) (alt : f0 = .none ∨ ∃ (a : Addr) (b : Bool) (o : Obj), f0 = rawInt a ∧ f1 = .bool b ∧ s.heap.get? a = some o ∧ a ≠ it) (zm : RwD s.heap d es ep) (zx : i < es.size)
    (zq : ∀ (g : Heap) (e0 e1 x y : Value), ItI g it d (i + 1) es.size ep e0 e1 x y → ((f0 = .none ∧ e0 = rawInt s.heap.objs.size ∧ e1 = .bool false) ∨ (f0 ≠ .none ∧ e0 = f0 ∧ e1 = .bool true)) → g.get? s.heap.objs.size = some (duo es[i].key es[i].val) → g.objs.size = s.heap.objs.size + 1 →
      (∀ b o, b ≠ it → s.heap.get? b = some o → g.get? b = some o) → Q (some (.ref s.heap.objs.size)) { s with heap := g }) : wpAny (model prog w) A (pyNext (.ref it)) Q E s := by
  obtain ⟨hp, gs, dr, tk, os⟩ := s
  obtain ⟨od, yo, _, yd⟩ := zm
  have ty : Shared.TypeIs ⟨hp, gs, dr, tk, os⟩ (.ref it) "dict_itemiterator" := ⟨_, zi, rfl⟩
  refine next_at ty PySem.F.slot_dict_itemiterator_next PySem.F.entry_dict_itemiterator_next (PySem.F.args_dict_itemiterator_next_1 _) (bP (wpAny_bind (wpAny_bind (wpAny_bind (wpAny_typeNameOfWhole_itemiter ty (wpAny_pure (wpAny_bind (wpAny_fieldsOf zi rfl ?_))))))))
  simp only [own_no.2.2, if_true]
  show wpAny (model prog w) _ (if (Value.ref d == Value.none) = true then _ else _) _ _ _
  rw [if_neg (ref_some d)]; refine bP (wpAny_bind (wpAny_dictEntries yo yd ?_))
  rw [if_neg (by simp)]; refine bP (wpAny_bind (wpAny_dictEpoch yo yd ?_))
  rw [if_neg (by simp)]; refine wpAny_pure ?_
  simp only [show ¬ ((i : Int) < 0) from by omega, if_false, Int.toNat_natCast, Array.getElem?_eq_getElem zx]
  refine wpAny_bind (wpAny_bind (wpAny_typeNameOfWhole_itemiter ty (wpAny_pure (wpAny_bind (wpAny_isOneOf_itemiter ty ?_)))))
  show wpAny (model prog w) _ (setField (.ref it) 3 (rawInt ((i : Int) + 1)) >>= fun _ => _) _ _ ⟨hp, gs, dr, tk, os⟩
  refine wpAny_bind (wpAny_setField_rec zi (by simp) fun g1 e1 s1 => ?_)
  have s1 : Heap.SameBut it hp g1 := s1
  have e1 : ItI g1 it d (i + 1) es.size ep f0 f1 ok ov := by
    have q : ((i + 1 : Nat) : Int) = (i : Int) + 1 := by omega
    unfold ItI; rw [q]; simpa [rawInt] using e1
  have ty1 : Shared.TypeIs ⟨g1, gs, dr, tk, os⟩ (.ref it) "dict_itemiterator" := ⟨_, e1, rfl⟩
  refine wpAny_bind (wpAny_holding (wpAny_bind (wpAny_isOneOf_itemiter ty1 (wpAny_bind (wpAny_isOneOf_itemiter ty1 ?_)))))
  show wpAny (model prog w) _ (Builtin.Dict_items.pairFromOwner (.ref it) 6 es[i].key es[i].val) _ _ ⟨g1, gs, dr, tk, os⟩
  unfold Builtin.Dict_items.pairFromOwner; refine wpAny_bind (wpAny_newTuple ?_)
  have e2 : ItI (g1.push (duo es[i].key es[i].val)) it d (i + 1) es.size ep f0 f1 ok ov := Heap.get?_push_of_some _ e1
  generalize hz : g1.push (duo es[i].key es[i].val) = g2 at e2
  have z1 : g1.objs.size = hp.objs.size := s1.1
  have il : it < hp.objs.size := Heap.lt_size zi
  have t2 : g2.get? hp.objs.size = some (duo es[i].key es[i].val) := by rw [← hz, ← z1]; exact Heap.get?_push_size _ rfl
  have z2 : g2.objs.size = hp.objs.size + 1 := by rw [← hz, Heap.size_push, z1]
  have k2 : ∀ b o, b ≠ it → hp.get? b = some o → g2.get? b = some o := fun b o nb e => by rw [← hz]; exact Heap.get?_push_of_some _ (s1.extBut b o nb e)
  have fin : ∀ (g : Heap) (x0 x1 x y : Value), ItI g it d (i + 1) es.size ep x0 x1 x y → ((f0 = .none ∧ x0 = rawInt hp.objs.size ∧ x1 = .bool false) ∨ (f0 ≠ .none ∧ x0 = f0 ∧ x1 = .bool true)) → Heap.SameBut it g2 g → Q (some (.ref hp.objs.size)) ⟨g, gs, dr, tk, os⟩ := fun g x0 x1 x y h1 h2 sb =>
    zq g x0 x1 x y h1 h2 (sb.extBut _ _ (Nat.ne_of_gt il) t2) (by show g.objs.size = hp.objs.size + 1; rw [sb.1, z2]) fun b o nb e => sb.extBut b o nb (k2 b o nb e)
  show wpAny (model prog w) _ (Builtin.Dict_items.ownedTupleIsFree (.ref it) >>= fun _ => _) _ _ ⟨g2, gs, dr, tk, os⟩
  rw [z1]
  unfold Builtin.Dict_items.ownedTupleIsFree
  rcases alt with rfl | ⟨a, b, o, rfl, rfl, ha, hai⟩
  · refine wpAny_bind (wpAny_bind (wpAny_field e2 rfl (x := .none) rfl (wpAny_pure ?_)))
    simp only [if_true]
    refine wpAny_bind (wpAny_field e2 rfl (x := ok) rfl (wpAny_bind (wpAny_field e2 rfl (x := ov) rfl (wpAny_bind (wpAny_setField_rec e2 (by simp) fun g3 e3 s3 => wpAny_bind (wpAny_setField_rec e3 (by simp) fun g4 e4 s4 => wpAny_bind (wpAny_setField_rec e4 (by simp) fun g5 e5 s5 => wpAny_bind (wpAny_setField_rec e5 (by simp) fun g6 e6 s6 => ?_))))))))
    refine wpAny_bind (wpAny_letGo (wpAny_pure (wpAny_pure ⟨_, rfl, fin g6 _ _ _ _ e6 (.inl ⟨rfl, rfl, rfl⟩) ?_⟩)))
    have s3 : Heap.SameBut it g2 g3 := s3
    have s4 : Heap.SameBut it g3 g4 := s4
    have s5 : Heap.SameBut it g4 g5 := s5
    have s6 : Heap.SameBut it g5 g6 := s6
    exact ⟨by rw [s6.1, s5.1, s4.1, s3.1], fun c nc => (s6.2 c nc).trans ((s5.2 c nc).trans ((s4.2 c nc).trans (s3.2 c nc)))⟩
  · have a2 : g2.get? a = some o := k2 a o hai ha
    refine wpAny_bind (wpAny_bind (wpAny_field e2 rfl (x := rawInt a) rfl ?_))
    show wpAny (model prog w) _ (loadIfAlive ((a : Int).toNat) >>= fun _ => _) _ _ _
    rw [Int.toNat_natCast]
    refine wpAny_bind (PySem.W.kdx_alive a2 ?_)
    simp only [Option.isNone_some, Bool.false_eq_true, if_false]
    refine wpAny_bind (wpAny_field e2 rfl (x := .bool b) rfl ?_)
    cases b with
    | true =>
      rw [if_neg (show ¬ ((Value.bool true != Value.bool true) = true) from Bool.false_ne_true)]; refine wpAny_pure ?_
      simp only [Bool.false_eq_true, if_false]
      exact wpAny_pure (wpAny_pure ⟨_, rfl, fin g2 _ _ _ _ e2 (.inr ⟨(fun z => by cases z), rfl, rfl⟩) (Heap.SameBut.refl _ _)⟩)
    | false =>
      rw [if_pos (show (Value.bool false != Value.bool true) = true from rfl)]
      refine wpAny_bind (wpAny_setField_rec e2 (by simp) fun g3 e3 s3 => wpAny_pure ?_)
      simp only [Bool.false_eq_true, if_false]
      exact wpAny_pure (wpAny_pure ⟨_, rfl, fin g3 _ _ _ _ e3 (.inr ⟨(fun z => by cases z), rfl, rfl⟩) s3⟩)
theorem ri_done {Q : Option Value → Shared → Prop} (zh : A.handled = none) (zi : ItI s.heap it d i es.size ep f0 f1 ok ov) (zm : RwD s.heap d es ep) (zx : es.size ≤ i) (zq : ∀ g : Heap, Heap.ExtBut it s.heap g → Q none { s with heap := g }) : wpAny (model prog w) A (pyNext (.ref it)) Q E s := by
  obtain ⟨od, yo, _, yd⟩ := zm
  have ty : s.TypeIs (.ref it) "dict_itemiterator" := ⟨_, zi, rfl⟩
  refine next_at ty PySem.F.slot_dict_itemiterator_next PySem.F.entry_dict_itemiterator_next (PySem.F.args_dict_itemiterator_next_1 _) (bP (wpAny_bind (wpAny_bind (wpAny_bind (wpAny_typeNameOfWhole_itemiter ty (wpAny_pure (wpAny_bind (wpAny_fieldsOf zi rfl ?_))))))))
  simp only [own_no.2.2, if_true]
  show wpAny (model prog w) _ (if (Value.ref d == Value.none) = true then _ else _) _ _ s
  rw [if_neg (ref_some d)]; refine bP (wpAny_bind (wpAny_dictEntries yo yd ?_))
  rw [if_neg (by simp)]; refine bP (wpAny_bind (wpAny_dictEpoch yo yd ?_))
  rw [if_neg (by simp)]; refine wpAny_pure ?_
  simp only [show ¬ ((i : Int) < 0) from by omega, if_false, Int.toNat_natCast, Array.getElem?_eq_none zx]
  refine wpAny_bind (wpAny_bind (wpAny_typeNameOfWhole_itemiter ty (wpAny_pure ?_)))
  show wpAny (model prog w) _ (setField (.ref it) 2 .none >>= fun _ => _) _ _ s
  refine wpAny_bind (wpAny_setField zi rfl (by simp) (raise_stop (by simpa using zh) fun g e k ty => ⟨ty, zq g fun b u nb eb => k b u ?_⟩))
  exact (Heap.get?_update_other _ _ (Ne.symm nb)).trans eb
end
end L2

namespace L2
open PySem PySem.Spec PyProof.Rows
/-- the first n places behind I -/
def beh (I n : Nat) : List Addr := (List.range n).map fun j => I + 1 + j
theorem beh_succ (I n : Nat) : beh I (n + 1) = beh I n ++ [I + 1 + n] := by
  unfold beh
  rw [List.range_succ, List.map_append]
  rfl
theorem beh_len (I n : Nat) : (beh I n).length = n := by
  unfold beh
  rw [List.length_map, List.length_range]
theorem beh_ne (I j : Nat) : I + 1 + j ≠ I := by omega
abbrev lsO (xs : Array Value) (c : Nat) : Obj := { cls := .type "list", data := .seq xs c }
section
variable {prog : Program} {w : World} {A : Around} {E : Value → Shared → Prop} {s : Shared} {d : Addr} {ep : Nat} {es : Array DictEntry} {R : Result → Shared → Prop}
theorem items_loop {S I : Addr} (zh : A.handled = none) (hSI : S < I) (hSd : d ≠ S) (hId : d ≠ I) (hn : es.size ≤ sizeLine) (res : Value) {h0 : Heap}
    (fin : ∀ (h : Heap) (tk c : Nat), (∀ b o, b ≠ S → b ≠ I → h0.get? b = some o → h.get? b = some o) → h.get? S = some (lsO ((beh I es.size).map Value.ref).toArray c) → (∀ (j : Nat) (hj : j < es.size), h.get? (I + 1 + j) = some (duo es[j].key es[j].val)) → R (.ok (.ret res)) { s with heap := h, toks := tk }) :
    ∀ (k i : Nat) (h : Heap) (tk c : Nat) (f0 f1 ok ov : Value), es.size - i = k → i ≤ es.size → ItI h I d i es.size ep f0 f1 ok ov → ((i = 0 ∧ f0 = .none) ∨ (0 < i ∧ f0 = rawInt (I + 1 : Nat) ∧ ∃ b, f1 = .bool b)) → RwD h d es ep → (∀ b o, b ≠ S → b ≠ I → h0.get? b = some o → h.get? b = some o) →
      h.get? S = some (lsO ((beh I i).map Value.ref).toArray c) → (∀ (j : Nat) (hj : j < es.size), j < i → h.get? (I + 1 + j) = some (duo es[j].key es[j].val)) → h.objs.size = I + 1 + i →
      codeAny (model prog w) A (.builtin "list.extend.loop" ⟨[.ref S, .ref I, res], []⟩) R { s with heap := h, toks := tk } := by
  have ne : S ≠ I := Nat.ne_of_lt hSI
  intro k
  induction k with
  | zero =>
    intro i h tk c f0 f1 ok ov hk hi st alt hD keep hS tp hz
    obtain rfl : i = es.size := by omega
    refine codeAny_builtin PySem.F.entry_extend_loop ?_; rw [Around.under_plainId PySem.F.plain_extend_loop _]
    refine wpAny_bind (m := pyNext (.ref I)) (ri_done (s := { s with heap := h, toks := tk }) (A := A.in1) (by simpa using zh) st hD (Nat.le_refl _) fun g x => wpAny_pure (fin g tk c (fun b o h1 h2 e => x b o h2 (keep b o h1 h2 e)) (x S _ ne hS) fun j hj => x _ _ (beh_ne I j) (tp j hj hj)))
  | succ k ih =>
    intro i h tk c f0 f1 ok ov hk hi st alt hD keep hS tp hz
    have hlt : i < es.size := by omega
    refine codeAny_builtin PySem.F.entry_extend_loop ?_; rw [Around.under_plainId PySem.F.plain_extend_loop _]
    have alt' : f0 = .none ∨ ∃ (a : Addr) (b : Bool) (o : Obj), f0 = rawInt a ∧ f1 = .bool b ∧ h.get? a = some o ∧ a ≠ I := by
      rcases alt with ⟨_, e⟩ | ⟨p, e, b, e1⟩
      · exact .inl e
      · exact .inr ⟨I + 1, b, _, e, e1, tp 0 (by omega) p, beh_ne I 0⟩
    refine wpAny_bind (m := pyNext (.ref I)) (ri_item (s := { s with heap := h, toks := tk }) (A := A.in1) st alt' hD hlt fun g x0 x1 x y st' al tg zg kp => ?_)
    dsimp only at tg zg kp al ⊢
    rw [hz] at tg zg al ⊢
    have hSl : S < h.objs.size := Heap.lt_size hS
    have hS' := kp S _ ne hS
    have up : ∀ b o, b ≠ S → g.get? b = some o → (g.update S (Obj.mapSeq (·.push (Value.ref (I + 1 + i))))).get? b = some o := fun b o nb e => (Heap.get?_update_other _ _ (Ne.symm nb)).trans e
    have hl : ((beh I i).map Value.ref).toArray.size = i := by rw [List.size_toArray, List.length_map, beh_len]
    obtain ⟨c2, u2⟩ : ∃ c2, (g.update S (Obj.mapSeq (·.push (Value.ref (I + 1 + i))))).get? S = some (lsO ((beh I (i + 1)).map Value.ref).toArray c2) := by
      have u := get?_update_seq (c := "list") hS' (fun x => x.push (Value.ref (I + 1 + i)))
      rw [List.push_toArray] at u
      rw [beh_succ, List.map_append]
      exact ⟨_, u⟩
    show wpAny (model prog w) A.in1 (updateSeq S (·.push (Value.ref (I + 1 + i))) >>= fun _ => _) _ _ _
    refine wpAny_bind (wpAny_updateSeq hS' rfl (wpAny_pure ⟨plainId_quiet PySem.F.plain_extend_loop _, ih (i + 1) _ tk c2 x0 x1 x y (by omega) hlt (up I _ (Ne.symm ne) st') ?_ (hD.at fun o e => up d o hSd (kp d o hId e)) (fun b o h1 h2 e => up b o h1 (kp b o h2 (keep b o h1 h2 e))) u2 (fun j hj ji => ?_) ?_⟩) (by rw [hl]; omega) (by rw [Array.size_push, hl]; omega))
    · refine .inr ⟨by omega, ?_⟩
      rcases al with ⟨e, e0, e1⟩ | ⟨nn, e0, e1⟩
      · rcases alt with ⟨z, _⟩ | ⟨p, q, _⟩
        · rw [z] at e0
          exact ⟨by rw [e0], _, e1⟩
        · rw [e] at q
          cases q
      · rcases alt with ⟨z, q⟩ | ⟨p, q, _⟩
        · exact absurd q nn
        · exact ⟨by rw [e0, q], _, e1⟩
    · by_cases z : j = i
      · subst z
        exact up _ _ (Nat.ne_of_gt (Nat.lt_of_lt_of_le hSI (by omega))) tg
      · exact up _ _ (Nat.ne_of_gt (Nat.lt_of_lt_of_le hSI (by omega))) (kp _ _ (beh_ne I j) (tp j hj (by omega)))
    · rw [Heap.size_update, zg]
      omega
theorem ne_it : (Value.type "dict_items" == Value.type "list") = false ∧ (Value.type "dict_items" == Value.type "tuple") = false := by decide
theorem items_extend {S r : Addr} (zh : A.handled = none) (zv : s.heap.IsItemsView r d) (zm : RwD s.heap d es ep) (hSr : S ≠ r) (hSd : d ≠ S) (hn : es.size ≤ sizeLine) (res : Value) {c0 : Nat} (eS : s.heap.get? S = some (lsO #[] c0))
    (fin : ∀ (h : Heap) (tk c : Nat), (∀ b o, b ≠ S → s.heap.get? b = some o → h.get? b = some o) → h.get? S = some (lsO ((beh s.heap.objs.size es.size).map Value.ref).toArray c) → (∀ (j : Nat) (hj : j < es.size), h.get? (s.heap.objs.size + 1 + j) = some (duo es[j].key es[j].val)) → R (.ok (.ret res)) { s with heap := h, toks := tk }) :
    wpAny (model prog w) A.in1 (Builtin.List.listExtendWith (.ref S) (.ref r) res) (fun fin s' => match fin with
      | .done f => R (.ok f) s'
      | .again c' => c'.quiet = true ∧ codeAny (model prog w) A c' R s') (fun e s' => R (.error e) s') s := by
  have lS : S < s.heap.objs.size := Heap.lt_size eS
  unfold Builtin.List.listExtendWith
  refine wpAny_bind (wpAny_typeOf zv.typeIs ?_)
  have sm : Builtin.List.listSameRef (.ref S) (.ref r) = false := by
    unfold Builtin.List.listSameRef
    simpa using hSr
  rw [sm, ne_it.1, ne_it.2, if_neg (by decide)]
  refine wpAny_bind (ri_iter zv zm fun g1 st z1 kp => ?_)
  refine wpAny_bind (wpAny_holding (PySem.W.kdx_hint (s := { s with heap := g1 }) (let ⟨o, ho, hc, _⟩ := zv; ⟨o, kp _ _ ho, hc⟩) ?_))
  refine wp_ite_pos (by kernel_rfl) (wpAny_bind (wpAny_rule ?_))
  unfold Builtin.List.listTouch; skip
  have u1 := get?_update_seq (c := "list") (kp _ _ eS) (fun x => x.push Value.none)
  have u2 := get?_update_seq (c := "list") u1 (fun x => x.pop)
  refine wpAny_bind (wpAny_bind (listUpdate_at (kp _ _ eS) rfl (listUpdate_at u1 rfl ?_ (by simp [sizeLine_eq]) (by simp)) (by simp) (by simp [sizeLine_eq])))
  obtain ⟨c2, u3⟩ : ∃ c2, ((g1.update S (Obj.mapSeq fun x => x.push Value.none)).update S (Obj.mapSeq fun x => x.pop)).get? S = some (lsO #[] c2) := ⟨_, u2⟩
  have k2 : ∀ b o, b ≠ S → g1.get? b = some o → ((g1.update S (Obj.mapSeq fun x => x.push Value.none)).update S (Obj.mapSeq fun x => x.pop)).get? b = some o := fun b o nb e => by
    rw [Heap.get?_update_ne _ _ _ _ nb, Heap.get?_update_ne _ _ _ _ nb]
    exact e
  have z2 : ((g1.update S (Obj.mapSeq fun x => x.push Value.none)).update S (Obj.mapSeq fun x => x.pop)).objs.size = s.heap.objs.size + 1 := by rw [Heap.size_update, Heap.size_update, z1]
  generalize (g1.update S (Obj.mapSeq fun x => x.push Value.none)).update S (Obj.mapSeq fun x => x.pop) = g2 at u3 k2 z2
  refine wpAny_pure ⟨plainId_quiet PySem.F.plain_extend_loop _, items_loop (s := s) (es := es) (ep := ep) (h0 := s.heap) zh lS hSd (Nat.ne_of_lt zm.lt) hn res (fun h tk c kh hS tp => fin h tk c (fun b o nb e => kh b o nb (Nat.ne_of_lt (Heap.lt_size e)) e) hS tp) es.size 0 g2 s.toks c2 .none (.bool false) .none .none (Nat.sub_zero _) (Nat.zero_le _) (k2 _ _ (Nat.ne_of_gt lS) st) (.inl ⟨rfl, rfl⟩) (zm.at fun o e => k2 d o hSd (kp d o e)) (fun b o nb _ e => k2 b o nb (kp b o e)) u3 (fun j hj ji => absurd ji (Nat.not_lt_zero j)) z2⟩
def ColI (s : Shared) (es : Array DictEntry) (q : Result) (s' : Shared) : Prop := ∃ (g : Heap) (tk c : Nat), q = .ok (.ret (.ref s.heap.objs.size)) ∧ s' = { s with heap := g, toks := tk } ∧ (∀ b o, s.heap.get? b = some o → g.get? b = some o) ∧
  g.get? s.heap.objs.size = some (lsO ((beh (s.heap.objs.size + 1) es.size).map Value.ref).toArray c) ∧ ∀ (j : Nat) (hj : j < es.size), g.get? (s.heap.objs.size + 1 + 1 + j) = some (duo es[j].key es[j].val)
theorem items_collect {r : Addr} {C : List Value → Shared → Prop} (zh : A.handled = none) (zv : s.heap.IsItemsView r d) (zm : RwD s.heap d es ep) (hn : es.size ≤ sizeLine)
    (h : ∀ (g : Heap) (tk : Nat), (∀ b o, s.heap.get? b = some o → g.get? b = some o) → (∀ (j : Nat) (hj : j < es.size), g.get? (s.heap.objs.size + 1 + 1 + j) = some (duo es[j].key es[j].val)) → C ((beh (s.heap.objs.size + 1) es.size).map Value.ref) { s with heap := g, toks := tk }) : wpAny (model prog w) A (collect (.ref r)) C E s := by
  have lr : r < s.heap.objs.size := let ⟨_, e, _⟩ := zv; Heap.lt_size e
  unfold collect
  refine wpAny_bind (wpAny_runValue (codeAny_builtin entry_proto_collect' ?_)); rw [Around.under_plainId PySem.F.plain_proto_collect _]
  refine wpAny_bind (m := newList []) (wpAny_newObj_type (wpAny_pure ⟨plainId_quiet PySem.F.plain_list_iadd _, codeAny_builtin entry_list_iadd' ?_⟩)); rw [Around.under_plainId PySem.F.plain_list_iadd _]
  have own : (s.heap.push { cls := .type "list", data := .seq ([] : List Value).toArray }).get? s.heap.objs.size = some (lsO #[] 0) := Heap.get?_push_size _ rfl
  have sz : (s.heap.push { cls := .type "list", data := .seq ([] : List Value).toArray }).objs.size = s.heap.objs.size + 1 := size_push' _ _
  have run := items_extend (prog := prog) (w := w) (A := A) (s := { s with heap := s.heap.push { cls := .type "list", data := .seq ([] : List Value).toArray } }) (R := ColI s es) (es := es) (ep := ep) (r := r) zh (let ⟨o, e, x⟩ := zv; ⟨o, Heap.get?_push_of_some _ e, x⟩) (zm.at fun o e => Heap.get?_push_of_some _ e) (Nat.ne_of_gt lr) (Nat.ne_of_lt zm.lt) hn (.ref s.heap.objs.size) own
    (fun g tk c hk hS tp => ⟨g, tk, c, rfl, rfl, fun b o e => hk b o (Nat.ne_of_lt (Heap.lt_size e)) (Heap.get?_push_of_some _ e), by rw [← sz]; exact hS, fun j hj => by rw [← sz]; exact tp j hj⟩)
  refine wpAny_mono run (fun fin s' y => ?_) (fun _ _ y => by obtain ⟨_, _, _, e, _⟩ := y; cases e)
  have last : ∀ {g : Heap} {tk c : Nat}, (∀ b o, s.heap.get? b = some o → g.get? b = some o) → g.get? s.heap.objs.size = some (lsO ((beh (s.heap.objs.size + 1) es.size).map Value.ref).toArray c) → (∀ (j : Nat) (hj : j < es.size), g.get? (s.heap.objs.size + 1 + 1 + j) = some (duo es[j].key es[j].val)) →
      wpAny (model prog w) A (load s.heap.objs.size >>= fun u => match u.data with
        | .seq xs _ => pure xs.toList
        | _ => unsupported "internal:collect") C E { s with heap := g, toks := tk } := fun {g tk c} hk hS tp => wpAny_bind (wpAny_load hS (wpAny_pure (by rw [List.toList_toArray]; exact h g tk hk tp)))
  cases fin with
  | done f =>
    obtain ⟨g, tk, c, e, rfl, hk, hS, tp⟩ := y
    cases e
    exact last hk hS tp
  | again c1 =>
    refine ⟨y.1, codeAny_mono y.2 fun q s2 z => ?_⟩
    obtain ⟨g, tk, c, rfl, rfl, hk, hS, tp⟩ := z
    exact last hk hS tp
end
end L2

namespace L2
open PySem PySem.Spec PyProof.Rows
/-! ### sorted(d.items()), the keys pairs of ints -/
def leP (a b : (Int × Int) × Int) : Bool := decide (a.1.1 < b.1.1) || (decide (a.1.1 = b.1.1) && (decide (a.1.2 < b.1.2) || (decide (a.1.2 = b.1.2) && decide (a.2 ≤ b.2))))
theorem leP_iff {a b : (Int × Int) × Int} : leP a b = true ↔ a.1.1 < b.1.1 ∨ (a.1.1 = b.1.1 ∧ (a.1.2 < b.1.2 ∨ (a.1.2 = b.1.2 ∧ a.2 ≤ b.2))) := by
  unfold leP
  simp only [Bool.or_eq_true, Bool.and_eq_true, decide_eq_true_iff]
theorem leP_total (a b : (Int × Int) × Int) : (leP a b || leP b a) = true := by
  rw [Bool.or_eq_true, leP_iff, leP_iff]
  omega
theorem leP_trans (a b c : (Int × Int) × Int) (h1 : leP a b = true) (h2 : leP b c = true) : leP a c = true := by
  rw [leP_iff] at *
  omega
theorem leP_anti {a b : (Int × Int) × Int} (h1 : leP a b = true) (h2 : leP b a = true) : a = b := by
  rw [leP_iff] at h1 h2
  exact Prod.ext (Prod.ext (by omega) (by omega)) (by omega)
def srtP2 (ps : Sps) : Sps := ps.mergeSort leP
theorem srtP2_perm (ps : Sps) : (srtP2 ps).Perm ps := List.mergeSort_perm _ _
theorem srtP2_pw (ps : Sps) : (srtP2 ps).Pairwise (fun a b => leP a b = true) := List.pairwise_mergeSort leP_trans leP_total ps
theorem rise_eq {α : Type} {le : α → α → Bool} (anti : ∀ {a b}, le a b = true → le b a = true → a = b) : ∀ {l m : List α}, l.Perm m → l.Pairwise (fun a b => le a b = true) → m.Pairwise (fun a b => le a b = true) → l = m
  | [], m, p, _, _ => List.Perm.nil_eq p
  | a :: l, [], p, _, _ => absurd p.length_eq (by simp)
  | a :: l, b :: m, p, h1, h2 => by
    have e : a = b := by
      rcases List.mem_cons.mp (p.mem_iff.mp List.mem_cons_self) with q | q
      · exact q
      · rcases List.mem_cons.mp (p.mem_iff.mpr List.mem_cons_self) with r | r
        · exact r.symm
        · exact anti ((List.pairwise_cons.mp h1).1 b r) ((List.pairwise_cons.mp h2).1 a q)
    subst e
    rw [rise_eq anti ((List.perm_cons a).mp p) (List.pairwise_cons.mp h1).2 (List.pairwise_cons.mp h2).2]
/-- sorted places have sorted keys -/
theorem refs_sorted {α : Type} (F : Addr → α → Prop) (fu : ∀ {a k l}, F a k → F a l → k = l) {le : α → α → Bool} (anti : ∀ {a b}, le a b = true → le b a = true → a = b) {as bs : List Addr} {ks srt : List α} (h : Paired F as ks) (p : bs.Perm as) (pw : bs.Pairwise fun a b => ∀ k l, F a k → F b l → le k l = true) (sp : srt.Perm ks) (sw : srt.Pairwise fun a b => le a b = true) : Paired F bs srt := by
  classical
  cases ks with
  | nil =>
    cases h
    rw [p.eq_nil, sp.eq_nil]
    exact .nil
  | cons k0 ks0 =>
    let key : Addr → α := fun a => if h : ∃ k, F a k then Classical.choose h else k0
    have kat : ∀ {a k}, F a k → key a = k := fun {a k} f => by
      have ex : ∃ k, F a k := ⟨k, f⟩
      show (if h : ∃ k, F a k then Classical.choose h else k0) = k
      rw [dif_pos ex]
      exact fu (Classical.choose_spec ex) f
    have all : ∀ {l : List Addr} {m : List α}, Paired F l m → l.map key = m ∧ ∀ a ∈ l, F a (key a) := fun {l m} r => by
      induction r with
      | nil => exact ⟨rfl, fun _ h => nomatch h⟩
      | @cons b k l m e _ ih =>
        have kb := kat e
        refine ⟨by rw [List.map_cons, kb, ih.1], fun c hc => ?_⟩
        rcases List.mem_cons.mp hc with z | hc
        · rw [z, kb]; exact e
        · exact ih.2 c hc
    obtain ⟨e1, e2⟩ := all h
    have atb : ∀ b ∈ bs, F b (key b) := fun b hb => e2 b (p.mem_iff.mp hb)
    have back : ∀ {l : List Addr}, (∀ b ∈ l, F b (key b)) → Paired F l (l.map key) := fun {l} hl => by
      induction l with
      | nil => exact .nil
      | cons b l ih => exact .cons (hl b (.head _)) (ih fun c hc => hl c (.tail _ hc))
    have eq : bs.map key = srt := rise_eq anti ((p.map key).trans (by rw [e1]; exact sp.symm)) (List.pairwise_map.mpr (pw.imp_of_mem fun {a b} ha hb q => q _ _ (atb a ha) (atb b hb))) sw
    rw [← eq]
    exact back atb
/-- a pair of a key and a count, at its place -/
def FT (H : Hp) (a : Addr) (p : (Int × Int) × Int) : Prop := ∃ b : Addr, H a = some (.tup [.ref b, .int p.2]) ∧ H b = some (.tup [.int p.1.1, .int p.1.2])
theorem FT.fu {H : Hp} {a : Addr} {p q : (Int × Int) × Int} (h : FT H a p) (g : FT H a q) : p = q := by
  obtain ⟨b, e1, e2⟩ := h
  obtain ⟨c, f1, f2⟩ := g
  rw [e1] at f1
  injection f1 with f1
  injection f1 with f1
  injection f1 with g1 g2
  injection g1 with g1
  injection g2 with g2 _
  injection g2 with g2
  subst g1
  rw [e2] at f2
  injection f2 with f2
  injection f2 with f2
  injection f2 with k1 k2
  injection k1 with k1
  injection k2 with k2 _
  injection k2 with k2
  exact Prod.ext (Prod.ext k1 k2) g2
theorem ft_tps {H : Hp} : ∀ {as : List Addr} {ps : Sps}, Paired (FT H) as ps → TPsAt H (as.map V.ref) (tvOf ps)
  | _, _, .nil => .nil
  | _, _, .cons h r => let ⟨_, e1, e2⟩ := h; .cons e1 e2 (ft_tps r)
theorem lt_le {p q : (Int × Int) × Int} (h : (lexO (lexO intO intO) intO).blt q p = false) : leP p q = true := by
  rw [leP_iff]
  have h : lexB (lexO intO intO) intO q p = false := h
  by_cases c : p.1.1 < q.1.1
  · exact .inl c
  have no : ∀ {z : Bool}, z = true → z = false → False := fun a b => by rw [a] at b; cases b
  have n1 : ¬ q.1.1 < p.1.1 := fun c => no (lex_iff.mpr (.inl (lex_iff (O := intO) (U := intO).mpr (.inl (decide_eq_true c))))) h
  have e1 : p.1.1 = q.1.1 := by omega
  refine .inr ⟨e1, ?_⟩
  have n2 : ¬ q.1.2 < p.1.2 := fun c => no (lex_iff.mpr (.inl (lex_iff (O := intO) (U := intO).mpr (.inr ⟨e1.symm, decide_eq_true c⟩)))) h
  by_cases c2 : p.1.2 < q.1.2
  · exact .inl c2
  have e2 : p.1.2 = q.1.2 := by omega
  refine .inr ⟨e2, ?_⟩
  have n3 : ¬ q.2 < p.2 := fun c => no (lex_iff.mpr (.inr ⟨Prod.ext e1.symm e2.symm, decide_eq_true c⟩)) h
  omega
end L2

namespace L2
open PySem PySem.Spec PyProof.Rows
section
variable {X : Cx}
def rSortIT : List V → Hp → VK → Prop := fun xs H Q => ∃ (v d : Addr) (ps : Sps), xs = [.ref v] ∧ H v = some (iView v d) ∧ H d = some (.dT (tvOf ps)) ∧ ps.length < 64 ∧
  ∀ (H1 : Hp) (as : List Addr), Same H H1 → Paired (FT H1) as (srtP2 ps) → ∀ q, H1 q = none → H q = none → Q (.ref q) (upd H1 q (.lst (as.map V.ref)))
theorem kt_sps {H : Hp} : ∀ {ps : Sps} {xs : List TKv} {j : Nat} {p : (Int × Int) × Int}, KT H (tvOf ps) xs → ps[j]? = some p → ∃ x, xs[j]? = some x ∧ H x.2.1 = some (.tup [.int p.1.1, .int p.1.2]) ∧ ∃ t, x.2.2 = .int p.2 t := fun {ps xs j p} kt e => by
  have e2 : (tvOf ps)[j]? = some (kk p.1, .int p.2) := by unfold tvOf; rw [List.getElem?_map, e]; rfl
  obtain ⟨x, h1, h2, t, h3⟩ := kt_get kt e2
  exact ⟨x, h1, h2, t, h3⟩
theorem call_sortIT (hc : X.calm = true) (hu : X.A.units + 64 < cLine) : CallR X (.builtin "sorted") rSortIT := by
  intro pins s σ H xs us Q I rx h
  obtain ⟨v, d, ps, rfl, hv, hd, h64, q⟩ := h
  obtain ⟨u, rfl, ru⟩ := vals1 rx
  cases ru
  obtain ⟨_, lo, ks, es, ep, kt, raw, ek, ev, sz⟩ := dt_raw I.hok (.inl hd)
  obtain ⟨view, _⟩ := (show ObjOk X.prog X.w H s.heap v (iView v d) from I.hok v _ hv)
  rw [tvOf_len] at sz
  have kl : ks.length = ps.length := by rw [← Paired.length kt, tvOf_len]
  let n := s.heap.objs.size
  let L : Hp := fun b => if n + 2 ≤ b then (match ks[b - (n + 2)]?, ps[b - (n + 2)]? with
    | some x, some p => some (.tup [.ref x.2.1, .int p.2])
    | _, _ => none) else none
  have Lat : ∀ (j : Nat) (x : TKv) (p : (Int × Int) × Int), ks[j]? = some x → ps[j]? = some p → L (n + 1 + 1 + j) = some (.tup [.ref x.2.1, .int p.2]) := fun j x p h1 h2 => by
    show (if n + 2 ≤ n + 1 + 1 + j then _ else none) = _
    rw [if_pos (by omega), show n + 1 + 1 + j - (n + 2) = j by omega, h1, h2]
  refine sort_core (el_two (prog := X.prog) (w := X.w)) (el_int (prog := X.prog) (w := X.w)) FTI (fun {pins σ H s a k} I h => ?_) (((0 : Int), (0 : Int)), (0 : Int)) hu (fun {E C} hC => items_collect (A := X.A.in1) (by simpa using I.ok.hd hc) view raw (small_le (by omega)) fun g tk kp tp => ?_)
  · obtain ⟨b, i, j, n, h, hb, rfl⟩ := h
    obtain ⟨o, m, u, v, e1, e2, e3, ru, ⟨t', rv⟩⟩ := tup_at I h
    obtain ⟨o2, m2, u2, v2, g1, g2, g3, ⟨t2, ru2⟩, ⟨t3, rv2⟩⟩ := tup_at I hb
    exact ⟨a, o, m, u, v, rfl, e1, e2, e3, ⟨b, o2, m2, u2, v2, ru, g1, g2, g3, ⟨t2, ru2⟩, ⟨t3, rv2⟩⟩, ⟨t', rv⟩⟩
  have ent : ∀ (j : Nat) (hj : j < es.size) (x : TKv), ks[j]? = some x → es[j].key = .ref x.2.1 ∧ es[j].val = x.2.2 := fun j hj x hx => by
    have q1 : (es.toList.map DictEntry.key)[j]? = some es[j].key := by rw [List.getElem?_map, Array.getElem?_toList, Array.getElem?_eq_getElem hj]; rfl
    have q2 : (es.toList.map DictEntry.val)[j]? = some es[j].val := by rw [List.getElem?_map, Array.getElem?_toList, Array.getElem?_eq_getElem hj]; rfl
    rw [ek, List.getElem?_map, List.getElem?_map, hx] at q1
    rw [ev, List.getElem?_map, hx] at q2
    exact ⟨(Option.some.inj q1).symm, (Option.some.inj q2).symm⟩
  have nw : ∀ b o, n ≤ b → L b = some o → ObjOk X.prog X.w (over H n L) g b o := fun b o hb e => by
    have e : (if n + 2 ≤ b then (match ks[b - (n + 2)]?, ps[b - (n + 2)]? with
      | some x, some p => some (HO.tup [.ref x.2.1, .int p.2])
      | _, _ => none) else none) = some o := e
    by_cases hb2 : n + 2 ≤ b
    · rw [if_pos hb2] at e
      have hj : b - (n + 2) < ps.length := by
        by_cases z : b - (n + 2) < ps.length
        · exact z
        · rw [List.getElem?_eq_none (Nat.not_lt.mp z)] at e
          cases z2 : ks[b - (n + 2)]? <;> rw [z2] at e <;> cases e
      have hp : ps[b - (n + 2)]? = some ps[b - (n + 2)] := List.getElem?_eq_getElem hj
      obtain ⟨x, hx, _, t, hv⟩ := kt_sps kt hp
      rw [hx, hp] at e
      cases e
      have hje : b - (n + 2) < es.size := by omega
      obtain ⟨k1, k2⟩ := ent _ hje x hx
      have tb := tp _ hje
      rw [k1, k2, hv, show s.heap.objs.size + 1 + 1 + (b - (n + 2)) = b by show n + 1 + 1 + (b - (n + 2)) = b; omega] at tb
      exact ⟨small_le (leN rfl), [.ref x.2.1, .int _ t], .cons rfl (.cons ⟨t, rfl⟩ .nil), ⟨_, tb, ⟨rfl, rfl⟩, _, rfl⟩⟩
    · rw [if_neg hb2] at e
      cases e
  obtain ⟨I', sm⟩ := I.over (t' := tk) kp nw
  have pr : Paired (FT (over H n L)) (beh (n + 1) es.size) ps := by
    have go : ∀ (l : Sps) (m : Nat), (∀ j p, l[j]? = some p → ps[m + j]? = some p) → m + l.length = ps.length → Paired (FT (over H n L)) ((List.range l.length).map fun j => n + 1 + 1 + (m + j)) l := fun l => by
      induction l with
      | nil => intro m _ _; exact .nil
      | cons p l ih =>
        intro m hl hm
        have e0 := hl 0 p rfl
        obtain ⟨x, hx, hb, _⟩ := kt_sps kt e0
        have q := ih (m + 1) (fun j p e => by have := hl (j + 1) p (by simpa using e); rwa [show m + (j + 1) = m + 1 + j by omega] at this) (by rw [List.length_cons] at hm; omega)
        rw [List.length_cons, List.range_succ_eq_map, List.map_cons, List.map_map]
        refine .cons ⟨x.2.1, ?_, sm _ _ hb⟩ ?_
        · rw [over_new (by omega)]
          exact Lat (m + 0) x p hx e0
        · have ef : ((fun j => n + 1 + 1 + (m + j)) ∘ Nat.succ) = fun j => n + 1 + 1 + (m + 1 + j) := by
            funext j
            show n + 1 + 1 + (m + (j + 1)) = _
            omega
          rw [ef]
          exact q
    have := go ps 0 (fun j p e => by rwa [Nat.zero_add]) (by omega)
    rw [sz]
    unfold beh
    simpa using this
  refine hC g tk (over H n L) (beh (n + 1) es.size) I' (by rw [beh_len]; omega) (fun a ha => ?_) fun bs bp pw q0 nq => ?_
  · have : ∀ {l : List Addr} {m : Sps}, Paired (FT (over H n L)) l m → a ∈ l → ∃ k, FTI (over H n L) a k := fun {l m} r => by
      induction r with
      | nil => intro h; exact nomatch h
      | cons e _ ih =>
        intro h
        rcases List.mem_cons.mp h with z | h
        · obtain ⟨b, e1, e2⟩ := e
          rw [z]
          exact ⟨_, b, _, _, _, e1, e2, rfl⟩
        · exact ih h
    exact this pr ha
  · refine q (over H n L) bs sm (refs_sorted (FT (over H n L)) (fun f g => f.fu g) (fun a b => leP_anti a b) pr bp (pw.imp fun {a b} h k l fk fl => ?_) (srtP2_perm ps) (srtP2_pw ps)) q0 nq ?_
    · obtain ⟨b1, e1, e2⟩ := fk
      obtain ⟨b2, f1, f2⟩ := fl
      exact lt_le (h k l ⟨b1, _, _, _, e1, e2, rfl⟩ ⟨b2, _, _, _, f1, f2, rfl⟩)
    · by_cases z : H q0 = none
      · exact z
      · obtain ⟨u, hu⟩ := Option.ne_none_iff_exists'.mp z
        rw [sm _ _ hu] at nq
        cases nq
end
end L2

namespace L2
open PySem PySem.Spec PyProof.Rows
section
variable {P : Program} {w : World} {A : Around} {E : Value → Shared → Prop} {s : Shared} {a b : Addr} {es : Array DictEntry} {ep e2 : Nat}
/-- a dict and an empty one, held side by side -/
theorem same_nil {nm : String} {Q : Bool → Shared → Prop} (ha : (a == sysModules) = false) (hb : (b == sysModules) = false) (ra : RwD s.heap a es ep) (rb : RwD s.heap b #[] e2) (h : Q (decide (es.size = 0)) s) : wpAny (model P w) A (Builtin.Dict.samePairs nm a b) Q E s := by
  obtain ⟨oa, ga, _, qa⟩ := ra
  obtain ⟨ob, gb, _, qb⟩ := rb
  have sh : ∀ {d : Addr} {R : Unit → Shared → Prop}, (d == sysModules) = false → R () s → wpAny (model P w) A (Builtin.Dict.showsAll d) R E s := fun {d R} hd hr => by
    unfold Builtin.Dict.showsAll
    rw [if_neg (by rw [hd]; decide)]
    exact wpAny_pure hr
  unfold Builtin.Dict.samePairs
  refine wpAny_bind (sh ha (wpAny_bind (sh hb (wpAny_bind (wpAny_dictEntries ga qa (wpAny_bind (wpAny_dictEntries gb qb ?_)))))))
  by_cases hl : es.size = 0
  · obtain rfl : es = #[] := Array.eq_empty_of_size_eq_zero hl
    rw [if_neg (by simp)]
    refine wpAny_bind (wpAny_dictEpoch ga qa (wpAny_bind ?_))
    rw [Std.Legacy.Range.forIn_eq_forIn_range']
    exact wpAny_pure (wpAny_pure h)
  · rw [if_pos (by simpa using hl)]
    rw [decide_eq_false hl] at h
    exact wpAny_bind (wpAny_rule (wpAny_pure h))
theorem meets_ne_nil (ha : (a == sysModules) = false) (hb : (b == sysModules) = false) : MeetsIn P w (Builtin.«dict.__ne__» ⟨[.ref a, .ref b], []⟩) (fun _ R s => RwD s.heap a es ep ∧ RwD s.heap b #[] e2 ∧ R (.ok (.ret (.bool (!decide (es.size = 0))))) s) :=
  .of_wp fun A R s ⟨ra, rb, h⟩ => by
    show wpAny (model P w) _ (Builtin.Dict.dictSlotArgs "__ne__" ⟨[.ref a, .ref b], []⟩ >>= fun _ => _) _ _ s
    refine wpAny_bind ?_
    unfold Builtin.Dict.dictSlotArgs
    refine wpAny_bind (wpAny_notOrdered_dict ra.typeIs (show wpAny (model P w) _ (pure (Value.ref a, Value.ref b)) _ _ s from wpAny_pure (wpAny_bind (wpAny_isInstance rb.typeIs isSubtype_dict_dict ?_))))
    rw [if_neg (by decide)]
    show wpAny (model P w) _ (Builtin.Dict.samePairs _ a b >>= fun _ => _) _ _ s
    refine wpAny_bind (same_nil ha hb ra rb ?_)
    have bt : ∀ c : Bool, (c == false) = !c := fun c => by cases c <;> rfl
    rw [bt]
    exact wpAny_pure ⟨_, rfl, h⟩
end
/-- d != {} -/
theorem op_neDT {X : Cx} (hu : X.A.units < cLine) : OpR X (compareOp .NotEq) (fun x y H Q => ∃ (a b : Addr) (kvs : List (List Key × V)), x = .ref a ∧ y = .ref b ∧ H a = some (.dT kvs) ∧ H b = some (.dT []) ∧ Q (.bl (!decide (kvs.length = 0))) H) := by
  intro pins s σ H x y v u Q I rx ry h
  obtain ⟨a, b, kvs, rfl, rfl, ea, eb, q⟩ := h
  cases rx
  cases ry
  obtain ⟨_, la, _, es, ep, _, ra, _, _, sz⟩ := dt_raw I.hok (.inl ea)
  obtain ⟨_, lb, _, e2, p2, _, rb, _, _, s2⟩ := dt_raw I.hok (.inl eb)
  obtain rfl : e2 = #[] := Array.eq_empty_of_size_eq_zero s2
  refine wpAny_richCompare_same_room (op := .NotEq) ra.typeIs rb.typeIs PySem.F.slot_dict_ne (call_meetsIn PySem.F.slot_dict_ne ra.typeIs PySem.F.entry_dict_ne (PySem.F.args_dict_ne_2 _ _) (meets_ne_nil la lb) ⟨ra, rb, ?_⟩) hu
  refine ⟨(fun z => nomatch z), .bl _, H, I, rfl, ?_⟩
  rw [sz]
  exact q
/-- y in d -/
theorem op_inDG {X : Cx} (hu : X.A.units + 64 < cLine) : OpR X (compareOp .In) (fun x y H Q => ∃ (a : Addr) (o : Option V), y = .ref a ∧ DGet H a x o ∧ Q (.bl o.isSome) H) := by
  intro pins s σ H x y v u Q I rx ry h
  obtain ⟨a, o, rfl, g, q⟩ := h
  cases ry
  exact d_in (by omega) I g rx fun s' I' => ⟨.bl _, H, I', rfl, q⟩
end L2

namespace L2
open PySem
/-- a block whose reading is told when it is come to -/
def tRun (X : Cx) (ss : List Stmt) : TS := fun D σ H => ∃ t : TS, PSs X ss t ∧ t D σ H
theorem pss_run {X : Cx} {ss : List Stmt} : PSs X ss (tRun X ss) := fun pins s σ H D I ⟨_, h, q⟩ => h pins s σ H D I q
section
variable {K : PySem.W.Frag} {a : Addr} {xs : List V} {g : TG} {tb : TS} {D : Ends} {σ : St} {H : Hp}
/-! loops whose body doesn't see what is behind it -/
theorem for_listH (Pv : Nat → St → Hp → Prop) (h0 : Pv 0 σ H) (hl : ∀ i σ H, i ≤ xs.length → Pv i σ H → SqL K H a xs)
    (hs : ∀ i x σ H (N B : St → Hp → Prop) (R : VK), (∀ σ' H', Pv (i + 1) σ' H' → N σ' H') → (∀ v H', D.rt v H' → R v H') → xs[i]? = some x → Pv i σ H → g x σ H fun σ2 H2 => tb { nx := N, rt := R, bk := B, ct := N } σ2 H2) (hd : ∀ σ H, Pv xs.length σ H → D.nx σ H) :
    ∃ W : Nat → Nat → St → Hp → Prop, (∃ m, W 0 m σ H) ∧ ∀ i m σ H, W i m σ H →
      ((Itl K a).stop i H ∧ D.nx σ H) ∨ ((Itl K a).go i H ∧ ∃ N : St → Hp → Prop, (∀ σ' H', N σ' H' → ∃ m', m' < m ∧ W (i + 1) m' σ' H') ∧ ∀ x H', (Itl K a).yld i H x H' → g x σ H' fun σ2 H2 => tb { D with nx := N, ct := N, bk := D.nx } σ2 H2) :=
  for_list Pv h0 hl (fun i x σ H hx p => hs i x σ H _ _ _ (fun _ _ q => q) (fun _ _ q => q) hx p) hd
theorem for_tupH (Pv : Nat → St → Hp → Prop) (h0 : Pv 0 σ H) (hl : ∀ i σ H, i ≤ xs.length → Pv i σ H → SqT K H a xs)
    (hs : ∀ i x σ H (N B : St → Hp → Prop) (R : VK), (∀ σ' H', Pv (i + 1) σ' H' → N σ' H') → (∀ v H', D.rt v H' → R v H') → xs[i]? = some x → Pv i σ H → g x σ H fun σ2 H2 => tb { nx := N, rt := R, bk := B, ct := N } σ2 H2) (hd : ∀ σ H, Pv xs.length σ H → D.nx σ H) :
    ∃ W : Nat → Nat → St → Hp → Prop, (∃ m, W 0 m σ H) ∧ ∀ i m σ H, W i m σ H →
      ((Itt K a).stop i H ∧ D.nx σ H) ∨ ((Itt K a).go i H ∧ ∃ N : St → Hp → Prop, (∀ σ' H', N σ' H' → ∃ m', m' < m ∧ W (i + 1) m' σ' H') ∧ ∀ x H', (Itt K a).yld i H x H' → g x σ H' fun σ2 H2 => tb { D with nx := N, ct := N, bk := D.nx } σ2 H2) :=
  for_tup Pv h0 hl (fun i x σ H hx p => hs i x σ H _ _ _ (fun _ _ q => q) (fun _ _ q => q) hx p) hd
theorem for_rangeH {lo : Int} {n : Nat} (Pv : Nat → St → Hp → Prop) (h0 : Pv 0 σ H)
    (hs : ∀ i σ H (N B : St → Hp → Prop) (R : VK), (∀ σ' H', Pv (i + 1) σ' H' → N σ' H') → (∀ v H', D.rt v H' → R v H') → i < n → Pv i σ H → g (.int (lo + i)) σ H fun σ2 H2 => tb { nx := N, rt := R, bk := B, ct := N } σ2 H2) (hd : ∀ σ H, Pv n σ H → D.nx σ H) :
    ∃ W : Nat → Nat → St → Hp → Prop, (∃ m, W 0 m σ H) ∧ ∀ i m σ H, W i m σ H →
      ((Itr lo n).stop i H ∧ D.nx σ H) ∨ ((Itr lo n).go i H ∧ ∃ N : St → Hp → Prop, (∀ σ' H', N σ' H' → ∃ m', m' < m ∧ W (i + 1) m' σ' H') ∧ ∀ x H', (Itr lo n).yld i H x H' → g x σ H' fun σ2 H2 => tb { D with nx := N, ct := N, bk := D.nx } σ2 H2) :=
  for_range Pv h0 (fun i σ H hi p => hs i σ H _ _ _ (fun _ _ q => q) (fun _ _ q => q) hi p) hd
end
theorem Fun.b0 {K : PySem.W.Frag} {x qual : Str} {st : Stmt} {f : Addr} {fd : FuncData} (F : Fun K x qual st f fd) (h : ∀ (kV doc pm : Value) (an : Option Addr) (cdv ct : Value), bindArgs (PySem.W.fnOf x qual (defArgs st) (defBody st) (defScope st) .none kV doc pm an cdv ct) ⟨[], []⟩ = pure []) : Binds K fd [] [] := F.binds fun kV doc pm an cdv ct us hl => match us, hl with | [], _ => h kV doc pm an cdv ct 
theorem Fun.b1 {K : PySem.W.Frag} {x qual : Str} {st : Stmt} {f : Addr} {fd : FuncData} {p0 : Str} (F : Fun K x qual st f fd) (h : ∀ (kV doc pm : Value) (an : Option Addr) (cdv ct u0 : Value), bindArgs (PySem.W.fnOf x qual (defArgs st) (defBody st) (defScope st) .none kV doc pm an cdv ct) ⟨[u0], []⟩ = pure [(p0, u0)]) : Binds K fd [p0] [] := F.binds fun kV doc pm an cdv ct us hl => match us, hl with | [u0], _ => h kV doc pm an cdv ct u0
theorem Fun.b2 {K : PySem.W.Frag} {x qual : Str} {st : Stmt} {f : Addr} {fd : FuncData} {p0 p1 : Str} (F : Fun K x qual st f fd) (h : ∀ (kV doc pm : Value) (an : Option Addr) (cdv ct u0 u1 : Value), bindArgs (PySem.W.fnOf x qual (defArgs st) (defBody st) (defScope st) .none kV doc pm an cdv ct) ⟨[u0, u1], []⟩ = pure [(p0, u0), (p1, u1)]) : Binds K fd [p0, p1] [] := F.binds fun kV doc pm an cdv ct us hl => match us, hl with | [u0, u1], _ => h kV doc pm an cdv ct u0 u1
theorem Fun.b3 {K : PySem.W.Frag} {x qual : Str} {st : Stmt} {f : Addr} {fd : FuncData} {p0 p1 p2 : Str} (F : Fun K x qual st f fd) (h : ∀ (kV doc pm : Value) (an : Option Addr) (cdv ct u0 u1 u2 : Value), bindArgs (PySem.W.fnOf x qual (defArgs st) (defBody st) (defScope st) .none kV doc pm an cdv ct) ⟨[u0, u1, u2], []⟩ = pure [(p0, u0), (p1, u1), (p2, u2)]) : Binds K fd [p0, p1, p2] [] := F.binds fun kV doc pm an cdv ct us hl => match us, hl with | [u0, u1, u2], _ => h kV doc pm an cdv ct u0 u1 u2
theorem Fun.b4 {K : PySem.W.Frag} {x qual : Str} {st : Stmt} {f : Addr} {fd : FuncData} {p0 p1 p2 p3 : Str} (F : Fun K x qual st f fd) (h : ∀ (kV doc pm : Value) (an : Option Addr) (cdv ct u0 u1 u2 u3 : Value), bindArgs (PySem.W.fnOf x qual (defArgs st) (defBody st) (defScope st) .none kV doc pm an cdv ct) ⟨[u0, u1, u2, u3], []⟩ = pure [(p0, u0), (p1, u1), (p2, u2), (p3, u3)]) : Binds K fd [p0, p1, p2, p3] [] := F.binds fun kV doc pm an cdv ct us hl => match us, hl with | [u0, u1, u2, u3], _ => h kV doc pm an cdv ct u0 u1 u2 u3
theorem Fun.b5 {K : PySem.W.Frag} {x qual : Str} {st : Stmt} {f : Addr} {fd : FuncData} {p0 p1 p2 p3 p4 : Str} (F : Fun K x qual st f fd) (h : ∀ (kV doc pm : Value) (an : Option Addr) (cdv ct u0 u1 u2 u3 u4 : Value), bindArgs (PySem.W.fnOf x qual (defArgs st) (defBody st) (defScope st) .none kV doc pm an cdv ct) ⟨[u0, u1, u2, u3, u4], []⟩ = pure [(p0, u0), (p1, u1), (p2, u2), (p3, u3), (p4, u4)]) : Binds K fd [p0, p1, p2, p3, p4] [] := F.binds fun kV doc pm an cdv ct us hl => match us, hl with | [u0, u1, u2, u3, u4], _ => h kV doc pm an cdv ct u0 u1 u2 u3 u4
end L2

namespace Ld
open PySem L2
/-! ### ladders: counts put, dropped, folded (the mathematics) -/
def par1 (k : Int × Int) : Int × Int := (k.1 + 1, k.2 / 2)
def lookO (ps : Sps) (k : Int × Int) : Option V := valV (tvOf ps) (kk k)
theorem look_int : ∀ (ps : Sps) (k : Int × Int), lookO ps k = none ∨ ∃ n, lookO ps k = some (.int n)
  | [], k => .inl rfl
  | p :: ps, k => by
    unfold lookO tvOf
    rw [List.map_cons]
    by_cases e : kk p.1 = kk k
    · rw [valV_pos e]
      exact .inr ⟨_, rfl⟩
    · rw [valV_neg e]
      exact look_int ps k
def putS (ps : Sps) (k : Int × Int) (n : Int) : Sps := if (ps.any fun p => decide (p.1 = k)) = true then ps.map (fun p => if p.1 = k then (p.1, n) else p) else ps ++ [(k, n)]
def dropS (ps : Sps) (k : Int × Int) : Sps := ps.filter fun p => decide (p.1 ≠ k)
theorem kk_iff {p q : Int × Int} : kk p = kk q ↔ p = q := ⟨kk_inj, fun e => by rw [e]⟩
theorem put_tv (ps : Sps) (k : Int × Int) (n : Int) : putK (tvOf ps) (kk k) (.int n) = tvOf (putS ps k n) := by
  have ea : ((tvOf ps).any fun kv => decide (kv.1 = kk k)) = ps.any fun p => decide (p.1 = k) := by
    unfold tvOf
    rw [List.any_map]
    congr 1
    funext p
    exact decide_eq_decide.mpr kk_iff
  unfold putK putS
  rw [ea]
  split
  · unfold tvOf
    rw [List.map_map, List.map_map]
    congr 1
    funext p
    show (if kk p.1 = kk k then (kk p.1, V.int n) else (kk p.1, V.int p.2)) = _
    by_cases e : p.1 = k
    · rw [if_pos (kk_iff.mpr e)]
      show _ = (kk (if p.1 = k then (p.1, n) else p).1, V.int (if p.1 = k then (p.1, n) else p).2)
      rw [if_pos e]
    · rw [if_neg (fun z => e (kk_inj z))]
      show _ = (kk (if p.1 = k then (p.1, n) else p).1, V.int (if p.1 = k then (p.1, n) else p).2)
      rw [if_neg e]
  · unfold tvOf
    rw [List.map_append]
    rfl
theorem drop_tv (ps : Sps) (k : Int × Int) : dropK (tvOf ps) (kk k) = tvOf (dropS ps k) := by
  unfold dropK dropS tvOf
  rw [List.filter_map]
  congr 1
  refine List.filter_congr fun p _ => ?_
  exact decide_eq_decide.mpr (not_congr kk_iff)
theorem any_mem {ps : Sps} {k : Int × Int} : (ps.any fun p => decide (p.1 = k)) = true ↔ k ∈ ps.map (·.1) := by
  rw [List.any_eq_true, List.mem_map]
  exact ⟨fun ⟨p, h, e⟩ => ⟨p, h, of_decide_eq_true e⟩, fun ⟨p, h, e⟩ => ⟨p, h, decide_eq_true e⟩⟩
theorem put_keys (ps : Sps) (k : Int × Int) (n : Int) : (putS ps k n).map (·.1) = if k ∈ ps.map (·.1) then ps.map (·.1) else ps.map (·.1) ++ [k] := by
  unfold putS
  by_cases h : k ∈ ps.map (·.1)
  · rw [if_pos (any_mem.mpr h), if_pos h, List.map_map]
    congr 1
    funext p
    show (if p.1 = k then (p.1, n) else p).1 = p.1
    split <;> rfl
  · rw [if_neg (fun z => h (any_mem.mp z)), if_neg h, List.map_append]
    rfl
theorem drop_keys (ps : Sps) (k : Int × Int) : (dropS ps k).map (·.1) = (ps.map (·.1)).filter fun x => decide (x ≠ k) := by
  unfold dropS
  rw [List.filter_map]
  rfl
theorem put_len (ps : Sps) (k : Int × Int) (n : Int) : (putS ps k n).length ≤ ps.length + 1 := by
  unfold putS
  split
  · rw [List.length_map]; omega
  · rw [List.length_append]; exact Nat.le_refl _
theorem drop_len (ps : Sps) (k : Int × Int) : (dropS ps k).length ≤ ps.length := List.length_filter_le _ _
theorem look_put (ps : Sps) (k j : Int × Int) (n : Int) : lookO (putS ps k n) j = if j = k then some (.int n) else lookO ps j := by
  unfold lookO
  rw [← put_tv, valV_put]
  by_cases e : j = k
  · rw [if_pos (kk_iff.mpr e), if_pos e]
  · rw [if_neg (fun z => e (kk_inj z)), if_neg e]
theorem look_cons (p : (Int × Int) × Int) (ps : Sps) (j : Int × Int) : lookO (p :: ps) j = if p.1 = j then some (.int p.2) else lookO ps j := by
  unfold lookO tvOf
  rw [List.map_cons]
  by_cases e : p.1 = j
  · rw [if_pos e, valV_pos (by show kk p.1 = kk j; rw [e])]
  · rw [if_neg e, valV_neg (fun z => e (kk_inj z))]
theorem look_drop : ∀ (ps : Sps) (k j : Int × Int), lookO (dropS ps k) j = if j = k then none else lookO ps j
  | [], k, j => by
    show none = if j = k then none else none
    split <;> rfl
  | p :: ps, k, j => by
    have ih := look_drop ps k j
    unfold dropS at ih ⊢
    by_cases e : p.1 = k
    · rw [List.filter_cons, if_neg (by simpa using e), ih, look_cons]
      by_cases z : j = k
      · rw [if_pos z, if_pos z]
      · rw [if_neg z, if_neg z, if_neg (fun q => z (by rw [← q, e]))]
    · rw [List.filter_cons, if_pos (decide_eq_true e), look_cons, ih, look_cons]
      by_cases z : j = k
      · rw [if_pos z, if_pos z, if_neg (fun q => e (by rw [q, z]))]
      · rw [if_neg z, if_neg z]
theorem par_ne (k : Int × Int) : k ≠ par1 k := fun e => by
  have : k.1 = k.1 + 1 := congrArg (·.1) e
  omega
theorem look_mem {ps : Sps} {k : Int × Int} : (lookO ps k).isSome = true ↔ k ∈ ps.map (·.1) := by
  unfold lookO
  rw [← valV_any, ← any_mem]
  have ea : ((tvOf ps).any fun kv => decide (kv.1 = kk k)) = ps.any fun p => decide (p.1 = k) := by
    unfold tvOf
    rw [List.any_map]
    congr 1
    funext p
    exact decide_eq_decide.mpr kk_iff
  rw [ea]
theorem look_some {ps : Sps} {k : Int × Int} (h : (lookO ps k).isSome = true) : ∃ m, lookO ps k = some (.int m) := by
  rcases look_int ps k with z | z
  · rw [z] at h; cases h
  · exact z
def cnt (ps : Sps) (k : Int × Int) : Int := match lookO ps k with
  | some (.int n) => n
  | _ => 0
theorem look_at : ∀ {ps : Sps} {p : (Int × Int) × Int}, (ps.map (·.1)).Nodup → p ∈ ps → lookO ps p.1 = some (.int p.2)
  | q :: ps, p, nd, h => by
    rw [List.map_cons, List.nodup_cons] at nd
    rw [look_cons]
    rcases List.mem_cons.mp h with e | h
    · rw [e, if_pos rfl]
    · rw [if_neg (fun z => nd.1 (by rw [z]; exact List.mem_map.mpr ⟨p, h, rfl⟩))]
      exact look_at nd.2 h
theorem look_key {ps : Sps} {k : Int × Int} (h : k ∈ ps.map (·.1)) : lookO ps k = some (.int (cnt ps k)) := by
  obtain ⟨m, e⟩ := look_some (look_mem.mpr h)
  unfold cnt
  rw [e]
theorem lookO_out {ps : Sps} {k : Int × Int} (h : k ∉ ps.map (·.1)) : lookO ps k = none := by
  rcases look_int ps k with z | ⟨n, z⟩
  · exact z
  · exact absurd (look_mem.mp (by rw [z]; rfl)) h
theorem cnt_out {ps : Sps} {k : Int × Int} (h : k ∉ ps.map (·.1)) : cnt ps k = 0 := by
  unfold cnt
  rw [lookO_out h]
theorem cnt_look (ps : Sps) (k : Int × Int) : (lookO ps k).getD (.int 0) = .int (cnt ps k) := by
  unfold cnt
  rcases look_int ps k with z | ⟨n, z⟩ <;> rw [z] <;> rfl
theorem cnt_eq {ps qs : Sps} {j k : Int × Int} (h : lookO ps j = lookO qs k) : cnt ps j = cnt qs k := by
  unfold cnt
  rw [h]
theorem cnt_put (ps : Sps) (k j : Int × Int) (n : Int) : cnt (putS ps k n) j = if j = k then n else cnt ps j := by
  unfold cnt
  rw [look_put]
  by_cases e : j = k
  · rw [if_pos e, if_pos e]
  · rw [if_neg e, if_neg e]
theorem mem_look {ps : Sps} {p : (Int × Int) × Int} (nd : (ps.map (·.1)).Nodup) : p ∈ ps ↔ lookO ps p.1 = some (.int p.2) := by
  refine ⟨look_at nd, fun h => ?_⟩
  have hk : p.1 ∈ ps.map (·.1) := look_mem.mp (by rw [h]; rfl)
  obtain ⟨q, hq, e⟩ := List.mem_map.mp hk
  have hq2 := look_at nd hq
  rw [e, h] at hq2
  injection hq2 with hq2
  injection hq2 with hq2
  have : q = p := Prod.ext e hq2.symm
  rw [← this]
  exact hq
theorem nd_of {α β : Type} {f : α → β} {l : List α} (h : (l.map f).Nodup) : l.Nodup := (List.pairwise_map.mp h).imp fun h e => h (by rw [e])
theorem perm_nd {α : Type} [DecidableEq α] : ∀ {l m : List α}, l.Nodup → m.Nodup → (∀ a, a ∈ l ↔ a ∈ m) → l.Perm m
  | [], m, _, _, h => by
    cases m with
    | nil => exact .refl _
    | cons b m => exact absurd ((h b).mpr (.head _)) List.not_mem_nil
  | a :: l, m, nl, nm, h => by
    rw [List.nodup_cons] at nl
    have ha := (h a).mp (.head _)
    refine .trans (List.Perm.cons a (perm_nd nl.2 (nm.erase a) fun b => ?_)) (List.perm_cons_erase ha).symm
    rw [nm.mem_erase_iff]
    refine ⟨fun hb => ⟨fun e => nl.1 (by rw [← e]; exact hb), (h b).mp (.tail _ hb)⟩, fun ⟨ne, hb⟩ => ((List.mem_cons.mp ((h b).mpr hb)).resolve_left ne)⟩
theorem perm_look {ps qs : Sps} (np : (ps.map (·.1)).Nodup) (nq : (qs.map (·.1)).Nodup) (h : ∀ k, lookO ps k = lookO qs k) : ps.Perm qs :=
  perm_nd (nd_of np) (nd_of nq) fun p => by rw [mem_look np, mem_look nq, h]
theorem look_perm {ps qs : Sps} (h : ps.Perm qs) (np : (ps.map (·.1)).Nodup) (k : Int × Int) : lookO ps k = lookO qs k := by
  have nq : (qs.map (·.1)).Nodup := (h.map _).nodup_iff.mp np
  by_cases hk : k ∈ ps.map (·.1)
  · obtain ⟨p, hp, rfl⟩ := List.mem_map.mp hk
    rw [look_at np hp, look_at nq (h.mem_iff.mp hp)]
  · rw [lookO_out hk, lookO_out fun z => hk ((h.map _).mem_iff.mpr z)]
/-! sums -/
def sumS (ps : Sps) : Int := (ps.map (·.2)).sum
theorem sum_drop : ∀ {ps : Sps} {k : Int × Int}, (ps.map (·.1)).Nodup → sumS (dropS ps k) = sumS ps - cnt ps k
  | [], k, _ => by
    show (0 : Int) = 0 - cnt [] k
    rfl
  | p :: ps, k, nd => by
    rw [List.map_cons, List.nodup_cons] at nd
    have ih := sum_drop (k := k) nd.2
    unfold sumS dropS at ih ⊢
    by_cases e : p.1 = k
    · have o : cnt ps k = 0 := cnt_out (by rw [← e]; exact nd.1)
      have c : cnt (p :: ps) k = p.2 := by unfold cnt; rw [look_cons, if_pos e]
      rw [List.filter_cons, if_neg (by simpa using e), ih, o, c, List.map_cons, List.sum_cons]
      omega
    · have c : cnt (p :: ps) k = cnt ps k := by unfold cnt; rw [look_cons, if_neg e]
      rw [List.filter_cons, if_pos (decide_eq_true e), List.map_cons, List.sum_cons, ih, c, List.map_cons, List.sum_cons]
      omega
theorem put_nd {ps : Sps} {k : Int × Int} {n : Int} (nd : (ps.map (·.1)).Nodup) : ((putS ps k n).map (·.1)).Nodup := by
  rw [put_keys]
  split
  · exact nd
  · rename_i h
    exact List.nodup_append.mpr ⟨nd, List.nodup_cons.mpr ⟨List.not_mem_nil, List.nodup_nil⟩, fun x hx y hy e => h (by rw [List.mem_singleton.mp hy] at e; rw [← e]; exact hx)⟩
theorem drop_nd {ps : Sps} {k : Int × Int} (nd : (ps.map (·.1)).Nodup) : ((dropS ps k).map (·.1)).Nodup := by
  rw [drop_keys]
  exact nd.filter _
theorem sum_perm {ps qs : Sps} (h : ps.Perm qs) : sumS ps = sumS qs := perm_sum (h.map _)
theorem sum_put {ps : Sps} {k : Int × Int} {n : Int} (nd : (ps.map (·.1)).Nodup) : sumS (putS ps k n) = sumS ps - cnt ps k + n := by
  have h : (putS ps k n).Perm ((k, n) :: dropS ps k) := by
    have hk : k ∉ (dropS ps k).map (·.1) := by
      rw [drop_keys]
      intro z
      have := (List.mem_filter.mp z).2
      simp at this
    refine perm_look (put_nd nd) (by rw [List.map_cons]; exact List.nodup_cons.mpr ⟨hk, drop_nd nd⟩) fun j => ?_
    rw [look_put, look_cons, look_drop]
    by_cases e : j = k
    · rw [if_pos e, if_pos e.symm]
    · rw [if_neg e, if_neg (Ne.symm e), if_neg e]
  rw [sum_perm h]
  have := sum_drop (k := k) nd
  unfold sumS at this ⊢
  rw [List.map_cons, List.sum_cons, this]
  omega
end Ld

namespace Ld
open PySem L2
/-! ### folds, and what it is to settle (the mathematics) -/
def foldS (ps : Sps) (k : Int × Int) (m n : Int) : Sps := dropS (putS (putS ps (par1 k) n) k (m - m)) k
theorem fold_keys {ps : Sps} {k : Int × Int} {m n : Int} (hk : k ∈ ps.map (·.1)) : (foldS ps k m n).map (·.1) = if par1 k ∈ ps.map (·.1) then (ps.map (·.1)).filter (fun x => decide (x ≠ k)) else (ps.map (·.1)).filter (fun x => decide (x ≠ k)) ++ [par1 k] := by
  unfold foldS
  have k2 : k ∈ (putS ps (par1 k) n).map (·.1) := by
    rw [put_keys]
    split
    · exact hk
    · exact List.mem_append_left _ hk
  rw [drop_keys, put_keys, if_pos k2, put_keys]
  split
  · rfl
  · rw [List.filter_append, List.filter_cons, if_pos (decide_eq_true (Ne.symm (par_ne k)))]
    rfl
def mea (deep : Int) (ks : List (Int × Int)) : Nat := (ks.map fun k => (deep + 1 - k.1).toNat).sum
theorem mea_filter {deep : Int} {k : Int × Int} : ∀ {ks : List (Int × Int)}, ks.Nodup → k ∈ ks → mea deep (ks.filter fun x => decide (x ≠ k)) + (deep + 1 - k.1).toNat = mea deep ks
  | [], _, h => nomatch h
  | x :: ks, nd, h => by
    rw [List.nodup_cons] at nd
    by_cases e : x = k
    · subst e
      have o : ks.filter (fun y => decide (y ≠ x)) = ks := List.filter_eq_self.mpr fun y hy => decide_eq_true fun z => nd.1 (by rw [← z]; exact hy)
      rw [List.filter_cons, if_neg (by simp), o]
      unfold mea
      rw [List.map_cons, List.sum_cons]
      omega
    · have hk : k ∈ ks := (List.mem_cons.mp h).resolve_left (Ne.symm e)
      have ih := mea_filter (deep := deep) nd.2 hk
      rw [List.filter_cons, if_pos (decide_eq_true e)]
      unfold mea at ih ⊢
      rw [List.map_cons, List.sum_cons, List.map_cons, List.sum_cons]
      omega
theorem mea_perm {deep : Int} {ks ls : List (Int × Int)} (h : ks.Perm ls) : mea deep ks = mea deep ls := (h.map _).sum_nat
theorem mea_le {deep : Int} (h : deep ≤ 20) : ∀ {ks : List (Int × Int)}, (∀ k ∈ ks, 0 ≤ k.1) → mea deep ks ≤ 21 * ks.length
  | [], _ => Nat.zero_le _
  | k :: ks, hk => by
    have ih := mea_le h fun x hx => hk x (.tail _ hx)
    have h0 := hk k (.head _)
    unfold mea at ih ⊢
    rw [List.map_cons, List.sum_cons, List.length_cons]
    omega
/-- stretches of a ladder so deep, no two alike -/
structure Kok (deep : Int) (ks : List (Int × Int)) : Prop where
  nd : ks.Nodup
  st : ∀ k ∈ ks, 0 ≤ k.1 ∧ k.1 ≤ deep ∧ 0 ≤ k.2 ∧ k.2 < 2 ^ (deep - k.1).toNat
theorem Kok.perm {deep : Int} {ks ls : List (Int × Int)} (h : Kok deep ks) (p : ls.Perm ks) : Kok deep ls := ⟨p.nodup_iff.mpr h.nd, fun k hk => h.st k (p.mem_iff.mp hk)⟩
theorem two_small {m : Int} (h : m ≤ 10) : (1 : Int) ≤ 2 ^ m.toNat ∧ (2 : Int) ^ m.toNat ≤ 1024 := by
  have a1 : (2 : Nat) ^ m.toNat ≤ 2 ^ 10 := Nat.pow_le_pow_right (by decide) (by omega)
  have a2 : 0 < (2 : Nat) ^ m.toNat := Nat.pow_pos (by decide)
  have a3 : ((2 ^ m.toNat : Nat) : Int) = (2 : Int) ^ m.toNat := by push_cast; rfl
  have a4 : (2 : Nat) ^ 10 = 1024 := by decide
  rw [← a3]
  omega
theorem half_pow {h deep i : Int} (hd : h < deep) (i1 : i < 2 ^ (deep - h).toNat) : i / 2 < 2 ^ (deep - (h + 1)).toNat := by
  have e : (deep - h).toNat = (deep - (h + 1)).toNat + 1 := by omega
  rw [e, Int.pow_succ] at i1
  omega
theorem par_in {deep : Int} {k : Int × Int} (hd : k.1 < deep) (s : 0 ≤ k.1 ∧ k.1 ≤ deep ∧ 0 ≤ k.2 ∧ k.2 < 2 ^ (deep - k.1).toNat) : 0 ≤ (par1 k).1 ∧ (par1 k).1 ≤ deep ∧ 0 ≤ (par1 k).2 ∧ (par1 k).2 < 2 ^ (deep - (par1 k).1).toNat := by
  have := half_pow hd s.2.2.2
  show 0 ≤ k.1 + 1 ∧ k.1 + 1 ≤ deep ∧ 0 ≤ k.2 / 2 ∧ k.2 / 2 < 2 ^ (deep - (k.1 + 1)).toNat
  exact ⟨by omega, by omega, by omega, this⟩
theorem fold_ok {deep : Int} {ps : Sps} {k : Int × Int} {m n : Int} (h : Kok deep (ps.map (·.1))) (hk : k ∈ ps.map (·.1)) (hd : k.1 < deep) : Kok deep ((foldS ps k m n).map (·.1)) ∧ mea deep ((foldS ps k m n).map (·.1)) < mea deep (ps.map (·.1)) ∧ (foldS ps k m n).length ≤ ps.length := by
  rw [← List.length_map (f := (·.1)), ← List.length_map (as := ps) (f := (·.1)), fold_keys hk]
  have mf := mea_filter (deep := deep) h.nd hk
  have sk := h.st k hk
  have lf : ((ps.map (·.1)).filter fun x => decide (x ≠ k)).length < (ps.map (·.1)).length := by
    refine Nat.lt_of_le_of_ne (List.length_filter_le _ _) fun e => ?_
    have := List.length_filter_eq_length_iff.mp e k hk
    simp at this
  have ndf : ((ps.map (·.1)).filter fun x => decide (x ≠ k)).Nodup := h.nd.filter _
  have stf : ∀ x ∈ (ps.map (·.1)).filter fun x => decide (x ≠ k), 0 ≤ x.1 ∧ x.1 ≤ deep ∧ 0 ≤ x.2 ∧ x.2 < 2 ^ (deep - x.1).toNat := fun x hx => h.st x (List.mem_filter.mp hx).1
  split
  · exact ⟨⟨ndf, stf⟩, by omega, by omega⟩
  · rename_i np
    refine ⟨⟨?_, fun x hx => ?_⟩, ?_, by rw [List.length_append]; exact lf⟩
    · refine List.nodup_append.mpr ⟨ndf, List.nodup_cons.mpr ⟨List.not_mem_nil, List.nodup_nil⟩, fun x hx y hy e => ?_⟩
      rw [List.mem_singleton.mp hy] at e
      exact np (by rw [← e]; exact (List.mem_filter.mp hx).1)
    · rcases List.mem_append.mp hx with hx | hx
      · exact stf x hx
      · rw [List.mem_singleton.mp hx]
        exact par_in hd sk
    · have e1 : mea deep ((ps.map (·.1)).filter (fun x => decide (x ≠ k)) ++ [par1 k]) = mea deep ((ps.map (·.1)).filter fun x => decide (x ≠ k)) + (deep + 1 - (k.1 + 1)).toNat := by
        unfold mea
        rw [List.map_append, List.sum_append]
        rfl
      rw [e1]
      omega
/-! one pair -/
def loK (h j : Int) : Int × Int := (h, 2 * j)
def hiK (h j : Int) : Int × Int := (h, 2 * j + 1)
def upK (h j : Int) : Int × Int := (h + 1, j)
def jn (ps : Sps) (h j : Int) : Int := cnt ps (loK h j) + cnt ps (hiK h j) + cnt ps (upK h j)
theorem par_lo (h j : Int) : par1 (loK h j) = upK h j := Prod.ext rfl (show 2 * j / 2 = j by omega)
theorem par_hi (h j : Int) : par1 (hiK h j) = upK h j := Prod.ext rfl (show (2 * j + 1) / 2 = j by omega)
theorem lo_hi (h j : Int) : loK h j ≠ hiK h j := fun e => by
  have : 2 * j = 2 * j + 1 := congrArg (·.2) e
  omega
theorem lo_up (h j : Int) : loK h j ≠ upK h j := fun e => by
  have : h = h + 1 := congrArg (·.1) e
  omega
theorem hi_up (h j : Int) : hiK h j ≠ upK h j := fun e => by
  have : h = h + 1 := congrArg (·.1) e
  omega
/-- each stretch is one of its pair -/
theorem in_pair (k : Int × Int) : k = loK k.1 (k.2 / 2) ∨ k = hiK k.1 (k.2 / 2) := by
  rcases Int.emod_two_eq k.2 with e | e
  · exact .inl (Prod.ext rfl (show k.2 = 2 * (k.2 / 2) by omega))
  · exact .inr (Prod.ext rfl (show k.2 = 2 * (k.2 / 2) + 1 by omega))
def fold1 (ps : Sps) (k : Int × Int) : Sps := foldS ps k (cnt ps k) (cnt ps (par1 k) + cnt ps k)
def foldI (ps : Sps) (k : Int × Int) : Sps := if k ∈ ps.map (·.1) then fold1 ps k else ps
def told1 (ps : Sps) (k : Int × Int) : Sps := if k ∈ ps.map (·.1) then [(k, cnt ps k)] else []
def stepP (ps : Sps) (h j : Int) : Sps := foldI (foldI ps (loK h j)) (hiK h j)
def flP (ps : Sps) (h j : Int) : Sps := told1 ps (loK h j) ++ told1 ps (hiK h j)
def stepL (ps : Sps) (h j : Int) : Sps := putS (dropS (dropS ps (loK h j)) (hiK h j)) (upK h j) (jn ps h j)
theorem drop_absent {ps : Sps} {k : Int × Int} (h : k ∉ ps.map (·.1)) : dropS ps k = ps := List.filter_eq_self.mpr fun p hp => decide_eq_true fun z => h (List.mem_map.mpr ⟨p, hp, z⟩)
theorem look_fold1 (ps : Sps) (k x : Int × Int) : lookO (fold1 ps k) x = if x = k then none else if x = par1 k then some (.int (cnt ps (par1 k) + cnt ps k)) else lookO ps x := by
  unfold fold1 foldS
  rw [look_drop, look_put, look_put]
  by_cases e : x = k
  · rw [if_pos e, if_pos e]
  · rw [if_neg e, if_neg e, if_neg e]
theorem cnt_fold1 (ps : Sps) (k x : Int × Int) : cnt (fold1 ps k) x = if x = k then 0 else if x = par1 k then cnt ps (par1 k) + cnt ps k else cnt ps x := by
  unfold cnt
  rw [look_fold1]
  by_cases e : x = k
  · rw [if_pos e, if_pos e]
  · rw [if_neg e, if_neg e]
    by_cases z : x = par1 k
    · rw [if_pos z, if_pos z]
      rfl
    · rw [if_neg z, if_neg z]
theorem look_foldI (ps : Sps) (k x : Int × Int) : lookO (foldI ps k) x = if x = k then none else if x = par1 k ∧ k ∈ ps.map (·.1) then some (.int (cnt ps (par1 k) + cnt ps k)) else lookO ps x := by
  unfold foldI
  by_cases hk : k ∈ ps.map (·.1)
  · rw [if_pos hk, look_fold1]
    by_cases e : x = k
    · rw [if_pos e, if_pos e]
    · rw [if_neg e, if_neg e]
      by_cases z : x = par1 k
      · rw [if_pos z, if_pos ⟨z, hk⟩]
      · rw [if_neg z, if_neg fun q => z q.1]
  · rw [if_neg hk]
    by_cases e : x = k
    · rw [if_pos e, e, lookO_out hk]
    · rw [if_neg e, if_neg fun q => hk q.2]
theorem cnt_foldI (ps : Sps) (k x : Int × Int) : cnt (foldI ps k) x = if x = k then 0 else if x = par1 k then cnt ps (par1 k) + cnt ps k else cnt ps x := by
  unfold foldI
  by_cases hk : k ∈ ps.map (·.1)
  · rw [if_pos hk, cnt_fold1]
  · rw [if_neg hk]
    by_cases e : x = k
    · rw [if_pos e, e, cnt_out hk]
    · rw [if_neg e]
      by_cases z : x = par1 k
      · rw [if_pos z, z, cnt_out hk, Int.add_zero]
      · rw [if_neg z]
theorem hi_in {ps : Sps} {h j : Int} : hiK h j ∈ (foldI ps (loK h j)).map (·.1) ↔ hiK h j ∈ ps.map (·.1) := by
  rw [← look_mem, ← look_mem, look_foldI, if_neg (Ne.symm (lo_hi h j)), par_lo, if_neg fun q => hi_up h j q.1]
theorem told_hi (ps : Sps) (h j : Int) : told1 (foldI ps (loK h j)) (hiK h j) = told1 ps (hiK h j) := by
  unfold told1
  rw [cnt_foldI, if_neg (Ne.symm (lo_hi h j)), par_lo, if_neg (hi_up h j)]
  by_cases e : hiK h j ∈ ps.map (·.1)
  · rw [if_pos e, if_pos (hi_in.mpr e)]
  · rw [if_neg e, if_neg fun q => e (hi_in.mp q)]
theorem look_stepP {ps : Sps} {h j : Int} (i : loK h j ∈ ps.map (·.1) ∨ hiK h j ∈ ps.map (·.1)) (x : Int × Int) : lookO (stepP ps h j) x = if x = loK h j ∨ x = hiK h j then none else if x = upK h j then some (.int (jn ps h j)) else lookO ps x := by
  unfold stepP
  rw [look_foldI]
  have p1 : cnt (foldI ps (loK h j)) (par1 (hiK h j)) = cnt ps (upK h j) + cnt ps (loK h j) := by rw [par_hi, cnt_foldI, if_neg (Ne.symm (lo_up h j)), par_lo, if_pos rfl]
  have p2 : cnt (foldI ps (loK h j)) (hiK h j) = cnt ps (hiK h j) := by rw [cnt_foldI, if_neg (Ne.symm (lo_hi h j)), par_lo, if_neg (hi_up h j)]
  rw [p1, p2]
  by_cases e1 : x = hiK h j
  · rw [if_pos e1, if_pos (.inr e1)]
  · rw [if_neg e1, look_foldI]
    by_cases e2 : x = loK h j
    · rw [if_pos (c := x = loK h j ∨ x = hiK h j) (Or.inl e2), if_neg (c := x = par1 (hiK h j) ∧ _) fun q => lo_up h j (by rw [← e2, ← par_hi]; exact q.1), if_pos e2]
    · rw [if_neg (c := x = loK h j ∨ x = hiK h j) fun q => q.elim e2 e1, if_neg (c := x = loK h j) e2]
      by_cases e3 : x = upK h j
      · rw [if_pos e3]
        unfold jn
        by_cases i2 : hiK h j ∈ ps.map (·.1)
        · rw [if_pos ⟨by rw [par_hi]; exact e3, hi_in.mpr i2⟩]
          congr 2
          omega
        · have i1 := i.resolve_right i2
          rw [if_neg fun q => i2 (hi_in.mp q.2), if_pos ⟨by rw [par_lo]; exact e3, i1⟩, cnt_out i2, par_lo]
          congr 2
          omega
      · rw [if_neg e3, if_neg fun q => e3 (by rw [← par_hi]; exact q.1), if_neg fun q => e3 (by rw [← par_lo]; exact q.1)]
theorem look_stepL (ps : Sps) (h j : Int) (x : Int × Int) : lookO (stepL ps h j) x = if x = loK h j ∨ x = hiK h j then none else if x = upK h j then some (.int (jn ps h j)) else lookO ps x := by
  unfold stepL
  rw [look_put, look_drop, look_drop]
  by_cases e1 : x = hiK h j
  · rw [if_neg (by rw [e1]; exact hi_up h j), if_pos e1, if_pos (.inr e1)]
  · by_cases e2 : x = loK h j
    · have q : x ≠ upK h j := by rw [e2]; exact lo_up h j
      rw [if_neg q, if_neg e1, if_pos e2, if_pos (Or.inl e2)]
    · rw [if_neg e1, if_neg e2, if_neg (c := x = loK h j ∨ x = hiK h j) fun q => q.elim e2 e1]
theorem foldI_nd {ps : Sps} {k : Int × Int} (nd : (ps.map (·.1)).Nodup) : ((foldI ps k).map (·.1)).Nodup := by
  unfold foldI
  split
  · exact drop_nd (put_nd (put_nd nd))
  · exact nd
theorem stepP_nd {ps : Sps} {h j : Int} (nd : (ps.map (·.1)).Nodup) : ((stepP ps h j).map (·.1)).Nodup := foldI_nd (foldI_nd nd)
theorem stepL_nd {ps : Sps} {h j : Int} (nd : (ps.map (·.1)).Nodup) : ((stepL ps h j).map (·.1)).Nodup := put_nd (drop_nd (drop_nd nd))
theorem step_LP {ps : Sps} {h j : Int} (nd : (ps.map (·.1)).Nodup) (i : loK h j ∈ ps.map (·.1) ∨ hiK h j ∈ ps.map (·.1)) : (stepL ps h j).Perm (stepP ps h j) := perm_look (stepL_nd nd) (stepP_nd nd) fun k => by rw [look_stepL, look_stepP i]
theorem jn_perm {ps qs : Sps} (p : ps.Perm qs) (nd : (ps.map (·.1)).Nodup) (h j : Int) : jn ps h j = jn qs h j := by
  unfold jn
  rw [cnt_eq (look_perm p nd _), cnt_eq (look_perm p nd (hiK h j)), cnt_eq (look_perm p nd (upK h j))]
theorem step_perm {ps qs : Sps} {h j : Int} (p : ps.Perm qs) (nd : (ps.map (·.1)).Nodup) (i : loK h j ∈ ps.map (·.1) ∨ hiK h j ∈ ps.map (·.1)) : (stepP ps h j).Perm (stepP qs h j) := by
  have pk := p.map (·.1)
  refine perm_look (stepP_nd nd) (stepP_nd (pk.nodup_iff.mp nd)) fun k => ?_
  rw [look_stepP i, look_stepP (i.imp pk.mem_iff.mp pk.mem_iff.mp), jn_perm p nd, look_perm p nd]
theorem told_perm {ps qs : Sps} (p : ps.Perm qs) (nd : (ps.map (·.1)).Nodup) (k : Int × Int) : told1 ps k = told1 qs k := by
  have pk := p.map (·.1)
  unfold told1
  rw [cnt_eq (look_perm p nd k)]
  by_cases e : k ∈ ps.map (·.1)
  · rw [if_pos e, if_pos (pk.mem_iff.mp e)]
  · rw [if_neg e, if_neg fun q => e (pk.mem_iff.mpr q)]
theorem fl_perm {ps qs : Sps} (p : ps.Perm qs) (nd : (ps.map (·.1)).Nodup) (h j : Int) : flP ps h j = flP qs h j := by
  unfold flP
  rw [told_perm p nd, told_perm p nd]
theorem foldI_ok {deep : Int} {ps : Sps} {k : Int × Int} (o : Kok deep (ps.map (·.1))) (hd : k.1 < deep) : Kok deep ((foldI ps k).map (·.1)) ∧ mea deep ((foldI ps k).map (·.1)) + (told1 ps k).length ≤ mea deep (ps.map (·.1)) ∧ (foldI ps k).length ≤ ps.length := by
  unfold foldI told1
  by_cases hk : k ∈ ps.map (·.1)
  · rw [if_pos hk, if_pos hk]
    have := fold_ok (m := cnt ps k) (n := cnt ps (par1 k) + cnt ps k) o hk hd
    exact ⟨this.1, this.2.1, this.2.2⟩
  · rw [if_neg hk, if_neg hk]
    exact ⟨o, Nat.le_refl _, Nat.le_refl _⟩
theorem stepP_ok {deep : Int} {ps : Sps} {h j : Int} (o : Kok deep (ps.map (·.1))) (hd : h < deep) : Kok deep ((stepP ps h j).map (·.1)) ∧ mea deep ((stepP ps h j).map (·.1)) + (flP ps h j).length ≤ mea deep (ps.map (·.1)) ∧ (stepP ps h j).length ≤ ps.length := by
  have a := foldI_ok (k := loK h j) o hd
  have b := foldI_ok (k := hiK h j) a.1 hd
  rw [told_hi] at b
  unfold flP stepP
  rw [List.length_append]
  have := a.2
  have := b.2
  exact ⟨b.1, by omega, by omega⟩
theorem fl_pos {ps : Sps} {h j : Int} (i : loK h j ∈ ps.map (·.1) ∨ hiK h j ∈ ps.map (·.1)) : 0 < (flP ps h j).length := by
  unfold flP told1
  rw [List.length_append]
  rcases i with i | i
  · rw [if_pos i]; simp; omega
  · rw [if_pos i]; simp
theorem sum_foldI {ps : Sps} {k : Int × Int} (nd : (ps.map (·.1)).Nodup) : sumS (foldI ps k) = sumS ps := by
  unfold foldI
  split
  · unfold fold1 foldS
    have c1 : cnt (putS (putS ps (par1 k) (cnt ps (par1 k) + cnt ps k)) k (cnt ps k - cnt ps k)) k = cnt ps k - cnt ps k := by rw [cnt_put, if_pos rfl]
    have c2 : cnt (putS ps (par1 k) (cnt ps (par1 k) + cnt ps k)) k = cnt ps k := by rw [cnt_put, if_neg (par_ne k)]
    rw [sum_drop (put_nd (put_nd nd)), sum_put (put_nd nd), sum_put nd, c1, c2]
    omega
  · rfl
theorem sum_stepP {ps : Sps} {h j : Int} (nd : (ps.map (·.1)).Nodup) : sumS (stepP ps h j) = sumS ps := by
  unfold stepP
  rw [sum_foldI (foldI_nd nd), sum_foldI nd]
/-! which pair folds first, and settling -/
structure Fst (deep bar : Int) (ps : Sps) (h j : Int) : Prop where
  in_ : loK h j ∈ ps.map (·.1) ∨ hiK h j ∈ ps.map (·.1)
  hd : h < deep
  le : jn ps h j ≤ bar
  first : ∀ k ∈ ps.map (·.1), k.1 < deep → jn ps k.1 (k.2 / 2) ≤ bar → h < k.1 ∨ (h = k.1 ∧ j ≤ k.2 / 2)
def Nof (deep bar : Int) (ps : Sps) : Prop := ∀ k ∈ ps.map (·.1), k.1 < deep → bar < jn ps k.1 (k.2 / 2)
theorem Fst.key {deep bar h j : Int} {ps : Sps} (f : Fst deep bar ps h j) : ∃ k ∈ ps.map (·.1), k.1 = h ∧ k.2 / 2 = j := by
  rcases f.in_ with i | i
  · exact ⟨_, i, rfl, show 2 * j / 2 = j by omega⟩
  · exact ⟨_, i, rfl, show (2 * j + 1) / 2 = j by omega⟩
theorem Fst.not {deep bar h j : Int} {ps : Sps} (f : Fst deep bar ps h j) (n : Nof deep bar ps) : False := by
  obtain ⟨k, hk, e1, e2⟩ := f.key
  have := n k hk (by rw [e1]; exact f.hd)
  rw [e1, e2] at this
  have := f.le
  omega
theorem Fst.uniq {deep bar h j h' j' : Int} {ps : Sps} (f : Fst deep bar ps h j) (g : Fst deep bar ps h' j') : h = h' ∧ j = j' := by
  obtain ⟨k, hk, e1, e2⟩ := f.key
  obtain ⟨l, hl, d1, d2⟩ := g.key
  have a := f.first l hl (by rw [d1]; exact g.hd) (by rw [d1, d2]; exact g.le)
  have b := g.first k hk (by rw [e1]; exact f.hd) (by rw [e1, e2]; exact f.le)
  rw [d1, d2] at a
  rw [e1, e2] at b
  omega
theorem Fst.perm {deep bar h j : Int} {ps qs : Sps} (f : Fst deep bar ps h j) (p : ps.Perm qs) (nd : (ps.map (·.1)).Nodup) : Fst deep bar qs h j := by
  have pk := p.map (·.1)
  refine ⟨f.in_.imp pk.mem_iff.mp pk.mem_iff.mp, f.hd, by rw [← jn_perm p nd]; exact f.le, fun k hk h1 h2 => f.first k (pk.mem_iff.mpr hk) h1 (by rw [jn_perm p nd]; exact h2)⟩
theorem nof_perm {deep bar : Int} {ps qs : Sps} (n : Nof deep bar ps) (p : ps.Perm qs) (nd : (ps.map (·.1)).Nodup) : Nof deep bar qs := fun k hk h1 => by
  rw [← jn_perm p nd]
  exact n k ((p.map (·.1)).mem_iff.mpr hk) h1
inductive Stl (deep bar : Int) : Sps → Sps → Sps → Prop
  | done {ps : Sps} : Nof deep bar ps → Stl deep bar ps [] ps
  | step {ps ps1 fs ps' : Sps} {h j : Int} : Fst deep bar ps h j → ps1.Perm (stepP ps h j) → Stl deep bar ps1 fs ps' → Stl deep bar ps (flP ps h j ++ fs) ps'
theorem stl_det {deep bar : Int} {ps fs ps' : Sps} (s : Stl deep bar ps fs ps') : ∀ {qs gs qs' : Sps}, Stl deep bar qs gs qs' → ps.Perm qs → (ps.map (·.1)).Nodup → fs = gs ∧ ps'.Perm qs' := by
  induction s with
  | done n =>
    intro qs gs qs' t p nd
    cases t with
    | done _ => exact ⟨rfl, p⟩
    | step f _ _ => exact (f.not (nof_perm n p nd)).elim
  | step f p1 s ih =>
    intro qs gs qs' t p nd
    cases t with
    | done n => exact ((f.perm p nd).not n).elim
    | step g q1 t =>
      obtain ⟨rfl, rfl⟩ := (f.perm p nd).uniq g
      obtain ⟨e, r⟩ := ih t (p1.trans ((step_perm p nd f.in_).trans q1.symm)) ((p1.map _).nodup_iff.mpr (stepP_nd nd))
      exact ⟨by rw [fl_perm p nd, e], r⟩
theorem stl_end {deep bar : Int} {ps fs ps' : Sps} (s : Stl deep bar ps fs ps') : (ps.map (·.1)).Nodup → (ps'.map (·.1)).Nodup ∧ Nof deep bar ps' ∧ sumS ps' = sumS ps := by
  induction s with
  | done n => exact fun nd => ⟨nd, n, rfl⟩
  | step f p1 s ih =>
    intro nd
    obtain ⟨a, b, c⟩ := ih ((p1.map _).nodup_iff.mpr (stepP_nd nd))
    exact ⟨a, b, by rw [c, sum_perm p1, sum_stepP nd]⟩
/-- from one state to another, so many folds on the way -/
def Way (deep bar : Int) (ps fs qs : Sps) : Prop := ∀ gs ps', Stl deep bar qs gs ps' → Stl deep bar ps (fs ++ gs) ps'
theorem Way.refl {deep bar : Int} {ps : Sps} : Way deep bar ps [] ps := fun _ _ s => s
theorem Way.snoc {deep bar h j : Int} {ps fs qs qs1 : Sps} (w : Way deep bar ps fs qs) (f : Fst deep bar qs h j) (p : qs1.Perm (stepP qs h j)) : Way deep bar ps (fs ++ flP qs h j) qs1 := fun gs ps' s => by
  rw [List.append_assoc]
  exact w _ _ (.step f p s)
theorem Way.done {deep bar : Int} {ps fs qs : Sps} (w : Way deep bar ps fs qs) (n : Nof deep bar qs) : Stl deep bar ps fs qs := by
  have := w [] qs (.done n)
  rwa [List.append_nil] at this
theorem srtP2_eq {ps qs : Sps} (p : ps.Perm qs) : srtP2 ps = srtP2 qs := rise_eq leP_anti ((srtP2_perm ps).trans (p.trans (srtP2_perm qs).symm)) (srtP2_pw ps) (srtP2_pw qs)
end Ld

namespace L2
open PySem PySem.Spec PyProof.Rows
/-! ### (a, b, ..) = a list of that length -/
section
variable {prog : Program} {w : World} {A : Around} {E : Value → Shared → Prop} {s : Shared}
theorem draw_list {it t : Addr} {items : Array Value} (hne : t ≠ it) : ∀ (n i : Nat) (s : Shared) (Q : List Value → Shared → Prop), s.heap.IsListIter it t i → s.heap.IsList t items → i + n ≤ items.size →
    (∀ h', h'.IsListIter it t (i + n) → Heap.SameBut it s.heap h' → Q ((items.toList.drop i).take n) { s with heap := h' }) → wpAny (model prog w) A (draw (.ref it) n) Q E s
  | 0, i, s, Q, hit, _, _, hQ => by
    show wpAny _ _ (pure []) Q E s
    exact wpAny_pure (by simpa using hQ s.heap hit (Heap.SameBut.refl ..))
  | n + 1, i, s, Q, hit, ht, hle, hQ => by
    have hlt : i < items.size := by omega
    show wpAny _ _ (pyNext (.ref it) >>= _) Q E s
    refine wpAny_bind (wpAny_pyNext_list_item hit ht (x := items[i]) (by simp [hlt]) fun h1 hit1 hs1 => ?_)
    refine wpAny_bind (wpAny_holding (draw_list hne n (i + 1) _ _ hit1 (ht.extBut hs1.extBut hne) (by omega) fun h2 hit2 hs2 => wpAny_pure ?_))
    have hd : items.toList.drop i = items[i] :: items.toList.drop (i + 1) := by simp [List.drop_eq_getElem_cons, hlt]
    have := hQ h2 (by rw [show i + (n + 1) = i + 1 + n by omega]; exact hit2) (hs1.trans hs2)
    rw [hd, List.take_succ_cons] at this
    exact this
theorem assign_Tuple_list {env : Env} {elts : List Expr} {x1} {pos : Pos} {t : Addr} {items : Array Value} {Q : Unit → Shared → Prop} (hh : A.handled = none) (ht : s.heap.IsList t items)
    (hn : (assignEach elts env).length = items.size) (hstar : (assignEach elts env).findIdx? (·.1) = none)
    (h : ∀ h', Heap.ExtBut s.heap.objs.size s.heap h' → wpAny (model prog w) A (assignInOrder ((assignEach elts env).map (·.2)) items.toList) Q E { s with heap := h' }) :
    wpAny (model prog w) A (assign (.Tuple elts x1 pos) env (.ref t)) Q E s := by
  rw [assign_Tuple]
  refine wpAny_bind (wpAny_standAt ?_)
  unfold unpack
  rw [hn, hstar]
  refine wpAny_bind (wpAny_holding ?_)
  have hlt : t ≠ s.heap.objs.size := by obtain ⟨o, ho, _⟩ := ht; exact Nat.ne_of_lt (Heap.lt_size ho)
  unfold unpackItems
  refine wpAny_bind ?_
  unfold notIterableAtAll
  refine wpAny_bind (wpAny_specialOf ht.typeIs slot_list_iter.lookup ?_)
  refine wpAny_pure ?_
  simp only [Bool.false_eq_true, if_false]
  refine wpAny_bind (wpAny_holding (wpAny_pyIter_list ht ?_))
  have htp : (s.heap.push { cls := .type "list_iterator", data := .fields #[.ref t, .int 0 0] }).IsList t items := by
    obtain ⟨o, ho, r⟩ := ht
    exact ⟨o, Heap.get?_push_of_some _ ho, r⟩
  refine wpAny_bind (wpAny_holding (draw_list hlt items.size 0 _ _ ⟨_, Heap.get?_push_size _ rfl, rfl, rfl⟩ htp (by omega) fun h1 hit1 hs1 => ?_))
  have hall : List.take items.size (List.drop 0 items.toList) = items.toList := by
    rw [List.drop_zero]; exact List.take_of_length_le (by simp)
  rw [hall]
  rw [if_neg (by simp)]
  have ht1 : h1.IsList t items := htp.extBut hs1.extBut hlt
  refine wpAny_bind (wpAny_holding (wpAny_pyNext_list_end hh hit1 ht1 (by simp) fun h2 he2 => ?_))
  simp only [Option.isSome_none, Bool.false_eq_true, if_false]
  exact wpAny_pure (h h2 fun b o hb e => he2 b o hb (hs1.extBut b o hb (Heap.get?_push_of_some _ e)))
end
section
variable {X : Cx} {pos : Pos}
def gLst (K : PySem.W.Frag) (n : Nat) (t : TGs) : TG := fun v σ H Q => ∃ a xs, v = .ref a ∧ SqL K H a xs ∧ xs.length = n ∧ t xs σ H Q
theorem pg_lst {es : List Expr} {k : Nat} {t : TGs} {n : Nat} (hc : X.calm = true) (h : PGs X es t)
    (hn : (assignEach es X.env).length = n := by rfl) (hst : (assignEach es X.env).findIdx? (·.1) = none := by rfl) : PG X (.Tuple es k pos) (gLst X.K n t) := by
  intro pins s σ H v u Q I r hw
  obtain ⟨a, xs, e1, hq, hl, hw⟩ := hw
  subst e1
  cases r
  obtain ⟨its, rv, p, hz⟩ := I.list hq
  refine assign_Tuple_list (I.ok.hd hc) p.isList (by simp [hn, ← hl, rv.length]) hst fun h' hx => ?_
  have I1 : Inv X pins σ H { s with heap := h' } := I.kept (t' := s.toks) fun b o e => hx b o (Nat.ne_of_lt (Heap.lt_size e)) e
  exact h pins _ σ H xs _ Q I1 (by simpa using rv) hw
end
end L2

namespace K22
open PySem L2 Ld
/-! ### stretches and ladders in the heap -/
def KAt (H : Hp) (p : Addr) (k : Int × Int) : Prop := H p = some (.tup [.int k.1, .int k.2])
/-! ### places -/
/-- pairs of ints, at their places -/
def NsAt (H : Hp) : List V → List (Int × Int) → Prop := Paired fun x p => ∃ c : Addr, x = .ref c ∧ KAt H c p
theorem NsAt.mono {H H' : Hp} (g : Same H H') {xs : List V} {ps : List (Int × Int)} (h : NsAt H xs ps) : NsAt H' xs ps := Paired.mapP h fun _ _ ⟨c, e, q⟩ => ⟨c, e, g _ _ q⟩
theorem NsAt.len {H : Hp} {xs : List V} {ps : List (Int × Int)} (h : NsAt H xs ps) : xs.length = ps.length := Paired.length h
theorem NsAt.get {H : Hp} : ∀ {xs : List V} {ps : List (Int × Int)} {j : Nat} {x : V}, NsAt H xs ps → xs[j]? = some x → ∃ c p, x = .ref c ∧ ps[j]? = some p ∧ KAt H c p
  | _, _, _, _, .nil, e => by simp at e
  | _, _, 0, _, .cons h _, e => by
    rw [List.getElem?_cons_zero] at e
    cases e
    obtain ⟨c, e, q⟩ := h
    exact ⟨c, _, e, rfl, q⟩
  | _, _, j + 1, _, .cons _ r, e => NsAt.get (j := j) r (by simpa using e)
theorem NsAt.snoc {H : Hp} {xs : List V} {ps : List (Int × Int)} {c : Addr} {p : Int × Int} (h : NsAt H xs ps) (e : KAt H c p) : NsAt H (xs ++ [.ref c]) (ps ++ [p]) := Paired.snoc h ⟨c, rfl, e⟩
/-- a ladder, its counts in their order -/
structure LadAt (H : Hp) (q : Addr) (room deep total : Int) (ps : Sps) : Prop where
  at_ : ∃ (c : Addr) (as : List Addr), H q = some (.tup [.int room, .int deep, .ref c, .int total]) ∧ H c = some (.tup (as.map V.ref)) ∧ Paired (FT H) as ps
theorem ft_mono {H H' : Hp} (g : Same H H') {a : Addr} {p : (Int × Int) × Int} (h : FT H a p) : FT H' a p := let ⟨b, e1, e2⟩ := h; ⟨b, g _ _ e1, g _ _ e2⟩
theorem LadAt.mono {H H' : Hp} (g : Same H H') {q : Addr} {room deep total : Int} {ps : Sps} (h : LadAt H q room deep total ps) : LadAt H' q room deep total ps := let ⟨c, as, e1, e2, r⟩ := h.at_; ⟨c, as, g _ _ e1, g _ _ e2, Paired.mapP r fun _ _ f => ft_mono g f⟩
theorem ft_get {H : Hp} : ∀ {as : List Addr} {ps : Sps} {j : Nat} {x : V}, Paired (FT H) as ps → (as.map V.ref)[j]? = some x → ∃ a p, x = .ref a ∧ ps[j]? = some p ∧ FT H a p
  | _, _, _, _, .nil, e => by simp at e
  | _, _, 0, _, .cons h _, e => by
    rw [List.map_cons, List.getElem?_cons_zero] at e
    cases e
    exact ⟨_, _, rfl, rfl, h⟩
  | _, _, j + 1, _, .cons _ r, e => ft_get (j := j) r (by simpa using e)
theorem get_int {H : Hp} {d b : Addr} {ps : Sps} {k : Int × Int} (e : H d = some (.dT (tvOf ps))) (eb : KAt H b k) : DGet H d (.ref b) (lookO ps k) := DGet.t e eb
theorem ks_get {H : Hp} : ∀ {bs : List Addr} {ks : List (Int × Int)} {j : Nat} {x : V}, KsAt H bs ks → (bs.map V.ref)[j]? = some x → ∃ b k, x = .ref b ∧ ks[j]? = some k ∧ KAt H b k
  | _, _, _, _, .nil, e => by simp at e
  | _, _, 0, _, .cons h _, e => by
    rw [List.map_cons, List.getElem?_cons_zero] at e
    cases e
    exact ⟨_, _, rfl, rfl, h⟩
  | _, _, j + 1, _, .cons _ r, e => ks_get (j := j) r (by simpa using e)
theorem grw_laidD {H : Hp} {d q : Addr} {o u : HO} (e : H d = some u) (n : H q = none) : Grw d H (upd H q o) := fun b w h => by
  obtain ⟨h1, h2⟩ := hide_some h
  rw [hide_ne h1, upd_ne (ne_of_none h2 n)]
  exact h2
def spParent : Sp := fun vs H Q _ => ∃ (p : Addr) (k : Int × Int), vs = [.ref p] ∧ KAt H p k ∧ ∀ q, H q = none → Q (.ref q) (upd H q (.tup [.int (par1 k).1, .int (par1 k).2]))
def spPair : Sp := fun vs H Q _ => ∃ (p : Addr) (k : Int × Int), vs = [.ref p] ∧ KAt H p k ∧ ∀ (q a b : Addr) (H' : Hp), Same H H' → H' q = some (.tup [.ref a, .ref b]) → KAt H' a (loK k.1 (k.2 / 2)) → KAt H' b (hiK k.1 (k.2 / 2)) → Q (.ref q) H'
def spBar : Sp := fun vs H Q _ => ∃ (q : Addr) (room deep total : Int) (ps : Sps), vs = [.ref q] ∧ LadAt H q room deep total ps ∧ 1 ≤ room ∧ room ≤ 20 ∧ Q (.int (total / room)) H
def spJoint : Sp := fun vs H Q _ => ∃ (d p : Addr) (ps : Sps) (k : Int × Int), vs = [.ref d, .ref p] ∧ H d = some (.dT (tvOf ps)) ∧ KAt H p k ∧ ∀ (H' : Hp), Same H H' → Q (.int (jn ps k.1 (k.2 / 2))) H'
def spFF : Sp := fun vs H Q _ => ∃ (deep bar : Int) (d : Addr) (ps : Sps), vs = [.int deep, .int bar, .ref d] ∧ H d = some (.dT (tvOf ps)) ∧ ps.length < 64 ∧ (∀ H', Same H H' → Nof deep bar ps → Q .non H') ∧ ∀ (p : Addr) (k : Int × Int) (H' : Hp), Same H H' → KAt H' p k → Fst deep bar ps k.1 (k.2 / 2) → Q (.ref p) H'
def spFold : Sp := fun vs H Q _ => ∃ (d p : Addr) (ps : Sps) (k : Int × Int) (m : Int), vs = [.ref d, .ref p, .int m] ∧ H d = some (.dT (tvOf ps)) ∧ KAt H p k ∧ lookO ps k = some (.int m) ∧ ps.length < 1000 ∧ ∀ (H' : Hp), Grw d H H' → H' d = some (.dT (tvOf (foldS ps k m (cnt ps (par1 k) + m)))) → Q .non H'
theorem even_of (i : Int) : i - i % 2 = 2 * (i / 2) := by omega
theorem lex_half {a b : Int × Int} (h : leK a b = true) : a.1 < b.1 ∨ (a.1 = b.1 ∧ a.2 / 2 ≤ b.2 / 2) := by
  rcases leK_iff.mp h with h | ⟨h, g⟩
  · exact .inl h
  · exact .inr ⟨h, by omega⟩
theorem pw_at {α : Type} {R : α → α → Prop} {l : List α} (h : l.Pairwise R) {i j : Nat} {a b : α} (ha : l[i]? = some a) (hb : l[j]? = some b) (ij : i < j) : R a b := by
  obtain ⟨hi, rfl⟩ := List.getElem?_eq_some_iff.mp ha
  obtain ⟨hj, rfl⟩ := List.getElem?_eq_some_iff.mp hb
  exact List.pairwise_iff_getElem.mp h i j hi hj ij
section
variable {P : Program} {w : World} {K : PySem.W.Frag} {mg : Str → Option Value} {base : Heap} {f : Addr} {fd : FuncData}
theorem ok_parent (F : Fun K "parent_of" "parent_of" s_parent_of f fd) : FnOk P w K mg base CX0 1 f fd ["stretch"] spParent := by
  refine F.ok sc_parent_of (fun vs H Q E h => ?_) (fun cdv A outer s H vs Q E hr h => ?_)
  · obtain ⟨p, k, rfl, _⟩ := h
    rfl
  obtain ⟨p, k, rfl, e, hq⟩ := h
  refine ⟨_, (@pss_cons _ _ _ _ _ (ps_asg (pv 0) (pg_tup rfl (pgs_cons (pg_name (i := 1) sc_parent_of.nd rfl (Or.inl rfl)) (pgs_cons (pg_name (i := 2) sc_parent_of.nd rfl (Or.inl rfl)) pgs_nil))))
  (@pss_one _ _ _ (@ps_ret _ _ _ _ (@pe_tup _ _ _ _ _ (@pa_cons _ _ _ _ _ (@pe_op _ _ _ _ _ _ _ _ op_add (pv 1) pe_int) (@pa_cons _ _ _ _ _ (@pe_op _ _ _ _ _ _ _ _ op_fdiv (pv 2) pe_int) pa_nil (by rfl)) (by rfl)))))), ?_⟩
  exact ⟨_, rfl, p, _, rfl, SqT.of e, rfl, _, _, rfl, _, _, rfl, rfl, _, rfl, _, _, rfl, rfl, _, rfl, _, _, rfl, rfl, ⟨by decide, by decide⟩, leN rfl, hq⟩
theorem ok_pair (F : Fun K "pair_of" "pair_of" s_pair_of f fd) : FnOk P w K mg base CX0 1 f fd ["stretch"] spPair := by
  refine F.ok sc_pair_of (fun vs H Q E h => ?_) (fun cdv A outer s H vs Q E hr h => ?_)
  · obtain ⟨p, k, rfl, _⟩ := h
    rfl
  obtain ⟨p, k, rfl, e, hq⟩ := h
  refine ⟨_, (@pss_cons _ _ _ _ _ (ps_asg (pv 0) (pg_tup rfl (pgs_cons (pg_name (i := 1) sc_pair_of.nd rfl (Or.inl rfl)) (pgs_cons (pg_name (i := 2) sc_pair_of.nd rfl (Or.inl rfl)) pgs_nil))))
  (@pss_cons _ _ _ _ _ (@ps_set _ _ 3 _ _ _ _ sc_pair_of.nd rfl (Or.inl rfl) (@pe_op _ _ _ _ _ _ _ _ op_sub (pv 2) (@pe_op _ _ _ _ _ _ _ _ op_mod (pv 2) pe_int)) (by rfl) (by first | exact .inl rfl | exact .inr rfl))
  (@pss_one _ _ _ (@ps_ret _ _ _ _ (@pe_tup _ _ _ _ _ (@pa_cons _ _ _ _ _ (@pe_tup _ _ _ _ _ (@pa_cons _ _ _ _ _ (pv 1) (@pa_cons _ _ _ _ _ (pv 3) pa_nil (by rfl)) (by rfl))) (@pa_cons _ _ _ _ _ (@pe_tup _ _ _ _ _ (@pa_cons _ _ _ _ _ (pv 1) (@pa_cons _ _ _ _ _ (@pe_op _ _ _ _ _ _ _ _ op_add (pv 3) pe_int) pa_nil (by rfl)) (by rfl))) pa_nil (by rfl)) (by rfl))))))), ?_⟩
  have gg : Same H H := Same.refl _
  refine ⟨_, rfl, p, _, rfl, SqT.of e, rfl, _, _, rfl, _, _, rfl, rfl, _, rfl, _, rfl, _, _, rfl, rfl, posI rfl, _, _, rfl, rfl, _, rfl, _, rfl, leN rfl, ?_⟩
  intro a n_a
  generalize hz : upd _ a _ = H1
  have gz := laid_same hz n_a
  have e_a := laid_at hz
  clear hz
  have gg := gg.trans gz
  refine ⟨_, rfl, _, rfl, _, _, rfl, rfl, leN rfl, ?_⟩
  intro b n_b
  generalize hz : upd _ b _ = H2
  have gz := laid_same hz n_b
  have e_b := laid_at hz
  clear hz
  have gg := gg.trans gz
  have e_a := gz _ _ e_a
  refine ⟨leN rfl, ?_⟩
  intro q n_q
  generalize hz : upd _ q _ = H3
  have gz := laid_same hz n_q
  have e_q := laid_at hz
  clear hz
  have gg := gg.trans gz
  have e_a := gz _ _ e_a
  have e_b := gz _ _ e_b
  exact hq q a b _ gg e_q (by show _ = some (HO.tup [V.int k.1, V.int (2 * (k.2 / 2))]); rw [← even_of]; exact e_a) (by show _ = some (HO.tup [V.int k.1, V.int (2 * (k.2 / 2) + 1)]); rw [← even_of]; exact e_b)
theorem ok_bar (F : Fun K "bar_of" "bar_of" s_bar_of f fd) : FnOk P w K mg base CX0 1 f fd ["ladder"] spBar := by
  refine F.ok sc_bar_of (fun vs H Q E h => ?_) (fun cdv A outer s H vs Q E hr h => ?_)
  · obtain ⟨q, room, deep, total, ps, rfl, _⟩ := h
    rfl
  obtain ⟨q, room, deep, total, ps, rfl, lad, r0, r1, hq⟩ := h
  refine ⟨_, (@pss_cons _ _ _ _ _ (ps_asg (pv 0) (pg_tup rfl (pgs_cons (pg_name (i := 1) sc_bar_of.nd rfl (Or.inl rfl)) (pgs_cons (pg_name (i := 2) sc_bar_of.nd rfl (Or.inl rfl)) (pgs_cons (pg_name (i := 3) sc_bar_of.nd rfl (Or.inl rfl)) (pgs_cons (pg_name (i := 4) sc_bar_of.nd rfl (Or.inl rfl)) pgs_nil))))))
  (@pss_one _ _ _ (@ps_ret _ _ _ _ (@pe_op _ _ _ _ _ _ _ _ op_fdiv (pv 4) (pv 1))))), ?_⟩
  obtain ⟨c, as, e_q, e_c, pr⟩ := lad.at_
  exact ⟨_, rfl, q, _, rfl, SqT.of e_q, rfl, _, _, rfl, _, _, rfl, _, _, rfl, _, _, rfl, rfl, _, rfl, _, rfl, _, _, rfl, rfl, ⟨by omega, by omega⟩, hq⟩
theorem ok_joint (h_pair_of : Has P w K mg base "pair_of" 1 ["stretch"] spPair) (h_parent_of : Has P w K mg base "parent_of" 1 ["stretch"] spParent) (F : Fun K "joint_count" "joint_count" s_joint_count f fd) : FnOk P w K mg base CX0 2 f fd ["counts", "stretch"] spJoint := by
  refine F.ok sc_joint_count (fun vs H Q E h => ?_) (fun cdv A outer s H vs Q E hr h => ?_)
  · obtain ⟨d, p, ps, k, rfl, _⟩ := h
    rfl
  obtain ⟨d, p, ps, k, rfl, e_d, e_p, hq⟩ := h
  refine ⟨_, (@pss_cons _ _ _ _ _ (ps_asg (pe_callH h_pair_of hr (@pa_cons _ _ _ _ _ (pv 1) pa_nil (by rfl))) (pg_tup rfl (pgs_cons (pg_name (i := 2) sc_joint_count.nd rfl (Or.inl rfl)) (pgs_cons (pg_name (i := 3) sc_joint_count.nd rfl (Or.inl rfl)) pgs_nil))))
  (@pss_one _ _ _ (@ps_ret _ _ _ _ (@pe_op _ _ _ _ _ _ _ _ op_add (@pe_op _ _ _ _ _ _ _ _ op_add (pe_dget2 (hu_of hr) (pv 0) (pv 2) pe_int ⟨rfl, rfl, rfl, rfl⟩) (pe_dget2 (hu_of hr) (pv 0) (pv 3) pe_int ⟨rfl, rfl, rfl, rfl⟩)) (pe_dget2 (hu_of hr) (pv 0) (pe_callH h_parent_of hr (@pa_cons _ _ _ _ _ (pv 1) pa_nil (by rfl))) pe_int ⟨rfl, rfl, rfl, rfl⟩))))), ?_⟩
  refine ⟨_, rfl, p, k, rfl, e_p, fun q a b H1 g1 e_q e_a e_b => ⟨q, _, rfl, SqT.of e_q, rfl, _, _, rfl, _, _, rfl, rfl, ?_⟩⟩
  have e_d := g1 _ _ e_d
  refine ⟨_, rfl, d, rfl, .inr ⟨_, .inl e_d⟩, _, rfl, _, get_int e_d e_a, ?_⟩
  refine ⟨_, rfl, d, rfl, .inr ⟨_, .inl e_d⟩, _, rfl, _, get_int e_d e_b, _, _, cnt_look _ _, cnt_look _ _, ?_⟩
  refine ⟨_, rfl, d, rfl, .inr ⟨_, .inl e_d⟩, _, rfl, p, k, rfl, g1 _ _ e_p, fun r nr => ?_⟩
  have g2 := same_laid nr (.tup [.int (par1 k).1, .int (par1 k).2])
  exact ⟨_, get_int (g2 _ _ e_d) upd_same, _, _, rfl, cnt_look _ (par1 k), hq _ (g1.trans g2)⟩
theorem ok_ff (z_sorted : mg "sorted" = none) (h_joint_count : Has P w K mg base "joint_count" 2 ["counts", "stretch"] spJoint) (F : Fun K "first_folding" "first_folding" s_first_folding f fd) : FnOk P w K mg base CX0 3 f fd ["deep", "bar", "counts"] spFF := by
  refine F.ok sc_first_folding (fun vs H Q E h => ?_) (fun cdv A outer s H vs Q E hr h => ?_)
  · obtain ⟨deep, bar, d, ps, rfl, _⟩ := h
    rfl
  obtain ⟨deep, bar, d, ps, rfl, e_d, h64, hq0, hq1⟩ := h
  refine ⟨_, (@pss_cons _ _ _ _ _ (ps_for PassesOwn.never rfl (pi_list (pe_callB (call_sortDT rfl hr.units) rfl z_sorted PyProof.Rows.boot_sorted (@pa_cons _ _ _ _ _ (pv 2) pa_nil (by rfl)))) (pg_name (i := 3) sc_first_folding.nd rfl (Or.inl rfl))
  (@pss_one _ _ _ (@ps_if _ _ _ _ _ _ _ _ (PW.pt (@pw_and _ _ _ _ _ _ _ (@pt_cmpR _ _ _ _ _ _ _ _ op_lt (@pe_ix _ _ _ _ _ _ _ ix_tup (pv 3) pe_int (fun _ _ => rfl)) (pv 0) (nomark _)) (@pw_and1 _ _ _ _ (@pt_cmpR _ _ _ _ _ _ _ _ op_le (pe_callH h_joint_count hr (@pa_cons _ _ _ _ _ (pv 2) (@pa_cons _ _ _ _ _ (pv 3) pa_nil (by rfl)) (by rfl))) (pv 1) (nomark _))))) (@pss_one _ _ _ (@ps_ret _ _ _ _ (pv 3))) pss_nil)))
  (@pss_one _ _ _ (@ps_ret _ _ _ _ pe_non))), ?_⟩
  have gg : Same H H := Same.refl _
  refine ⟨_, rfl, d, ps, rfl, e_d, h64, fun bs ka => ?_⟩
  intro l n_l
  generalize hz : upd _ l _ = H1
  have gz := laid_same hz n_l
  have e_l := laid_at hz
  clear hz
  have gg := gg.trans gz
  have ka := ka.mono fun b xs e => gg b _ e
  have bl := Paired.length ka
  have mk : ∀ k, k ∈ srtK (ps.map (·.1)) ↔ k ∈ ps.map (·.1) := fun k => (srtK_perm _).mem_iff
  refine ⟨l, rfl, ⟨_, SqL.of e_l⟩, ?_⟩
  refine for_listH (xs := bs.map V.ref) (fun i σ H' => ∃ o3 : Option V, σ = [some (.int deep), some (.int bar), some (.ref d), o3] ∧ Same H1 H' ∧ ∀ (n : Nat) (k : Int × Int), n < i → (srtK (ps.map (·.1)))[n]? = some k → k.1 < deep → bar < jn ps k.1 (k.2 / 2)) ⟨_, rfl, Same.refl _, fun n _ hn => absurd hn (Nat.not_lt_zero n)⟩ ?_ ?_ ?_
  · rintro i σ H' _ ⟨_, _, g, _⟩
    exact SqL.of (g _ _ e_l)
  · rintro i x σ H2 N B1 R hN hR hx ⟨o3, rfl, g2, bef⟩
    obtain ⟨b, k, rfl, hk, e_b⟩ := ks_get ka hx
    have e_b := g2 _ _ e_b
    have e_d2 := g2 _ _ (gg _ _ e_d)
    have km : k ∈ ps.map (·.1) := (mk k).mp (List.mem_of_getElem? hk)
    have nxt : (k.1 < deep → bar < jn ps k.1 (k.2 / 2)) → ∀ (n : Nat) (k : Int × Int), n < i + 1 → (srtK (ps.map (·.1)))[n]? = some k → k.1 < deep → bar < jn ps k.1 (k.2 / 2) := fun c n k' hn e => by
      rcases Nat.lt_succ_iff_lt_or_eq.mp hn with z | z
      · exact bef n k' z e
      · rw [z, hk] at e
        cases e
        exact c
    refine ⟨_, rfl, b, _, 0, _, rfl, rfl, SqT.of e_b, rfl, _, rfl, _, _, rfl, rfl, _, rfl, ite2 (fun c => ?_) (fun c => ?_)⟩
    · refine ⟨_, rfl, _, rfl, d, b, ps, k, rfl, e_d2, e_b, fun H3 g3 => ⟨_, rfl, _, _, rfl, rfl, _, rfl, ite2 (fun c2 => ?_) (fun c2 => ?_)⟩⟩
      · refine ⟨_, rfl, hR _ _ (hq1 b k _ (gg.trans (g2.trans g3)) (g3 _ _ e_b) ⟨?_, of_decide_eq_true c, of_decide_eq_true c2, fun k' hk' h1 h2 => ?_⟩)⟩
        · rcases in_pair k with e | e
          · exact .inl (by rw [← e]; exact km)
          · exact .inr (by rw [← e]; exact km)
        · obtain ⟨n, hn⟩ := List.getElem?_of_mem ((mk k').mpr hk')
          rcases Nat.lt_or_ge n i with z | z
          · have := bef n k' z hn h1
            omega
          · rcases Nat.lt_or_eq_of_le z with z | z
            · exact lex_half (pw_at (srtK_pw _) hk hn z)
            · rw [← z, hk] at hn
              cases hn
              exact .inr ⟨rfl, Int.le_refl _⟩
      · exact hN _ _ ⟨_, rfl, g2.trans g3, nxt fun _ => by have := of_decide_eq_false (Bool.eq_false_iff.mpr c2); omega⟩
    · exact hN _ _ ⟨_, rfl, g2, nxt fun z => absurd (decide_eq_true z) c⟩
  · rintro σ H2 ⟨_, rfl, g2, all⟩
    refine hq0 _ (gg.trans g2) fun k hk h1 => ?_
    obtain ⟨n, hn⟩ := List.getElem?_of_mem ((mk k).mpr hk)
    refine all n k ?_ hn h1
    rw [List.length_map, bl]
    exact (List.getElem?_eq_some_iff.mp hn).1
theorem ok_fold (h_parent_of : Has P w K mg base "parent_of" 1 ["stretch"] spParent) (F : Fun K "fold_up" "fold_up" s_fold_up f fd) : FnOk P w K mg base CX0 2 f fd ["counts", "stretch", "many"] spFold := by
  refine F.ok sc_fold_up (fun vs H Q E h => ?_) (fun cdv A outer s H vs Q E hr h => ?_)
  · obtain ⟨d, p, ps, k, m, rfl, _⟩ := h
    rfl
  obtain ⟨d, p, ps, k, m, rfl, e_d, e_p, lk, pl, hq⟩ := h
  refine ⟨_, (@pss_cons _ _ _ _ _ (@ps_set _ _ 3 _ _ _ _ sc_fold_up.nd rfl (Or.inl rfl) (pe_callH h_parent_of hr (@pa_cons _ _ _ _ _ (pv 1) pa_nil (by rfl))) (by rfl) (by first | exact .inl rfl | exact .inr rfl)) pss_run), ?_⟩
  refine ⟨_, rfl, p, k, rfl, e_p, fun q nq => ?_⟩
  have g1 := grw_laidD (o := .tup [.int (par1 k).1, .int (par1 k).2]) e_d nq
  have s1 := same_laid nq (.tup [.int (par1 k).1, .int (par1 k).2])
  have e_q : KAt (upd H q (.tup [.int (par1 k).1, .int (par1 k).2])) q (par1 k) := upd_same
  have e_d := s1 _ _ e_d
  have e_p : KAt _ p k := s1 _ _ e_p
  generalize upd H q (.tup [.int (par1 k).1, .int (par1 k).2]) = H1 at g1 e_q e_d e_p ⊢
  have tupd : ∀ {H : Hp} {b : Addr} {j : Int × Int} {kvs : List (List Key × V)} {o : HO}, H d = some (.dT kvs) → KAt H b j → KAt (upd H d o) b j := fun {H b j kvs o} e eb => by
    show upd H d o b = _
    rw [upd_ne (ne_of eb e (by intro z; cases z))]
    exact eb
  refine ⟨_, (@pss_cons _ _ _ _ _ (ps_dput (hu_of hr) (pv 0) (pv 3) (@pe_op _ _ _ _ _ _ _ _ op_add (pe_dget2 (hu_of hr) (pv 0) (pv 3) pe_int ⟨rfl, rfl, rfl, rfl⟩) (pv 2)) rfl) pss_run), ?_⟩
  obtain ⟨n0, hn0, h0⟩ : ∃ n, n = cnt ps (par1 k) ∧ (lookO ps (par1 k)).getD (.int 0) = .int n := ⟨_, rfl, cnt_look _ _⟩
  have l1 := put_len ps (par1 k) (n0 + m)
  refine ⟨_, rfl, d, rfl, .inr ⟨_, .inl e_d⟩, _, rfl, _, get_int e_d e_q, _, rfl, n0, m, h0, rfl, _, rfl, _, rfl, d, _, rfl, DPut.t (k := kk (par1 k)) e_d e_q (small_lt (by rw [tvOf_len]; omega)), ?_⟩
  have g2 : Grw d H (upd H1 d (.dT (putK (tvOf ps) (kk (par1 k)) (.int (n0 + m))))) := g1.trans grw_upd
  have e_p2 := tupd (o := .dT (putK (tvOf ps) (kk (par1 k)) (.int (n0 + m)))) e_d e_p
  have e_d2 : (upd H1 d (.dT (putK (tvOf ps) (kk (par1 k)) (.int (n0 + m))))) d = some (.dT (tvOf (putS ps (par1 k) (n0 + m)))) := by rw [← put_tv]; exact upd_same
  generalize upd H1 d (.dT (putK (tvOf ps) (kk (par1 k)) (.int (n0 + m)))) = H2 at g2 e_p2 e_d2 ⊢
  refine ⟨_, (@pss_cons _ _ _ _ _ (ps_dput (hu_of hr) (pv 0) (pv 1) (@pe_op _ _ _ _ _ _ _ _ op_sub (pe_dget (hu_of hr) (pv 0) (pv 1) (fun _ _ => rfl)) (pv 2)) rfl) pss_run), ?_⟩
  have lk2 : lookO (putS ps (par1 k) (n0 + m)) k = some (.int m) := by rw [look_put, if_neg (par_ne k)]; exact lk
  have l2 := put_len (putS ps (par1 k) (n0 + m)) k (m - m)
  refine ⟨_, rfl, _, rfl, d, .int m, rfl, by rw [← lk2]; exact get_int e_d2 e_p2, _, rfl, _, _, rfl, rfl, _, rfl, _, rfl, d, _, rfl, DPut.t (k := kk k) e_d2 e_p2 (small_lt (by rw [tvOf_len]; omega)), ?_⟩
  have g3 : Grw d H (upd H2 d (.dT (putK (tvOf (putS ps (par1 k) (n0 + m))) (kk k) (.int (m - m))))) := g2.trans grw_upd
  have e_p3 := tupd (o := .dT (putK (tvOf (putS ps (par1 k) (n0 + m))) (kk k) (.int (m - m)))) e_d2 e_p2
  have e_d3 : (upd H2 d (.dT (putK (tvOf (putS ps (par1 k) (n0 + m))) (kk k) (.int (m - m))))) d = some (.dT (tvOf (putS (putS ps (par1 k) (n0 + m)) k (m - m)))) := by rw [show tvOf (putS (putS ps (par1 k) (n0 + m)) k (m - m)) = putK (tvOf (putS ps (par1 k) (n0 + m))) (kk k) (.int (m - m)) from (put_tv _ _ _).symm]; exact upd_same
  generalize upd H2 d (.dT (putK (tvOf (putS ps (par1 k) (n0 + m))) (kk k) (.int (m - m)))) = H3 at g3 e_p3 e_d3 ⊢
  refine ⟨_, (@pss_one _ _ _ (@ps_if _ _ _ _ _ _ _ _ (@pt_cmpR _ _ _ _ _ _ _ _ op_eq (pe_dget (hu_of hr) (pv 0) (pv 1) (fun _ _ => rfl)) pe_int (nomark _)) (@pss_one _ _ _ (ps_expr (pe_bm PySem.F.plainAttrs_dict PySem.F.slot_dict_pop PySem.F.type_dict_pop (mt_popT hr.units) (pv 0) (@pa_cons _ _ _ _ _ (pv 1) pa_nil (by rfl))))) pss_nil)), ?_⟩
  have lk3 : lookO (putS (putS ps (par1 k) (n0 + m)) k (m - m)) k = some (.int (m - m)) := by rw [look_put, if_pos rfl]
  refine ⟨_, rfl, _, rfl, d, .int (m - m), rfl, by rw [← lk3]; exact get_int e_d3 e_p3, rfl, _, rfl, ?_⟩
  rw [decide_eq_true (by rw [Int.sub_self])]
  refine iteT ⟨_, rfl, tyV_dT e_d3, _, rfl, d, p, _, kk k, _, rfl, rfl, e_d3, e_p3, lk3, ?_⟩
  refine hq _ (g3.trans grw_upd) ?_
  rw [← hn0]
  unfold foldS
  rw [← drop_tv]
  exact upd_same
end
end K22

namespace K22
open PySem L2 Ld
def hgt : List Key → Int
  | .inl h :: _ => h
  | _ => 0
def meaT (deep : Int) (kvs : List (List Key × V)) : Nat := (kvs.map fun kv => (deep + 1 - hgt kv.1).toNat).sum
theorem meaT_tv (deep : Int) (ps : Sps) : meaT deep (tvOf ps) = mea deep (ps.map (·.1)) := by
  unfold meaT mea tvOf
  rw [List.map_map, List.map_map]
  rfl
def muD (deep : Int) (d : Addr) (H : Hp) : Nat := match H d with
  | some (.dT kvs) => meaT deep kvs
  | _ => 0
theorem muD_at {deep : Int} {d : Addr} {H : Hp} {ps : Sps} (e : H d = some (.dT (tvOf ps))) : muD deep d H = mea deep (ps.map (·.1)) := by
  unfold muD
  rw [e]
  exact meaT_tv deep ps
/-- folds, at their places -/
def FsAt (H : Hp) (l : Addr) (fs : Sps) : Prop := ∃ as : List Addr, H l = some (.lst (as.map V.ref)) ∧ Paired (FT H) as fs
def spStl : Sp := fun vs H Q _ => ∃ (q : Addr) (room deep total : Int) (ps : Sps), vs = [.ref q] ∧ LadAt H q room deep total ps ∧ 1 ≤ room ∧ room ≤ 20 ∧ deep ≤ 20 ∧ Kok deep (ps.map (·.1)) ∧ ps.length < 64 ∧
  ∀ (t r l : Addr) (H' : Hp) (fs ps' : Sps), Same H H' → H' t = some (.tup [.ref r, .ref l]) → H l = none → LadAt H' r room deep total (srtP2 ps') → FsAt H' l fs → fs.length ≤ 1400 → Stl deep (total / room) ps fs ps' → Kok deep (ps'.map (·.1)) → ps'.length ≤ ps.length → Q (.ref t) H'
/-- one of the pair behind the other -/
def pjs (ps : Sps) (h j : Int) : Nat → Sps
  | 0 => ps
  | 1 => foldI ps (loK h j)
  | _ => stepP ps h j
def tjs (ps : Sps) (h j : Int) : Nat → Sps
  | 0 => []
  | 1 => told1 ps (loK h j)
  | _ => flP ps h j
def kjs (h j : Int) : Nat → Int × Int
  | 0 => loK h j
  | _ => hiK h j
theorem pjs_succ (ps : Sps) (h j : Int) {i : Nat} (hi : i < 2) : pjs ps h j (i + 1) = foldI (pjs ps h j i) (kjs h j i) ∧ tjs ps h j (i + 1) = tjs ps h j i ++ told1 (pjs ps h j i) (kjs h j i) := by
  match i, hi with
  | 0, _ => exact ⟨rfl, rfl⟩
  | 1, _ => exact ⟨rfl, by show told1 ps _ ++ told1 ps _ = told1 ps _ ++ told1 (foldI ps (loK h j)) (hiK h j); rw [told_hi]⟩
/-- what holds while a ladder is settled -/
structure Stg (H H' : Hp) (d L : Addr) (deep bar : Int) (n0 M : Nat) (ps0 ps fs : Sps) : Prop where
  sm : Same H H'
  ed : H' d = some (.dT (tvOf ps))
  eL : FsAt H' L fs
  ok : Kok deep (ps.map (·.1))
  le : ps.length ≤ n0
  few : fs.length + mea deep (ps.map (·.1)) ≤ M
theorem FsAt.same {H H' : Hp} {l : Addr} {fs : Sps} (h : FsAt H l fs) (g : Same H H') : FsAt H' l fs := let ⟨as, e, p⟩ := h; ⟨as, g _ _ e, Paired.mapP p fun _ _ f => ft_mono g f⟩
theorem Stg.same {H H1 H2 : Hp} {d L : Addr} {deep bar : Int} {n0 M : Nat} {ps0 ps fs : Sps} (s : Stg H H1 d L deep bar n0 M ps0 ps fs) (g : Same H1 H2) : Stg H H2 d L deep bar n0 M ps0 ps fs := ⟨s.sm.trans g, g _ _ s.ed, s.eL.same g, s.ok, s.le, s.few⟩
section
variable {P : Program} {w : World} {K : PySem.W.Frag} {mg : Str → Option Value} {base : Heap} {f : Addr} {fd : FuncData}
theorem ok_stl (z_dict : mg "dict" = none) (z_sorted : mg "sorted" = none) (z_tuple : mg "tuple" = none) (h_bar_of : Has P w K mg base "bar_of" 1 ["ladder"] spBar) (h_first_folding : Has P w K mg base "first_folding" 3 ["deep", "bar", "counts"] spFF) (h_pair_of : Has P w K mg base "pair_of" 1 ["stretch"] spPair) (h_fold_up : Has P w K mg base "fold_up" 2 ["counts", "stretch", "many"] spFold)
    (F : Fun K "settling_of" "settling_of" s_settling_of f fd) : FnOk P w K mg base CX0 4 f fd ["ladder"] spStl := by
  refine F.ok sc_settling_of (fun vs H Q E h => ?_) (fun cdv A outer s H vs Q E hr h => ?_)
  · obtain ⟨q, room, deep, total, ps, rfl, _⟩ := h
    rfl
  obtain ⟨q, room, deep, total, ps, rfl, lad, r0, r1, d1, kok, pl, hq⟩ := h
  obtain ⟨c, as, e_q, e_c, pr⟩ := lad.at_
  refine ⟨_, (@pss_cons _ _ _ _ _ (ps_asg (pv 0) (pg_tup rfl (pgs_cons (pg_name (i := 1) sc_settling_of.nd rfl (Or.inl rfl)) (pgs_cons (pg_name (i := 2) sc_settling_of.nd rfl (Or.inl rfl)) (pgs_cons (pg_name (i := 3) sc_settling_of.nd rfl (Or.inl rfl)) (pgs_cons (pg_name (i := 4) sc_settling_of.nd rfl (Or.inl rfl)) pgs_nil)))))) pss_run), ?_⟩
  refine ⟨_, rfl, q, _, rfl, SqT.of e_q, rfl, _, _, rfl, _, _, rfl, _, _, rfl, _, _, rfl, rfl, ?_⟩
  refine ⟨_, (@pss_cons _ _ _ _ _ (@ps_set _ _ 5 _ _ _ _ sc_settling_of.nd rfl (Or.inl rfl) (pe_callH h_bar_of hr (@pa_cons _ _ _ _ _ (pv 0) pa_nil (by rfl))) (by rfl) (by first | exact .inl rfl | exact .inr rfl)) pss_run), ?_⟩
  refine ⟨_, rfl, q, room, deep, total, ps, rfl, lad, r0, r1, ?_⟩
  refine ⟨_, (@pss_cons _ _ _ _ _ (@ps_set _ _ 6 _ _ _ _ sc_settling_of.nd rfl (Or.inl rfl) (pe_callTy (call_dictTT rfl hr.units) rfl z_dict PyProof.Rows.boot_dict (@pa_cons _ _ _ _ _ (pv 3) pa_nil (by rfl))) (by rfl) (by first | exact .inl rfl | exact .inr rfl)) pss_run), ?_⟩
  have nd : ((tvOf ps).map (·.1)).Nodup := by
    rw [tvOf_keys]
    exact List.pairwise_map.mpr (kok.nd.imp fun h e => h (kk_inj e))
  refine ⟨_, rfl, c, _, _, rfl, e_c, ft_tps pr, by rw [tvOf_len]; omega, fun d n_d => ?_⟩
  rw [mrgTV_nd nd]
  have sm0 := same_laid n_d (.dT (tvOf ps))
  have ed0 : (upd H d (.dT (tvOf ps))) d = some (.dT (tvOf ps)) := upd_same
  generalize upd H d (.dT (tvOf ps)) = H1 at sm0 ed0 ⊢
  refine ⟨_, (@pss_cons _ _ _ _ _ (@ps_set _ _ 7 _ _ _ _ sc_settling_of.nd rfl (Or.inl rfl) (@pe_lst _ _ _ _ pa_nil) (by rfl) (by first | exact .inl rfl | exact .inr rfl)) pss_run), ?_⟩
  refine ⟨leN rfl, fun L n_L => ?_⟩
  have sm1 := same_laid n_L (.lst [])
  have eL0 : (upd H1 L (.lst [])) L = some (.lst []) := upd_same
  generalize upd H1 L (.lst []) = H2 at sm1 eL0 ⊢
  have nHL : H L = none := sm0.free n_L
  have m0 : mea deep (ps.map (·.1)) ≤ 21 * ps.length := by
    have := mea_le d1 (ks := ps.map (·.1)) fun k hk => (kok.st k hk).1
    rwa [List.length_map] at this
  have sg : Stg H H2 d L deep (total / room) ps.length (mea deep (ps.map (·.1))) ps ps [] := ⟨sm0.trans sm1, sm1 _ _ ed0, ⟨[], eL0, .nil⟩, kok, Nat.le_refl _, by rw [List.length_nil]; omega⟩
  have dL : d ≠ L := ne_of_none ed0 n_L
  generalize hbar : total / room = bar at sg hq ⊢
  generalize mea deep (ps.map (·.1)) = M at m0 sg
  refine ⟨_, (@pss_cons _ _ _ _ _ (@ps_set _ _ 8 _ _ _ _ sc_settling_of.nd rfl (Or.inl rfl) (pe_callH h_first_folding hr (@pa_cons _ _ _ _ _ (pv 2) (@pa_cons _ _ _ _ _ (pv 5) (@pa_cons _ _ _ _ _ (pv 6) pa_nil (by rfl)) (by rfl)) (by rfl))) (by rfl) (by first | exact .inl rfl | exact .inr rfl)) pss_run), ?_⟩
  refine seq_post (fun σ' H' => ∃ (o8 : V) (ps' : Sps) (fs : Sps), σ' = [some (.ref q), some (.int room), some (.int deep), some (.ref c), some (.int total), some (.int bar), some (.ref d), some (.ref L), some o8, none] ∧ Stg H H' d L deep bar ps.length M ps ps' fs ∧ Way deep bar ps fs ps' ∧ ((o8 = .non ∧ Nof deep bar ps') ∨ ∃ (p : Addr) (k : Int × Int), o8 = .ref p ∧ KAt H' p k ∧ Fst deep bar ps' k.1 (k.2 / 2))) ?_ ?_
  · intro nx hnx
    exact ⟨_, rfl, _, rfl, _, rfl, deep, _, d, ps, rfl, sg.ed, pl, fun H' g n => hnx _ _ ⟨.non, ps, [], rfl, sg.same g, Way.refl, .inl ⟨rfl, n⟩⟩, fun p k H' g ek ft => hnx _ _ ⟨.ref p, ps, [], rfl, sg.same g, Way.refl, .inr ⟨p, k, rfl, ek, ft⟩⟩⟩
  rintro σ' H3 ⟨o8, ps1, fs, rfl, sg, way, alt⟩
  refine ⟨_, (@pss_cons _ _ _ _ _ (ps_while PassesOwn.never (@pt_cmpR _ _ _ _ _ _ _ _ op_notN (pv 8) pe_non (nomark _)) (@pss_cons _ _ _ _ _ (ps_for PassesOwn.never rfl (pi_tup (pe_callH h_pair_of hr (@pa_cons _ _ _ _ _ (pv 8) pa_nil (by rfl)))) (pg_name (i := 9) sc_settling_of.nd rfl (Or.inl rfl))
  (@pss_one _ _ _ (@ps_if _ _ _ _ _ _ _ _ (@pt_cmpR _ _ _ _ _ _ _ _ (op_inDG hr.units) (pv 9) (pv 6) (by with_unfolding_all rfl)) (@pss_cons _ _ _ _ _ (ps_expr (pe_bm PySem.F.plainAttrs_list PySem.F.slot_list_append PySem.F.type_list_append mt_append (pv 7) (@pa_cons _ _ _ _ _ (@pe_tup _ _ _ _ _ (@pa_cons _ _ _ _ _ (pv 9) (@pa_cons _ _ _ _ _ (pe_dget (hu_of hr) (pv 6) (pv 9) (fun _ _ => rfl)) pa_nil (by rfl)) (by rfl))) pa_nil (by rfl))))
  (@pss_one _ _ _ (ps_expr (pe_callH h_fold_up hr (@pa_cons _ _ _ _ _ (pv 6) (@pa_cons _ _ _ _ _ (pv 9) (@pa_cons _ _ _ _ _ (pe_dget (hu_of hr) (pv 6) (pv 9) (fun _ _ => rfl)) pa_nil (by rfl)) (by rfl)) (by rfl)))))) pss_nil)))
  (@pss_one _ _ _ (@ps_set _ _ 8 _ _ _ _ sc_settling_of.nd rfl (Or.inl rfl) (pe_callH h_first_folding hr (@pa_cons _ _ _ _ _ (pv 2) (@pa_cons _ _ _ _ _ (pv 5) (@pa_cons _ _ _ _ _ (pv 6) pa_nil (by rfl)) (by rfl)) (by rfl))) (by rfl) (by first | exact .inl rfl | exact .inr rfl))))) pss_run), ?_⟩
  refine while_by (fun σ H' => ∃ (o8 : V) (o9 : Option V) (ps' : Sps) (fs : Sps), σ = [some (.ref q), some (.int room), some (.int deep), some (.ref c), some (.int total), some (.int bar), some (.ref d), some (.ref L), some o8, o9] ∧ Stg H H' d L deep bar ps.length M ps ps' fs ∧ Way deep bar ps fs ps' ∧ ((o8 = .non ∧ Nof deep bar ps') ∨ ∃ (p : Addr) (k : Int × Int), o8 = .ref p ∧ KAt H' p k ∧ Fst deep bar ps' k.1 (k.2 / 2))) (fun _ H' => muD deep d H') ⟨o8, none, ps1, fs, rfl, sg, way, alt⟩ ?_ ?_
  · rintro σ H4 ⟨o8, o9, ps2, fs, rfl, sg, way, alt⟩
    refine ⟨_, rfl, rfl, _, rfl, ?_⟩
    rcases alt with ⟨rfl, nof⟩ | ⟨p, k, rfl, e_p, ft⟩
    · rw [decide_eq_true rfl]
      refine iteF ⟨_, (@pss_one _ _ _ (@ps_ret _ _ _ _ (@pe_tup _ _ _ _ _ (@pa_cons _ _ _ _ _ (@pe_tup _ _ _ _ _ (@pa_cons _ _ _ _ _ (pv 1) (@pa_cons _ _ _ _ _ (pv 2) (@pa_cons _ _ _ _ _ (pe_callTy call_tuple_of rfl z_tuple PyProof.Rows.boot_tuple (@pa_cons _ _ _ _ _ (pe_callB (call_sortIT rfl hr.units) rfl z_sorted PyProof.Rows.boot_sorted (@pa_cons _ _ _ _ _ (pe_bm0 PySem.F.plainAttrs_dict PySem.F.slot_dict_items PySem.F.type_dict_items mt_itemsT (pv 6)) pa_nil (by rfl))) pa_nil (by rfl))) (@pa_cons _ _ _ _ _ (pv 4) pa_nil (by rfl)) (by rfl)) (by rfl)) (by rfl))) (@pa_cons _ _ _ _ _ (pv 7) pa_nil (by rfl)) (by rfl))))), ?_⟩
      refine ⟨_, rfl, _, rfl, _, rfl, tyV_dT sg.ed, d, _, rfl, rfl, sg.ed, fun v nv => ?_⟩
      have g1 := same_laid nv (iView v d)
      have e_v : (upd H4 v (iView v d)) v = some (iView v d) := upd_same
      have sg := sg.same g1
      generalize upd H4 v (iView v d) = H5 at e_v sg ⊢
      have pl2 := sg.le
      refine ⟨v, d, ps2, rfl, e_v, sg.ed, by omega, fun H6 bs g6 pr6 l nl _ => ?_⟩
      have sg := sg.same g6
      have gg : Same H6 H6 := Same.refl _
      have gz := same_laid nl (.lst (bs.map V.ref))
      have e_l : (upd H6 l (.lst (bs.map V.ref))) l = some (.lst (bs.map V.ref)) := upd_same
      have sg := sg.same gz
      have gg := gg.trans gz
      generalize upd H6 l (.lst (bs.map V.ref)) = H7 at e_l sg gg gz ⊢
      refine ⟨l, _, rfl, .inl ⟨SqL.of e_l, ?_⟩⟩
      intro u n_u
      generalize hz : upd _ u _ = H8
      have gz := laid_same hz n_u
      have e_u := laid_at hz
      clear hz
      have gg := gg.trans gz
      have sg := sg.same gz
      refine ⟨_, rfl, leN rfl, ?_⟩
      intro r n_r
      generalize hz : upd _ r _ = H9
      have gz := laid_same hz n_r
      have e_r := laid_at hz
      clear hz
      have gg := gg.trans gz
      have e_u := gz _ _ e_u
      have sg := sg.same gz
      refine ⟨_, rfl, leN rfl, ?_⟩
      intro t n_t
      generalize hz : upd _ t _ = H10
      have gz := laid_same hz n_t
      have e_t := laid_at hz
      clear hz
      have gg := gg.trans gz
      have e_u := gz _ _ e_u
      have e_r := gz _ _ e_r
      have sg := sg.same gz
      have few := sg.few
      exact hq t r L _ fs ps2 sg.sm e_t nHL ⟨u, bs, e_r, e_u, Paired.mapP pr6 fun _ _ f => ft_mono gg f⟩ sg.eL (by omega) (way.done nof) sg.ok sg.le
    · rw [decide_eq_false (fun z => by cases z)]
      refine iteT ⟨_, rfl, p, k, rfl, e_p, fun t a b H5 g5 e_t e_a e_b => ⟨t, rfl, ⟨_, SqT.of e_t⟩, ?_⟩⟩
      have mu4 : muD deep d H4 = mea deep (ps2.map (·.1)) := muD_at sg.ed
      rw [mu4]
      have sg5 := sg.same g5
      generalize k.1 = h at ft e_a e_b
      generalize k.2 / 2 = jj at ft e_a e_b
      have hd := ft.hd
      refine for_tupH (xs := [.ref a, .ref b]) (fun j σ H' => ∃ (o9 : Option V), σ = [some (.ref q), some (.int room), some (.int deep), some (.ref c), some (.int total), some (.int bar), some (.ref d), some (.ref L), some (.ref p), o9] ∧ Stg H H' d L deep bar ps.length M ps (pjs ps2 h jj j) (fs ++ tjs ps2 h jj j) ∧ H' t = some (.tup [.ref a, .ref b]) ∧ KAt H' a (loK h jj) ∧ KAt H' b (hiK h jj)) ⟨_, rfl, by rw [show fs ++ tjs ps2 h jj 0 = fs from List.append_nil fs]; exact sg5, e_t, e_a, e_b⟩ ?_ ?_ ?_
      · rintro j σ H' _ ⟨_, _, _, e, _⟩
        exact SqT.of e
      · rintro j x σ H6 N B1 R hN hR hx ⟨o9, rfl, sg, e_t, e_a, e_b⟩
        obtain ⟨o, rfl, e_o, j2⟩ : ∃ (o : Addr), x = .ref o ∧ KAt H6 o (kjs h jj j) ∧ j < 2 := by
          match j, hx with
          | 0, hx =>
            cases hx
            exact ⟨a, rfl, e_a, by decide⟩
          | 1, hx =>
            cases hx
            exact ⟨b, rfl, e_b, by decide⟩
          | j + 2, hx => simp at hx
        obtain ⟨nx1, nx2⟩ := pjs_succ ps2 h jj j2
        rw [nx1, nx2, ← List.append_assoc] at hN
        have kh : (kjs h jj j).1 = h := by
          match j with
          | 0 => rfl
          | _ + 1 => rfl
        generalize pjs ps2 h jj j = ps3 at sg hN
        generalize fs ++ tjs ps2 h jj j = fs3 at sg hN
        generalize kjs h jj j = ko at e_o hN kh
        refine ⟨_, rfl, _, rfl, d, _, rfl, get_int sg.ed e_o, _, rfl, ite2 (fun cc => ?_) (fun cc => ?_)⟩
        · have kin := look_mem.mp cc
          have hm := look_key kin
          have nxo := foldI_ok (k := ko) sg.ok (by rw [kh]; exact hd)
          have ef : foldI ps3 ko = foldS ps3 ko (cnt ps3 ko) (cnt ps3 (par1 ko) + cnt ps3 ko) := by unfold foldI; rw [if_pos kin]; rfl
          have et : told1 ps3 ko = [(ko, cnt ps3 ko)] := by unfold told1; rw [if_pos kin]
          rw [et] at hN nxo
          generalize cnt ps3 ko = m at hm ef hN
          have gm : DGet H6 d (.ref o) (some (.int m)) := by rw [← hm]; exact get_int sg.ed e_o
          obtain ⟨fas, eL, pF⟩ := sg.eL
          refine ⟨_, rfl, .inl ⟨rfl, _, SqL.of eL⟩, _, rfl, _, rfl, _, rfl, d, _, rfl, gm, leN rfl, fun u nu => ?_⟩
          have s7 := same_laid nu (.tup [.ref o, .int m])
          have sg := sg.same s7
          have e_t := s7 _ _ e_t
          have e_a : KAt _ a _ := s7 _ _ e_a
          have e_b : KAt _ b _ := s7 _ _ e_b
          have e_o : KAt _ o _ := s7 _ _ e_o
          have eL := s7 _ _ eL
          have pF := Paired.mapP pF fun _ _ f => ft_mono s7 f
          have fu : FT (upd H6 u (.tup [.ref o, .int m])) u (ko, m) := ⟨o, upd_same, e_o⟩
          generalize upd H6 u (.tup [.ref o, .int m]) = H7 at sg e_t e_a e_b e_o eL pF fu ⊢
          have few := sg.few
          have fal := Paired.length pF
          have tL : ∀ {x : Addr} {xs : List V} {o : HO}, H7 x = some (.tup xs) → upd H7 L o x = some (.tup xs) := fun {x xs o} e => by rw [upd_ne (ne_of e eL (by intro z; cases z))]; exact e
          refine ⟨L, _, _, rfl, rfl, eL, small_lt (by rw [List.length_map]; omega), ?_⟩
          have sm8 : Same H (upd H7 L (.lst (fas.map V.ref ++ [.ref u]))) := fun x w e => by rw [upd_ne (ne_of_none e nHL)]; exact sg.sm _ _ e
          have ed8 : (upd H7 L (.lst (fas.map V.ref ++ [.ref u]))) d = some (.dT (tvOf ps3)) := by rw [upd_ne dL]; exact sg.ed
          have eL8 : (upd H7 L (.lst (fas.map V.ref ++ [.ref u]))) L = some (.lst ((fas ++ [u]).map V.ref)) := by rw [List.map_append]; exact upd_same
          have tF : ∀ {x : Addr} {p : (Int × Int) × Int}, FT H7 x p → FT (upd H7 L (.lst (fas.map V.ref ++ [.ref u]))) x p := fun {x p} ⟨y, e1, e2⟩ => ⟨y, tL e1, tL e2⟩
          have pF8 : Paired (FT (upd H7 L (.lst (fas.map V.ref ++ [.ref u])))) (fas ++ [u]) (fs3 ++ [(ko, m)]) := Paired.snoc (Paired.mapP pF fun _ _ f => tF f) (tF fu)
          have e_t := tL (o := .lst (fas.map V.ref ++ [.ref u])) e_t
          have e_a : KAt _ a _ := tL (o := .lst (fas.map V.ref ++ [.ref u])) e_a
          have e_b : KAt _ b _ := tL (o := .lst (fas.map V.ref ++ [.ref u])) e_b
          have e_o : KAt _ o _ := tL (o := .lst (fas.map V.ref ++ [.ref u])) e_o
          generalize upd H7 L (.lst (fas.map V.ref ++ [.ref u])) = H8 at sm8 ed8 eL8 e_t e_a e_b e_o pF8 ⊢
          have gm8 : DGet H8 d (.ref o) (some (.int m)) := by rw [← hm]; exact get_int ed8 e_o
          have le3 := sg.le
          refine ⟨_, rfl, _, rfl, _, rfl, _, rfl, d, _, rfl, gm8, d, o, ps3, ko, m, rfl, ed8, e_o, hm, by omega, fun H9 g9 e9 => ?_⟩
          rw [← ef] at e9
          have nx2 := nxo.2.1
          have nx3 := nxo.2.2
          rw [List.length_singleton] at nx2
          have td : ∀ {x : Addr} {xs : List V}, H8 x = some (.tup xs) → H9 x = some (.tup xs) := fun {x xs} e => (hide_some (g9 x _ (by rw [hide_ne (ne_of e ed8 (by intro z; cases z))]; exact e))).2
          refine hN _ _ ⟨_, rfl, ⟨fun x w e => (hide_some (g9 x _ (by rw [hide_ne (ne_of_none e n_d)]; exact sm8 _ _ e))).2, e9, ⟨fas ++ [u], (hide_some (g9 L _ (by rw [hide_ne (Ne.symm dL)]; exact eL8))).2, Paired.mapP pF8 fun _ _ ⟨y, e1, e2⟩ => ⟨y, td e1, td e2⟩⟩, nxo.1, by omega, by rw [List.length_append, List.length_singleton]; omega⟩, td e_t, td e_a, td e_b⟩
        · have kin : ko ∉ ps3.map (·.1) := fun z => cc (look_mem.mpr z)
          have ef : foldI ps3 ko = ps3 := by unfold foldI; rw [if_neg kin]
          have et : told1 ps3 ko = [] := by unfold told1; rw [if_neg kin]
          rw [ef, et, List.append_nil] at hN
          exact hN _ _ ⟨_, rfl, sg, e_t, e_a, e_b⟩
      · rintro σ H6 ⟨o9, rfl, sg, _, _, _⟩
        have sg : Stg H H6 d L deep bar ps.length M ps (stepP ps2 h jj) (fs ++ flP ps2 h jj) := sg
        have way := way.snoc ft (.refl _)
        have so := stepP_ok (j := jj) sg5.ok hd
        have fp := fl_pos ft.in_
        have le3 := sg.le
        generalize stepP ps2 h jj = ps3 at sg way so le3
        generalize fs ++ flP ps2 h jj = fs3 at sg way
        have less : mea deep (ps3.map (·.1)) < mea deep (ps2.map (·.1)) := by omega
        refine ⟨_, rfl, _, rfl, _, rfl, deep, _, d, ps3, rfl, sg.ed, by omega, fun H' g n => ⟨⟨.non, o9, ps3, fs3, rfl, sg.same g, way, .inl ⟨rfl, n⟩⟩, ?_⟩, fun p' k' H' g ek ft' => ⟨⟨.ref p', o9, ps3, fs3, rfl, sg.same g, way, .inr ⟨p', k', rfl, ek, ft'⟩⟩, ?_⟩⟩
        · rw [muD_at (sg.same g).ed]; exact less
        · rw [muD_at (sg.same g).ed]; exact less
  · rintro σ H' Q1 Q2 m ⟨v, e, e2, b, e3, r⟩
    exact ⟨v, e, e2, b, e3, m _ _ r⟩
end
end K22

namespace K22
open PySem L2 Ld
def idx (h : Int) (ps : Sps) : List Int := (ps.filter fun p => decide (p.1.1 = h)).map fun p => p.1.2 / 2
def spFon : Sp := fun vs H Q _ => ∃ (d : Addr) (deep bar : Int) (ps : Sps), vs = [.ref d, .int deep, .int bar] ∧ H d = some (.dT (tvOf ps)) ∧ Kok deep (ps.map (·.1)) ∧ 0 ≤ deep ∧ deep ≤ 20 ∧ ps.length < 64 ∧
  (∀ (l : Addr) (H' : Hp), Nof deep bar ps → Same H H' → H l = none → H' l = some (.lst []) → Q (.ref l) H') ∧
  ∀ (h j : Int) (l : Addr) (H' : Hp), Fst deep bar ps h j → Grw d H H' → H l = none → H' d = some (.dT (tvOf (stepL ps h j))) → FsAt H' l (flP ps h j) → Q (.ref l) H'
theorem thaw_same {H H' : Hp} {d : Addr} {o : Obj} {kvs : List (List Key × V)} (e : H d = some (.dT kvs)) (g : Same (upd H d (.frz o (.dT kvs))) H') : Same H (upd H' d (.dT kvs)) := fun b u h => by
  by_cases z : b = d
  · rw [z] at h ⊢
    rw [e] at h
    rw [← h]
    exact upd_same
  · rw [upd_ne z]
    exact g b u (by rw [upd_ne z]; exact h)
theorem tv_get {ps : Sps} {i : Nat} {p : List Key × V} (h : (tvOf ps)[i]? = some p) : ∃ q, ps[i]? = some q ∧ p = (kk q.1, .int q.2) := by
  unfold tvOf at h
  rw [List.getElem?_map] at h
  cases e : ps[i]? with
  | none => rw [e] at h; cases h
  | some q => rw [e] at h; cases h; exact ⟨q, rfl, rfl⟩
theorem take_map {α β : Type} (f : α → β) {l : List α} {i : Nat} {a : α} (h : l[i]? = some a) : (l.take (i + 1)).map f = (l.take i).map f ++ [f a] := by
  rw [take_one h, List.map_append]
  rfl
theorem idx_mem {h j : Int} {ps : Sps} : j ∈ idx h ps ↔ ∃ k ∈ ps.map (·.1), k.1 = h ∧ k.2 / 2 = j := by
  unfold idx
  rw [List.mem_map]
  constructor
  · rintro ⟨p, hp, rfl⟩
    obtain ⟨a, b⟩ := List.mem_filter.mp hp
    exact ⟨p.1, List.mem_map.mpr ⟨p, a, rfl⟩, of_decide_eq_true b, rfl⟩
  · rintro ⟨k, hk, rfl, rfl⟩
    obtain ⟨p, hp, rfl⟩ := List.mem_map.mp hk
    exact ⟨p, List.mem_filter.mpr ⟨hp, decide_eq_true rfl⟩, rfl⟩
/-- dropped one behind another -/
def drops (ps fs : Sps) : Sps := fs.foldl (fun a p => dropS a p.1) ps
theorem look_drops : ∀ (fs ps : Sps) (x : Int × Int), lookO (drops ps fs) x = if x ∈ fs.map (·.1) then none else lookO ps x
  | [], ps, x => by rw [List.map_nil, if_neg List.not_mem_nil]; rfl
  | p :: fs, ps, x => by
    have ih := look_drops fs (dropS ps p.1) x
    show lookO (drops (dropS ps p.1) fs) x = _
    rw [ih, look_drop, List.map_cons]
    by_cases e : x = p.1
    · rw [if_pos e, if_pos (show x ∈ p.1 :: fs.map (·.1) by rw [e]; exact .head _)]
      split <;> rfl
    · rw [if_neg e]
      by_cases z : x ∈ fs.map (·.1)
      · rw [if_pos z, if_pos (List.mem_cons_of_mem _ z)]
      · rw [if_neg z, if_neg fun q => (List.mem_cons.mp q).elim e z]
theorem drops_step {ps fs : Sps} {n : Nat} {p : (Int × Int) × Int} (h : fs[n]? = some p) : drops ps (fs.take (n + 1)) = dropS (drops ps (fs.take n)) p.1 := by
  unfold drops
  rw [take_one h, List.foldl_append]
  rfl
theorem fl_two (ps : Sps) (h j : Int) : (flP ps h j).length ≤ 2 := by
  unfold flP told1
  rw [List.length_append]
  split <;> split <;> simp
theorem fl_nd (ps : Sps) (h j : Int) : ((flP ps h j).map (·.1)).Nodup := by
  unfold flP told1
  have := lo_hi h j
  split <;> split <;> simp [this]
theorem fl_in (ps : Sps) (h j : Int) : ∀ p ∈ flP ps h j, lookO ps p.1 = some (.int p.2) := fun p hp => by
  unfold flP told1 at hp
  rcases List.mem_append.mp hp with hp | hp
  · split at hp
    · rw [List.mem_singleton.mp hp]; exact look_key (by assumption)
    · cases hp
  · split at hp
    · rw [List.mem_singleton.mp hp]; exact look_key (by assumption)
    · cases hp
theorem fl_drop (ps : Sps) (h j : Int) : drops ps (flP ps h j) = dropS (dropS ps (loK h j)) (hiK h j) := by
  have out : hiK h j ∉ ps.map (·.1) → hiK h j ∉ (dropS ps (loK h j)).map (·.1) := fun n z => n (by rw [drop_keys] at z; exact (List.mem_filter.mp z).1)
  unfold flP told1 drops
  by_cases i1 : loK h j ∈ ps.map (·.1)
  · by_cases i2 : hiK h j ∈ ps.map (·.1)
    · rw [if_pos i1, if_pos i2]; rfl
    · rw [if_pos i1, if_neg i2, drop_absent (out i2)]; rfl
  · by_cases i2 : hiK h j ∈ ps.map (·.1)
    · rw [if_neg i1, if_pos i2, drop_absent i1]; rfl
    · rw [if_neg i1, if_neg i2, drop_absent (out i2), drop_absent i1]; rfl
theorem _root_.L2.Grw.tup {d x : Addr} {H H' : Hp} {kvs : List (List Key × V)} {xs : List V} (g : Grw d H H') (ed : H d = some (.dT kvs)) (e : H x = some (.tup xs)) : H' x = some (.tup xs) := (hide_some (g x _ (by rw [hide_ne (ne_of e ed (by intro z; cases z))]; exact e))).2
theorem _root_.L2.Grw.lst {d x : Addr} {H H' : Hp} {kvs : List (List Key × V)} {xs : List V} (g : Grw d H H') (ed : H d = some (.dT kvs)) (e : H x = some (.lst xs)) : H' x = some (.lst xs) := (hide_some (g x _ (by rw [hide_ne (ne_of e ed (by intro z; cases z))]; exact e))).2
theorem _root_.L2.Same.grw {d : Addr} {H H' : Hp} (g : Same H H') : Grw d H H' := fun x w e => by
  obtain ⟨e1, e2⟩ := hide_some e
  rw [hide_ne e1]
  exact g _ _ e2
theorem _root_.L2.Grw.refl {d : Addr} {H : Hp} : Grw d H H := fun _ _ e => e
section
variable {P : Program} {w : World} {K : PySem.W.Frag} {mg : Str → Option Value} {base : Heap} {f : Addr} {fd : FuncData}
theorem ok_fon (z_range : mg "range" = none) (z_sorted : mg "sorted" = none) (z_set : mg "set" = none) (z_sum : mg "sum" = none) (F : Fun K "_law_fold_once" "_law_fold_once" s_l_fold_once f fd) : FnOk P w K mg base CX0 1 f fd ["_law_now", "_law_deep", "_law_bar"] spFon := by
  refine F.ok sc_l_fold_once (fun vs H Q E h => ?_) (fun cdv A outer s H vs Q E hr h => ?_)
  · obtain ⟨d, deep, bar, ps, rfl, _⟩ := h
    rfl
  obtain ⟨d, deep, bar, ps, rfl, e_d, kok, d0, d1, pl, hq0, hq1⟩ := h
  refine ⟨_, (@pss_cons _ _ _ _ _ (ps_for PassesOwn.never rfl (pi_range1 rfl z_range (@pa_cons _ _ _ _ _ (pv 1) pa_nil (by rfl))) (pg_name (i := 3) sc_l_fold_once.nd rfl (Or.inr rfl))
  (@pss_one _ _ _ (ps_for PassesOwn.never rfl (pi_list (pe_callB (call_sortSI rfl) rfl z_sorted PyProof.Rows.boot_sorted (@pa_cons _ _ _ _ _ (pe_callTy (call_setN rfl) rfl z_set PyProof.Rows.boot_set (@pa_cons _ _ _ _ _ (pe_frzT (pe_comp (own := ["_law_other", "_law_index"]) (CompOk.of rfl rfl (by rfl) (by rfl) (by rfl)) (pi_dictT (pv 0))
    (fun _ _ _ _ _ => (pg_tupK K 2 rfl rfl (pgs_cons (pg_name (i := 0) nd_l_fold_once_86_33 rfl (Or.inl rfl) (Or.inr rfl)) (pgs_cons (pg_name (i := 1) nd_l_fold_once_86_33 rfl (Or.inl rfl) (Or.inr rfl)) pgs_nil)))) (fun _ _ _ _ _ => (pts_one (@pt_cmpR _ _ _ _ _ _ _ _ op_eq (pv 0) (pv 5) (nomark _))))
    (fun _ _ _ _ _ => (@pe_op _ _ _ _ _ _ _ _ op_fdiv (pv 1) pe_int)))) pa_nil (by rfl))) pa_nil (by rfl)))) (pg_name (i := 4) sc_l_fold_once.nd rfl (Or.inl rfl))
  (@pss_cons _ _ _ _ _ (@ps_set _ _ 5 _ _ _ _ sc_l_fold_once.nd rfl (Or.inl rfl) (@pe_tup _ _ _ _ _ (@pa_cons _ _ _ _ _ (@pe_op _ _ _ _ _ _ _ _ op_add (pv 3) pe_int) (@pa_cons _ _ _ _ _ (pv 4) pa_nil (by rfl)) (by rfl))) (by rfl) (by first | exact .inl rfl | exact .inr rfl))
  (@pss_cons _ _ _ _ _ (@ps_set _ _ 6 _ _ _ _ sc_l_fold_once.nd rfl (Or.inl rfl) (@pe_lst _ _ _ _ (@pa_cons _ _ _ _ _ (@pe_tup _ _ _ _ _ (@pa_cons _ _ _ _ _ (pv 3) (@pa_cons _ _ _ _ _ (@pe_op _ _ _ _ _ _ _ _ op_mul pe_int (pv 4)) pa_nil (by rfl)) (by rfl))) (@pa_cons _ _ _ _ _ (@pe_tup _ _ _ _ _ (@pa_cons _ _ _ _ _ (pv 3) (@pa_cons _ _ _ _ _ (@pe_op _ _ _ _ _ _ _ _ op_add (@pe_op _ _ _ _ _ _ _ _ op_mul pe_int (pv 4)) pe_int) pa_nil (by rfl)) (by rfl))) pa_nil (by rfl)) (by rfl))) (by rfl) (by first | exact .inl rfl | exact .inr rfl))
  (pss_forget 9 (@pss_cons _ _ _ _ _ (@ps_set _ _ 7 _ _ _ _ sc_l_fold_once.nd rfl (Or.inl rfl) (pe_callB (call_sum rfl) rfl z_sum PyProof.Rows.boot_sum (@pa_cons _ _ _ _ _ (pe_ren ["_law_now", "_law_deep", "_law_bar", "_law_height", "_law_k", "_law_parent", "_law_pair", "_law_whole_here", "_law_told", "#9", "_law_many_here"] (pe_comp (own := ["_law_one"]) (CompOk.of rfl rfl (by rfl) (by rfl) (by rfl)) (pi_list (@pe_op _ _ _ _ _ _ _ _ op_cat (pv 6) (@pe_lst _ _ _ _ (@pa_cons _ _ _ _ _ (pv 5) pa_nil (by rfl)))))
    (fun _ _ _ _ _ => (pg_name (i := 0) nd_l_fold_once_89_34 rfl (Or.inl rfl) (Or.inr rfl))) (fun _ _ _ _ _ => pts_nil)
    (fun _ _ _ _ _ => (pe_dget2 (hu_of hr) (pv 1) (pv 0) pe_int ⟨rfl, rfl, rfl, rfl⟩)))) pa_nil (by rfl))) (by rfl) (by first | exact .inl rfl | exact .inr rfl))
  (@pss_one _ _ _ (@ps_if _ _ _ _ _ _ _ _ (@pt_cmpR _ _ _ _ _ _ _ _ op_le (pv 7) (pv 2) (nomark _)) (pss_forget 9 (@pss_cons _ _ _ _ _ (ps_ren ["_law_now", "_law_deep", "_law_bar", "_law_height", "_law_k", "_law_parent", "_law_pair", "_law_whole_here", "_law_told", "#9", "_law_many_here"] (ps_setC (i := 8) (show List.Nodup (["_law_now", "_law_deep", "_law_bar", "_law_height", "_law_k", "_law_parent", "_law_pair", "_law_whole_here", "_law_told", "#9", "_law_many_here"] : List Str) by decide +kernel) rfl rfl (own := ["_law_one"]) (CompOk.of rfl rfl (by rfl) (by rfl) (by rfl)) (pi_list (pv 6))
    (fun _ _ _ _ _ => (pg_name (i := 0) nd_l_fold_once_91_28 rfl (Or.inl rfl) (Or.inr rfl))) (fun _ _ _ _ _ => (pts_one (@pt_cmpR _ _ _ _ _ _ _ _ (op_inDG hr.units) (pv 0) (pv 1) (by with_unfolding_all rfl))))
    (fun _ _ _ _ _ => (@pe_tup _ _ _ _ _ (@pa_cons _ _ _ _ _ (pv 0) (@pa_cons _ _ _ _ _ (pe_dget (hu_of hr) (pv 1) (pv 0) (fun _ _ => rfl)) pa_nil (by rfl)) (by rfl))))))
  (@pss_cons _ _ _ _ _ (ps_for PassesOwn.never rfl (pi_list (pv 8)) (pg_tup rfl (pgs_cons (pg_name (i := 9) sc_l_fold_once.nd rfl (Or.inl rfl)) (pgs_cons (pg_name (i := 10) sc_l_fold_once.nd rfl (Or.inl rfl)) pgs_nil)))
  (@pss_one _ _ _ (ps_expr (pe_bm PySem.F.plainAttrs_dict PySem.F.slot_dict_pop PySem.F.type_dict_pop (mt_popT hr.units) (pv 0) (@pa_cons _ _ _ _ _ (pv 9) pa_nil (by rfl))))))
  (@pss_cons _ _ _ _ _ (ps_dput (hu_of hr) (pv 0) (pv 5) (pv 7) rfl)
  (@pss_one _ _ _ (@ps_ret _ _ _ _ (pv 8))))))) pss_nil))))))))) pss_run), ?_⟩
  refine ⟨_, rfl, deep, rfl, by omega, by omega, ?_⟩
  refine for_rangeH (lo := 0) (n := deep.toNat) (fun i σ H' => ∃ o3 o4 o5 o6 o7 o8 o9 o10 : Option V, σ = [some (.ref d), some (.int deep), some (.int bar), o3, o4, o5, o6, o7, o8, o9, o10] ∧ Same H H' ∧ ∀ k ∈ ps.map (·.1), k.1 < (i : Int) → bar < jn ps k.1 (k.2 / 2)) ⟨_, _, _, _, _, _, _, _, rfl, Same.refl _, fun k hk z => ?_⟩ ?_ ?_
  · have := (kok.st k hk).1
    omega
  · rintro i σ H1 N B1 R hN hR hi ⟨o3, o4, o5, o6, o7, o8, o9, o10, rfl, g1, bef⟩
    have hz : (0 : Int) + (i : Int) = i := Int.zero_add _
    generalize hh : (0 : Int) + (i : Int) = h at hz ⊢
    have e_d1 := g1 _ _ e_d
    have filt : ∀ n, ((ps.take n).filter fun p => decide (p.1.1 = h)).length ≤ n := fun n => Nat.le_trans (List.length_filter_le _ _) (by rw [List.length_take]; omega)
    refine ⟨d, _, e_d1, fun o => ⟨_, rfl, d, o, _, rfl, upd_same, ?_⟩⟩
    refine comp_dictT (fun i ys H' => Same (upd H1 d (.frz o (.dT (tvOf ps)))) H' ∧ i ≤ ps.length ∧ ys = (idx h (ps.take i)).map V.int) ⟨Same.refl _, Nat.zero_le _, rfl⟩ ?_ ?_ ?_ ?_
    · rintro i ys H' ⟨g5, _⟩
      exact g5 _ _ upd_same
    · rintro n p0 b ys H5 C hp0 e_b ⟨g5, _, rfl⟩ hC
      obtain ⟨p, hp5, rfl⟩ := tv_get hp0
      have il : n < ps.length := (List.getElem?_eq_some_iff.mp hp5).1
      have fl := filt n
      have e_b : H5 b = some (.tup [.int p.1.1, .int p.1.2]) := e_b
      have tk := take_one hp5
      refine ⟨small_lt (by unfold idx; rw [List.length_map, List.length_map]; omega), b, _, rfl, SqT.of e_b, rfl, _, _, rfl, _, _, rfl, rfl, Wk.refl _, _, rfl, _, rfl, rfl, _, rfl, ?_⟩
      by_cases same : p.1.1 = h
      · rw [decide_eq_true (by rw [same])]
        refine iteT ⟨_, rfl, _, _, rfl, rfl, ⟨by decide, by decide⟩, hC _ _ ⟨g5, il, ?_⟩⟩
        unfold idx
        rw [tk, List.filter_append, List.filter_cons, if_pos (decide_eq_true same), List.map_append, List.map_append]
        rfl
      · rw [decide_eq_false (fun z => same (V.int.inj z))]
        refine iteF (hC _ _ ⟨g5, il, ?_⟩)
        unfold idx
        rw [tk, List.filter_append, List.filter_cons, if_neg (by simpa using same), List.filter_nil, List.append_nil]
    · rintro i ys H' ⟨_, hl, rfl⟩
      have fl := filt i
      exact small_lt (by unfold idx; rw [List.length_map, List.length_map]; omega)
    rintro ys H5 ⟨g5, _, rfl⟩
    rw [tvOf_len, List.take_length]
    have fl := filt ps.length
    rw [List.take_length] at fl
    refine ⟨small_le (by unfold idx; rw [List.length_map, List.length_map]; omega), fun p n_p => ?_⟩
    have pd : p ≠ d := fun z => by rw [z, g5 _ _ upd_same] at n_p; cases n_p
    have g6 := g5.trans (same_laid n_p (.lst ((idx h ps).map V.int)))
    have sz := thaw_same e_d1 g6
    have e_p : (upd (upd H5 p (.lst ((idx h ps).map V.int))) d (.dT (tvOf ps))) p = some (.lst ((idx h ps).map V.int)) := by rw [upd_ne pd]; exact upd_same
    refine ⟨g6 _ _ upd_same, ?_⟩
    generalize upd (upd H5 p _) d _ = H6 at sz e_p ⊢
    have il : (idx h ps).length ≤ ps.length := by unfold idx; rw [List.length_map]; omega
    have ul := uniI_len (idx h ps)
    refine ⟨p, _, rfl, SqL.of e_p, by omega, ?_⟩
    have gg := g1.trans sz
    clear sz g6 g5 n_p pd
    intro q n_q
    generalize hz : upd _ q _ = H7
    have gz := laid_same hz n_q
    have e_q := laid_at hz
    clear hz
    have gg := gg.trans gz
    refine ⟨q, _, rfl, e_q, by omega, ?_⟩
    intro l n_l
    generalize hz : upd _ l _ = H8
    have gz := laid_same hz n_l
    have e_l := laid_at hz
    clear hz
    have gg := gg.trans gz
    have jm : ∀ j, j ∈ srtI (uniI (idx h ps)) ↔ ∃ k ∈ ps.map (·.1), k.1 = h ∧ k.2 / 2 = j := fun j => by rw [(srtI_perm _).mem_iff, uniI_mem, idx_mem]
    have jw := srtI_pw (uniI (idx h ps))
    generalize srtI (uniI (idx h ps)) = js at e_l jm jw
    clear e_q ul il e_p fl
    refine ⟨l, rfl, ⟨_, SqL.of e_l⟩, ?_⟩
    refine for_listH (xs := js.map V.int) (fun n σ H' => ∃ o4 o5 o6 o7 o8 o9 o10 : Option V, σ = [some (.ref d), some (.int deep), some (.int bar), some (.int h), o4, o5, o6, o7, o8, o9, o10] ∧ Same H8 H' ∧ ∀ (m : Nat) (j : Int), m < n → js[m]? = some j → bar < jn ps h j) ⟨_, _, _, _, _, _, _, rfl, Same.refl _, fun m _ hm => absurd hm (Nat.not_lt_zero m)⟩ ?_ ?_ ?_
    · rintro n σ H' _ ⟨_, _, _, _, _, _, _, _, g, _⟩
      exact SqL.of (g _ _ e_l)
    · rintro n x σ H2 N2 B2 R2 hN2 hR2 hx ⟨o4, o5, o6, o7, o8, o9, o10, rfl, g2, bef2⟩
      rw [List.getElem?_map] at hx
      obtain ⟨j, hj, rfl⟩ := Option.map_eq_some_iff.mp hx
      have g8 := gg
      have gg := gg.trans g2
      have e_d2 := gg _ _ e_d
      have e_l2 := g2 _ _ e_l
      have gk : Same H2 H2 := Same.refl _
      refine ⟨_, rfl, _, _, rfl, rfl, _, rfl, leN rfl, ?_⟩
      intro u n_u
      generalize hz : upd _ u _ = G1
      have gz := laid_same hz n_u
      have e_u := laid_at hz
      clear hz
      have gg := gg.trans gz
      have e_d2 := gz _ _ e_d2
      have gk := gk.trans gz
      refine ⟨_, rfl, _, rfl, _, _, rfl, rfl, Or.inl ⟨by decide, by decide⟩, leN rfl, ?_⟩
      intro a n_a
      generalize hz : upd _ a _ = G2
      have gz := laid_same hz n_a
      have e_a := laid_at hz
      clear hz
      have gg := gg.trans gz
      have e_d2 := gz _ _ e_d2
      have e_u := gz _ _ e_u
      have gk := gk.trans gz
      refine ⟨_, rfl, _, rfl, _, _, rfl, rfl, Or.inl ⟨by decide, by decide⟩, _, _, rfl, rfl, leN rfl, ?_⟩
      intro b n_b
      generalize hz : upd _ b _ = G3
      have gz := laid_same hz n_b
      have e_b := laid_at hz
      clear hz
      have gg := gg.trans gz
      have e_d2 := gz _ _ e_d2
      have e_u := gz _ _ e_u
      have e_a := gz _ _ e_a
      have gk := gk.trans gz
      refine ⟨leN rfl, ?_⟩
      intro pr n_pr
      generalize hz : upd _ pr _ = G4
      have gz := laid_same hz n_pr
      have e_pr := laid_at hz
      clear hz
      have gg := gg.trans gz
      have e_d2 := gz _ _ e_d2
      have e_u := gz _ _ e_u
      have e_a := gz _ _ e_a
      have e_b := gz _ _ e_b
      have gk := gk.trans gz
      have e_a : KAt G4 a (loK h j) := e_a
      have e_b : KAt G4 b (hiK h j) := e_b
      have e_u : KAt G4 u (upK h j) := e_u
      refine ⟨⟨.inl rfl, .inl rfl, .inl rfl, .inl rfl, .inl rfl, .inl rfl, .inl rfl, .inl rfl, .inl rfl, .inr rfl, .inl rfl, trivial⟩, ?_⟩
      refine ⟨_, rfl, _, rfl, leN rfl, ?_⟩
      intro pt n_pt
      generalize hz : upd _ pt _ = G5
      have gz := laid_same hz n_pt
      have e_pt := laid_at hz
      clear hz
      have gg := gg.trans gz
      have e_d2 := gz _ _ e_d2
      have e_u := gz _ _ e_u
      have e_a := gz _ _ e_a
      have e_b := gz _ _ e_b
      have e_pr := gz _ _ e_pr
      have gk := gk.trans gz
      refine ⟨pr, pt, _, _, rfl, rfl, e_pr, e_pt, leN rfl, ?_⟩
      intro pc n_pc
      generalize hz : upd _ pc _ = G6
      have gz := laid_same hz n_pc
      have e_pc := laid_at hz
      clear hz
      have gg := gg.trans gz
      have e_d2 := gz _ _ e_d2
      have e_u := gz _ _ e_u
      have e_a := gz _ _ e_a
      have e_b := gz _ _ e_b
      have e_pr := gz _ _ e_pr
      have gk := gk.trans gz
      refine ⟨pc, rfl, ⟨_, SqL.of e_pc⟩, ?_⟩
      refine comp_list (xs := [.ref a, .ref b, .ref u]) (fun n ys H' => H' = G6 ∧ ys = ([cnt ps (loK h j), cnt ps (hiK h j), cnt ps (upK h j)].take n).map V.int) ⟨rfl, rfl⟩ ?_ ?_ ?_
      · rintro n ys H' _ ⟨rfl, _⟩
        exact SqL.of e_pc
      · rintro n x ys H' C hx ⟨rfl, rfl⟩ hC
        obtain ⟨o, ko, rfl, e_o, tk, n3⟩ : ∃ (o : Addr) (ko : Int × Int), x = .ref o ∧ KAt H' o ko ∧ ([cnt ps (loK h j), cnt ps (hiK h j), cnt ps (upK h j)].take (n + 1)).map V.int = ([cnt ps (loK h j), cnt ps (hiK h j), cnt ps (upK h j)].take n).map V.int ++ [V.int (cnt ps ko)] ∧ n < 3 := by
          match n, hx with
          | 0, hx => cases hx; exact ⟨a, _, rfl, e_a, rfl, by decide⟩
          | 1, hx => cases hx; exact ⟨b, _, rfl, e_b, rfl, by decide⟩
          | 2, hx => cases hx; exact ⟨u, _, rfl, e_u, rfl, by decide⟩
          | n + 3, hx => simp at hx
        refine ⟨small_lt (by rw [List.length_map, List.length_take]; omega), Wk.refl _, ?_⟩
        refine ⟨_, rfl, d, rfl, .inr ⟨_, .inl e_d2⟩, _, rfl, _, get_int e_d2 e_o, ?_⟩
        rw [cnt_look]
        exact hC _ _ ⟨rfl, tk.symm⟩
      rintro ys H' ⟨rfl, rfl⟩
      refine ⟨leN rfl, ?_⟩
      intro sl n_sl
      generalize hz : upd _ sl _ = G7
      have gz := laid_same hz n_sl
      have e_sl := laid_at hz
      clear hz
      have gg := gg.trans gz
      have e_d2 := gz _ _ e_d2
      have e_u := gz _ _ e_u
      have e_a := gz _ _ e_a
      have e_b := gz _ _ e_b
      have e_pr := gz _ _ e_pr
      have gk := gk.trans gz
      refine ⟨sl, _, rfl, SqL.of e_sl, ?_⟩
      have ej : (List.take [V.ref a, V.ref b, V.ref u].length [cnt ps (loK h j), cnt ps (hiK h j), cnt ps (upK h j)]).sum = jn ps h j := by
        show [cnt ps (loK h j), cnt ps (hiK h j), cnt ps (upK h j)].sum = _
        unfold jn
        rw [List.sum_cons, List.sum_cons, List.sum_cons, List.sum_nil]
        omega
      rw [ej]
      clear ej e_sl
      refine ⟨_, rfl, _, rfl, _, _, rfl, rfl, _, rfl, ite2 (fun c => ?_) (fun c => ?_)⟩
      · have ft : Fst deep bar ps h j := by
          obtain ⟨k, hk, k1, k2⟩ := (jm j).mp (List.mem_of_getElem? hj)
          refine ⟨?_, by omega, of_decide_eq_true c, fun k hk h1 h2 => ?_⟩
          · rcases in_pair k with e | e
            · rw [k1, k2] at e; exact .inl (by rw [← e]; exact hk)
            · rw [k1, k2] at e; exact .inr (by rw [← e]; exact hk)
          · rcases Int.lt_trichotomy h k.1 with z | z | z
            · exact .inl z
            · refine .inr ⟨z, ?_⟩
              obtain ⟨m, hm⟩ := List.getElem?_of_mem ((jm (k.2 / 2)).mpr ⟨k, hk, z.symm, rfl⟩)
              rcases Nat.lt_trichotomy m n with y | y | y
              · have := bef2 m _ y hm
                rw [z] at this
                omega
              · rw [y, hj] at hm
                cases hm
                exact Int.le_refl _
              · exact pw_at jw hj hm y
            · have := bef k hk (by omega)
              omega
        have gd : Grw d H G7 := fun x w e => by
          obtain ⟨e1, e2⟩ := hide_some e
          rw [hide_ne e1]
          exact gg _ _ e2
        clear bef bef2 hN hN2 jm jw hj
        refine ⟨⟨.inl rfl, .inl rfl, .inl rfl, .inl rfl, .inl rfl, .inl rfl, .inl rfl, .inl rfl, .inl rfl, .inr rfl, .inl rfl, trivial⟩, _, rfl, pr, rfl, ⟨_, SqL.of e_pr⟩, ?_⟩
        refine comp_list (xs := [.ref a, .ref b]) (fun n ys H' => n ≤ 2 ∧ Same G7 H' ∧ ∃ as : List Addr, ys = as.map V.ref ∧ Paired (FT H') as (tjs ps h j n)) ⟨by decide, Same.refl _, [], rfl, .nil⟩ ?_ ?_ ?_
        · rintro n ys H' _ ⟨_, g, _⟩
          exact SqL.of (g _ _ e_pr)
        · rintro n x ys H' C hx ⟨_, g, as, rfl, pf⟩ hC
          obtain ⟨o, ko, rfl, e_o, tk, n2⟩ : ∃ (o : Addr) (ko : Int × Int), x = .ref o ∧ KAt H' o ko ∧ tjs ps h j (n + 1) = tjs ps h j n ++ told1 ps ko ∧ n < 2 := by
            match n, hx with
            | 0, hx => cases hx; exact ⟨a, _, rfl, g _ _ e_a, rfl, by decide⟩
            | 1, hx => cases hx; exact ⟨b, _, rfl, g _ _ e_b, rfl, by decide⟩
            | n + 2, hx => simp at hx
          have al := Paired.length pf
          have tl : (tjs ps h j n).length ≤ n := by
            match n, n2 with
            | 0, _ => exact Nat.le_refl _
            | 1, _ => show (told1 ps (loK h j)).length ≤ 1; unfold told1; split <;> simp
          rw [tk] at hC
          generalize tjs ps h j n = ts at pf hC al tl
          refine ⟨small_lt (by rw [List.length_map]; omega), Wk.refl _, ?_⟩
          refine ⟨_, rfl, _, rfl, d, _, rfl, get_int (g _ _ e_d2) e_o, _, rfl, ite2 (fun cc => ?_) (fun cc => ?_)⟩
          · have kin := look_mem.mp cc
            have et : told1 ps ko = [(ko, cnt ps ko)] := by unfold told1; rw [if_pos kin]
            rw [et] at hC
            have gm : DGet H' d (.ref o) (some (.int (cnt ps ko))) := by rw [← look_key kin]; exact get_int (g _ _ e_d2) e_o
            refine ⟨_, rfl, _, rfl, _, rfl, d, _, rfl, gm, leN rfl, fun q nq => hC _ _ ⟨n2, g.trans (same_laid nq _), as ++ [q], by rw [List.map_append]; rfl, Paired.snoc (Paired.mapP pf fun _ _ f => ft_mono (same_laid nq _) f) ⟨o, upd_same, same_laid nq _ _ _ e_o⟩⟩⟩
          · have kin : ko ∉ ps.map (·.1) := fun z => cc (look_mem.mpr z)
            have et : told1 ps ko = [] := by unfold told1; rw [if_neg kin]
            rw [et, List.append_nil] at hC
            exact hC _ _ ⟨n2, g, as, rfl, pf⟩
        rintro ys H' ⟨_, gs, as, rfl, pf⟩
        have pf : Paired (FT H') as (flP ps h j) := pf
        have al := Paired.length pf
        have tl := fl_two ps h j
        refine ⟨small_le (by rw [List.length_map]; omega), fun T n_T => ⟨⟨.inl rfl, .inl rfl, .inl rfl, .inl rfl, .inl rfl, .inl rfl, .inl rfl, .inl rfl, .inl rfl, .inr rfl, .inl rfl, trivial⟩, ?_⟩⟩
        have sT := same_laid n_T (.lst (as.map V.ref))
        have e_T : (upd H' T (.lst (as.map V.ref))) T = some (.lst (as.map V.ref)) := upd_same
        have nHT : H T = none := gg.free (gs.free n_T)
        have pf := Paired.mapP pf fun _ _ f => ft_mono sT f
        have gs := gs.trans sT
        generalize upd H' T (.lst (as.map V.ref)) = G8 at pf gs e_T ⊢
        have e_d3 := gs _ _ e_d2
        have e_u3 : KAt G8 u (upK h j) := gs _ _ e_u
        have gd := gd.trans (Same.grw gs)
        have fnd := fl_nd ps h j
        have fin := fl_in ps h j
        have fdr := fl_drop ps h j
        dsimp only
        refine seq_post (fun σ' H' => ∃ o9 o10 : Option V, σ' = [some (.ref d), some (.int deep), some (.int bar), some (.int h), some (.int j), some (.ref u), some (.ref pr), some (.int (jn ps h j)), some (.ref T), o9, o10] ∧ Grw d G8 H' ∧ H' d = some (.dT (tvOf (dropS (dropS ps (loK h j)) (hiK h j))))) ?_ ?_
        · intro nx hnx
          rw [← fdr] at hnx
          generalize flP ps h j = fs at pf al tl fnd fin hnx
          refine ⟨_, rfl, T, rfl, ⟨_, SqL.of e_T⟩, ?_⟩
          refine for_listH (xs := as.map V.ref) (fun n σ H' => ∃ o9 o10 : Option V, σ = [some (.ref d), some (.int deep), some (.int bar), some (.int h), some (.int j), some (.ref u), some (.ref pr), some (.int (jn ps h j)), some (.ref T), o9, o10] ∧ Grw d G8 H' ∧ H' d = some (.dT (tvOf (drops ps (fs.take n))))) ⟨_, _, rfl, Grw.refl, e_d3⟩ ?_ ?_ ?_
          · rintro n σ H' _ ⟨_, _, _, g, _⟩
            exact SqL.of (g.lst e_d3 e_T)
          · rintro n x σ H' N3 B3 R3 hN3 hR3 hx ⟨o9, o10, rfl, g, e_dn⟩
            obtain ⟨fa, p, rfl, hp, kb, e_fa, e_kb⟩ := ft_get pf hx
            have e_fa := g.tup e_d3 e_fa
            have e_kb := g.tup e_d3 e_kb
            refine ⟨fa, _, rfl, SqT.of e_fa, rfl, _, _, rfl, _, _, rfl, rfl, ?_⟩
            have lk : lookO (drops ps (fs.take n)) p.1 = some (.int p.2) := by
              rw [look_drops, if_neg fun z => ?_]
              · exact fin p (List.mem_of_getElem? hp)
              · obtain ⟨m, hm⟩ := List.getElem?_of_mem z
                rw [List.getElem?_map, List.getElem?_take] at hm
                split at hm
                · obtain ⟨p', hp', e⟩ := Option.map_eq_some_iff.mp hm
                  have := pw_at fnd (i := m) (j := n) (a := p'.1) (b := p.1) (by rw [List.getElem?_map, hp']; rfl) (by rw [List.getElem?_map, hp]; rfl) (by assumption)
                  exact this e
                · cases hm
            refine ⟨_, rfl, tyV_dT e_dn, _, rfl, d, kb, _, kk p.1, _, rfl, rfl, e_dn, e_kb, lk, ?_⟩
            refine hN3 _ _ ⟨_, _, rfl, g.trans grw_upd, ?_⟩
            rw [drops_step hp, drop_tv]
            exact upd_same
          · rintro σ H' ⟨o9, o10, rfl, g, e_dn⟩
            rw [List.length_map, al, List.take_length] at e_dn
            exact hnx _ _ ⟨_, _, rfl, g, e_dn⟩
        rintro σ' G9 ⟨o9, o10, rfl, g9, e_d9⟩
        have dl : (dropS (dropS ps (loK h j)) (hiK h j)).length ≤ ps.length := Nat.le_trans (drop_len _ _) (drop_len _ _)
        refine ⟨_, rfl, _, rfl, _, rfl, d, _, rfl, DPut.t (k := kk (upK h j)) e_d9 (g9.tup e_d3 e_u3) (small_lt (by rw [tvOf_len]; omega)), ?_⟩
        refine ⟨_, rfl, hR2 _ _ (hR _ _ (hq1 h j T _ ft (gd.trans (g9.trans grw_upd)) nHT ?_ ⟨as, ?_, ?_⟩))⟩
        · unfold stepL
          rw [← put_tv]
          exact upd_same
        · exact Grw.lst (d := d) (g9.trans grw_upd) e_d3 e_T
        · exact Paired.mapP pf fun _ _ ⟨y, e1, e2⟩ => ⟨y, Grw.tup (d := d) (g9.trans grw_upd) e_d3 e1, Grw.tup (d := d) (g9.trans grw_upd) e_d3 e2⟩
      · refine hN2 _ _ ⟨_, _, _, _, _, _, _, rfl, g2.trans gk, fun m j' hm e => ?_⟩
        rcases Nat.lt_succ_iff_lt_or_eq.mp hm with z | z
        · exact bef2 m j' z e
        · rw [z, hj] at e
          cases e
          have := of_decide_eq_false (Bool.eq_false_iff.mpr c)
          omega
    · rintro σ H2 ⟨o4, o5, o6, o7, o8, o9, o10, rfl, g2, all2⟩
      refine hN _ _ ⟨_, _, _, _, _, _, _, _, rfl, gg.trans g2, fun k hk z => ?_⟩
      rcases Int.lt_or_le k.1 h with y | y
      · exact bef k hk (by omega)
      · have kh : k.1 = h := by omega
        obtain ⟨m, hm⟩ := List.getElem?_of_mem ((jm (k.2 / 2)).mpr ⟨k, hk, kh, rfl⟩)
        rw [kh]
        refine all2 m _ ?_ hm
        rw [List.length_map]
        exact (List.getElem?_eq_some_iff.mp hm).1
  · rintro σ H2 ⟨o3, o4, o5, o6, o7, o8, o9, o10, rfl, g2, all⟩
    refine ⟨_, (@pss_one _ _ _ (@ps_ret _ _ _ _ (@pe_lst _ _ _ _ pa_nil))), leN rfl, fun l nl => hq0 l _ (fun k hk z => all k hk (by omega)) (g2.trans (same_laid nl _)) (g2.free nl) upd_same⟩
end
end K22

namespace K22
open PySem L2 Ld
theorem FsAt.grw {d l : Addr} {H H' : Hp} {kvs : List (List Key × V)} {fs : Sps} (g : Grw d H H') (ed : H d = some (.dT kvs)) (h : FsAt H l fs) : FsAt H' l fs := by
  obtain ⟨as, e, p⟩ := h
  exact ⟨as, Grw.lst (d := d) g ed e, Paired.mapP p fun _ _ ⟨y, e1, e2⟩ => ⟨y, Grw.tup (d := d) g ed e1, Grw.tup (d := d) g ed e2⟩⟩
def foldD (p : (Int × Int) × Int) : PyData := .tuple [.tuple [.int p.1.1, .int p.1.2], .int p.2]
def foldsD (fs : Sps) : List PyData := fs.map foldD
theorem ft_dv {H : Hp} {a : Addr} {p : (Int × Int) × Int} (h : FT H a p) : DV H (.ref a) (foldD p) := by
  obtain ⟨b, e1, e2⟩ := h
  exact .tup e1 (.cons (.tup e2 (.cons (.int _) (.cons (.int _) .nil))) (.cons (.int _) .nil))
theorem fts_dv {H : Hp} : ∀ {as : List Addr} {fs : Sps}, Paired (FT H) as fs → DVs H (as.map V.ref) (foldsD fs)
  | _, _, .nil => .nil
  | _, _, .cons e r => .cons (ft_dv e) (fts_dv r)
theorem fold_lay (p : (Int × Int) × Int) : (foldD p).canLay0 = true ∧ (foldD p).depth ≤ 4 := by
  unfold foldD
  refine ⟨?_, ?_⟩
  · simp [PyData.canLay0, PyData.canLayAll0]
  · simp [PyData.depth, PyData.depthAll]
theorem folds_lay (fs : Sps) : (PyData.list (foldsD fs)).canLay0 = true ∧ (PyData.list (foldsD fs)).depth ≤ 5 := lay_list fs fun p _ => fold_lay p
theorem FsAt.dv {H : Hp} {l : Addr} {fs : Sps} (h : FsAt H l fs) : DV H (.ref l) (.list (foldsD fs)) := by
  obtain ⟨as, e, p⟩ := h
  exact .lst e (fts_dv p)
theorem nil_lay : (PyData.list []).canLay0 = true ∧ (PyData.list []).depth ≤ 5 := ⟨rfl, by decide⟩
theorem folds_emp (fs : Sps) : (foldsD fs).isEmpty = true ↔ fs = [] := by
  unfold foldsD
  cases fs <;> simp
def spSett : Sp := fun vs H Q _ => ∃ (d : Addr) (room deep : Int) (ps : Sps), vs = [.ref d, .int room, .int deep] ∧ H d = some (.dT (tvOf ps)) ∧ Kok deep (ps.map (·.1)) ∧ 1 ≤ room ∧ room ≤ 20 ∧ 0 ≤ deep ∧ deep ≤ 20 ∧ ps.length < 64 ∧
  ∀ (t : Addr) (H' : Hp) (fs qs : Sps), Grw d H H' → H t = none → H' d = some (.dT (tvOf qs)) → FsAt H' t fs → fs.length ≤ 1400 → Stl deep (sumS ps / room) ps fs qs → Kok deep (qs.map (·.1)) → qs.length ≤ ps.length → Q (.ref t) H'
theorem tv_vals (ps : Sps) : (tvOf ps).map (·.2) = (ps.map (·.2)).map V.int := by
  unfold tvOf
  rw [List.map_map, List.map_map]
  rfl
def muS (deep : Int) (d : Addr) (σ : St) (H : Hp) : Nat := 2 * muD deep d H + match List.getD σ 5 none with
  | some (V.ref l) => (match H l with
    | some (HO.lst []) => 0
    | _ => 1)
  | _ => 1
theorem muS_le (deep : Int) (d : Addr) (σ : St) (H : Hp) : muS deep d σ H ≤ 2 * muD deep d H + 1 := by
  unfold muS
  refine Nat.add_le_add_left ?_ _
  split
  · split <;> omega
  · omega
theorem mus_some {deep room bar : Int} {d t l : Addr} {H : Hp} {ss : Sps} (h : FsAt H l ss) (n : ss ≠ []) : muS deep d [some (V.ref d), some (V.int room), some (V.int deep), some (V.int bar), some (V.ref t), some (V.ref l)] H = 2 * muD deep d H + 1 := by
  obtain ⟨as, e, p⟩ := h
  unfold muS
  show 2 * muD deep d H + (match H l with
    | some (HO.lst []) => 0
    | _ => 1) = _
  rw [e]
  cases p with
  | nil => exact absurd rfl n
  | cons _ _ => rfl
theorem mus_none {deep room bar : Int} {d t l : Addr} {H : Hp} (h : H l = some (.lst [])) : muS deep d [some (V.ref d), some (V.int room), some (V.int deep), some (V.int bar), some (V.ref t), some (V.ref l)] H = 2 * muD deep d H := by
  unfold muS
  show 2 * muD deep d H + (match H l with
    | some (HO.lst []) => 0
    | _ => 1) = _
  rw [h]
  rfl
theorem app_pair {α β : Type} {F : α → β → Prop} : ∀ {xs : List α} {ys : List β} {as : List α} {bs : List β}, Paired F xs ys → Paired F as bs → Paired F (xs ++ as) (ys ++ bs)
  | _, _, _, _, .nil, h => h
  | _, _, _, _, .cons e r, h => .cons e (app_pair r h)
theorem fl_nnil {ps : Sps} {h j : Int} (i : loK h j ∈ ps.map (·.1) ∨ hiK h j ∈ ps.map (·.1)) : flP ps h j ≠ [] := fun z => by
  have := fl_pos i
  rw [z] at this
  cases this
/-- what holds while the law settles -/
structure Lsg (H H' : Hp) (d t l : Addr) (deep bar : Int) (n0 M : Nat) (ps qs fs ss : Sps) : Prop where
  g : Grw d H H'
  ed : H' d = some (.dT (tvOf qs))
  nt : H t = none
  et : FsAt H' t fs
  el : FsAt H' l ss
  ok : Kok deep (qs.map (·.1))
  le : qs.length ≤ n0
  few : fs.length + ss.length + mea deep (qs.map (·.1)) ≤ M
  alt : (ss = [] ∧ Nof deep bar qs ∧ Way deep bar ps fs qs) ∨ (ss ≠ [] ∧ Way deep bar ps (fs ++ ss) qs)
section
variable {P : Program} {w : World} {K : PySem.W.Frag} {mg : Str → Option Value} {base : Heap} {f : Addr} {fd : FuncData}
theorem ok_sett (z_sum : mg "sum" = none) (z_list : mg "list" = none) (h_l_fold_once : Has P w K mg base "_law_fold_once" 1 ["_law_now", "_law_deep", "_law_bar"] spFon) (F : Fun K "_law_settle" "_law_settle" s_l_settle f fd) : FnOk P w K mg base CX0 2 f fd ["_law_now", "_law_room", "_law_deep"] spSett := by
  refine F.ok sc_l_settle (fun vs H Q E h => ?_) (fun cdv A outer s H vs Q E hr h => ?_)
  · obtain ⟨d, room, deep, ps, rfl, _⟩ := h
    rfl
  obtain ⟨d, room, deep, ps, rfl, e_d, kok, r0, r1, d0, d1, pl, hq⟩ := h
  refine ⟨_, (@pss_cons _ _ _ _ _ (@ps_set _ _ 3 _ _ _ _ sc_l_settle.nd rfl (Or.inl rfl) (@pe_op _ _ _ _ _ _ _ _ op_fdiv (pe_callB (call_sum rfl) rfl z_sum PyProof.Rows.boot_sum (@pa_cons _ _ _ _ _ (pe_callTy (call_listVT rfl) rfl z_list PyProof.Rows.boot_list (@pa_cons _ _ _ _ _ (pe_bm0 PySem.F.plainAttrs_dict PySem.F.slot_dict_values PySem.F.type_dict_values mt_valuesT (pv 0)) pa_nil (by rfl))) pa_nil (by rfl))) (pv 1)) (by rfl) (by first | exact .inl rfl | exact .inr rfl)) pss_run), ?_⟩
  have gg : Same H H := Same.refl _
  refine ⟨_, rfl, tyV_dT e_d, d, _, rfl, rfl, e_d, ?_⟩
  intro v n_v
  generalize hz : upd _ v _ = H1
  have gz := laid_same hz n_v
  have e_v := laid_at hz
  clear hz
  have gg := gg.trans gz
  have e_d := gz _ _ e_d
  refine ⟨v, d, _, rfl, e_v, e_d, ?_⟩
  rw [tv_vals]
  intro w2 n_w2
  generalize hz : upd _ w2 _ = H2
  have gz := laid_same hz n_w2
  have e_w2 := laid_at hz
  clear hz
  have gg := gg.trans gz
  have e_d := gz _ _ e_d
  refine ⟨w2, _, rfl, SqL.of e_w2, _, rfl, _, _, rfl, rfl, ⟨by omega, by omega⟩, ?_⟩
  show tRun _ _ _ [_, _, _, some (V.int (sumS ps / room)), _, _] _
  generalize hbar : sumS ps / room = bar at hq ⊢
  refine ⟨_, (@pss_cons _ _ _ _ _ (@ps_set _ _ 4 _ _ _ _ sc_l_settle.nd rfl (Or.inl rfl) (@pe_lst _ _ _ _ pa_nil) (by rfl) (by first | exact .inl rfl | exact .inr rfl)) pss_run), leN rfl, ?_⟩
  intro t n_t
  generalize hz : upd _ t _ = H3
  have gz := laid_same hz n_t
  have e_t := laid_at hz
  clear hz
  have gg := gg.trans gz
  have e_d := gz _ _ e_d
  have nt : H t = none := (by assumption : Same H H2).free n_t
  have m0 : mea deep (ps.map (·.1)) ≤ 21 * ps.length := by
    have := mea_le d1 (ks := ps.map (·.1)) fun k hk => (kok.st k hk).1
    rwa [List.length_map] at this
  have ft : FsAt H3 t [] := ⟨[], e_t, .nil⟩
  clear e_v e_w2 e_t
  refine ⟨_, (@pss_cons _ _ _ _ _ (@ps_set _ _ 5 _ _ _ _ sc_l_settle.nd rfl (Or.inl rfl) (pe_callH h_l_fold_once hr (@pa_cons _ _ _ _ _ (pv 0) (@pa_cons _ _ _ _ _ (pv 2) (@pa_cons _ _ _ _ _ (pv 3) pa_nil (by rfl)) (by rfl)) (by rfl))) (by rfl) (by first | exact .inl rfl | exact .inr rfl)) pss_run), ?_⟩
  refine seq_post (fun σ' H' => ∃ (l : Addr) (qs ss : Sps), σ' = [some (.ref d), some (.int room), some (.int deep), some (.int bar), some (.ref t), some (.ref l)] ∧ Lsg H H' d t l deep bar ps.length (mea deep (ps.map (·.1))) ps qs [] ss) ?_ ?_
  · intro nx hnx
    refine ⟨_, rfl, _, rfl, _, rfl, d, deep, bar, ps, rfl, e_d, kok, d0, d1, pl, fun l H' nof g nl el => hnx _ _ ⟨l, ps, [], rfl, ⟨Same.grw (gg.trans g), g _ _ e_d, nt, ft.same g, ⟨[], el, .nil⟩, kok, Nat.le_refl _, by simp, .inl ⟨rfl, nof, Way.refl⟩⟩⟩, fun h j l H' fst g nl ed fl => hnx _ _ ⟨l, stepL ps h j, flP ps h j, rfl, ?_⟩⟩
    have pm := step_LP kok.nd fst.in_
    have so := stepP_ok (j := j) kok fst.hd
    exact ⟨(Same.grw gg).trans g, ed, nt, ft.grw g e_d, fl, so.1.perm (pm.map _), by rw [pm.length_eq]; exact so.2.2, by rw [mea_perm (pm.map _)]; have := so.2.1; rw [List.length_nil]; omega, .inr ⟨fl_nnil fst.in_, Way.refl.snoc fst pm⟩⟩
  clear ft e_d gg
  rintro σ' H4 ⟨l, qs, ss, rfl, lg⟩
  generalize hM : mea deep (ps.map (·.1)) = M at lg m0
  refine ⟨_, (@pss_cons _ _ _ _ _ (ps_while PassesOwn.never (@pt_cmpR _ _ _ _ _ _ _ _ (op_neD hr.units) (pv 5) (@pe_lst _ _ _ _ pa_nil) (nomark _)) (@pss_cons _ _ _ _ _ (@ps_set _ _ 4 _ _ _ _ sc_l_settle.nd rfl (Or.inl rfl) (@pe_op _ _ _ _ _ _ _ _ op_cat (pv 4) (pv 5)) (by rfl) (by first | exact .inl rfl | exact .inr rfl))
  (@pss_one _ _ _ (@ps_set _ _ 5 _ _ _ _ sc_l_settle.nd rfl (Or.inl rfl) (pe_callH h_l_fold_once hr (@pa_cons _ _ _ _ _ (pv 0) (@pa_cons _ _ _ _ _ (pv 2) (@pa_cons _ _ _ _ _ (pv 3) pa_nil (by rfl)) (by rfl)) (by rfl))) (by rfl) (by first | exact .inl rfl | exact .inr rfl))))) pss_run), ?_⟩
  refine while_by (fun σ H' => ∃ (t l : Addr) (qs fs ss : Sps), σ = [some (.ref d), some (.int room), some (.int deep), some (.int bar), some (.ref t), some (.ref l)] ∧ Lsg H H' d t l deep bar ps.length M ps qs fs ss) (muS deep d) ⟨t, l, qs, [], ss, rfl, lg⟩ ?_ ?_
  · clear nt n_t
    rintro σ H5 ⟨t, l, qs, fs, ss, rfl, lg⟩
    refine ⟨_, rfl, leN rfl, fun p np => ?_⟩
    have sp := same_laid np (.lst [])
    have e_p : (upd H5 p (.lst [])) p = some (.lst []) := upd_same
    have mu5 : muD deep d H5 = mea deep (qs.map (·.1)) := muD_at lg.ed
    have ms := mus_some (deep := deep) (d := d) (room := room) (bar := bar) (t := t) lg.el
    have g6 := lg.g.trans (Same.grw sp)
    have ed6 := sp _ _ lg.ed
    have et6 := lg.et.same sp
    have el6 := lg.el.same sp
    have ok6 := lg.ok
    have le6 := lg.le
    have few6 := lg.few
    have alt6 := lg.alt
    have nt6 := lg.nt
    generalize upd H5 p (.lst []) = H6 at e_p g6 ed6 et6 el6 ⊢
    refine ⟨_, _, el6.dv, .lst e_p .nil, shaped_of (folds_lay ss) (by decide), shaped_of nil_lay (by decide), _, rfl, ?_⟩
    rw [eqv_nil]
    rcases alt6 with ⟨rfl, nof, way⟩ | ⟨sn, way⟩
    · refine iteF ⟨_, (@pss_one _ _ _ (@ps_ret _ _ _ _ (pv 4))), _, rfl, ?_⟩
      exact hq t _ fs qs g6 nt6 ed6 et6 (by omega) (way.done nof) ok6 le6
    · have em : (foldsD ss).isEmpty = false := Bool.eq_false_iff.mpr fun z => sn ((folds_emp ss).mp z)
      rw [em]
      rw [mu5] at ms
      have ms := ms sn
      obtain ⟨as, e_t, pt⟩ := et6
      obtain ⟨bs, e_l, pb⟩ := el6
      have al := Paired.length pt
      have bl := Paired.length pb
      refine iteT ⟨_, rfl, _, rfl, t, l, _, _, rfl, rfl, e_t, e_l, small_le (by rw [List.length_map, List.length_map]; omega), fun u nu => ?_⟩
      have su := same_laid nu (.lst (as.map V.ref ++ bs.map V.ref))
      have fu : FsAt (upd H6 u (.lst (as.map V.ref ++ bs.map V.ref))) u (fs ++ ss) := ⟨as ++ bs, by rw [List.map_append]; exact upd_same, app_pair (Paired.mapP pt fun _ _ f => ft_mono su f) (Paired.mapP pb fun _ _ f => ft_mono su f)⟩
      have nu6 : H u = none := by
        by_cases z : u = d
        · rw [z, ed6] at nu; cases nu
        · cases e : H u with
          | none => rfl
          | some o =>
            have := (hide_some (g6 u o (by rw [hide_ne z]; exact e))).2
            rw [this] at nu
            cases nu
      have g6 := g6.trans (Same.grw su)
      have ed6 := su _ _ ed6
      generalize upd H6 u (.lst (as.map V.ref ++ bs.map V.ref)) = H7 at fu g6 ed6 ⊢
      clear e_t e_l pt pb
      refine ⟨_, rfl, _, rfl, _, rfl, d, deep, bar, qs, rfl, ed6, ok6, d0, d1, by omega, fun l' H' nof g nl el => ⟨⟨u, l', qs, fs ++ ss, [], rfl, ⟨g6.trans (Same.grw g), g _ _ ed6, nu6, fu.same g, ⟨[], el, .nil⟩, ok6, le6, by rw [List.length_append, List.length_nil]; omega, .inl ⟨rfl, nof, way⟩⟩⟩, ?_⟩, fun h j l' H' fst g nl ed fl => ⟨⟨u, l', stepL qs h j, fs ++ ss, flP qs h j, rfl, ?_⟩, ?_⟩⟩
      · have m1 : muD deep d H' = mea deep (qs.map (·.1)) := muD_at (g _ _ ed6)
        have := mus_none (deep := deep) (d := d) (room := room) (bar := bar) (t := u) el
        rw [m1] at this
        show muS deep d [some (V.ref d), some (V.int room), some (V.int deep), some (V.int bar), some (V.ref u), some (V.ref l')] H' < _
        omega
      · have pm := step_LP ok6.nd fst.in_
        have so := stepP_ok (j := j) ok6 fst.hd
        exact ⟨g6.trans g, ed, nu6, fu.grw g ed6, fl, so.1.perm (pm.map _), by rw [pm.length_eq]; have := so.2.2; omega, by rw [mea_perm (pm.map _), List.length_append]; have := so.2.1; omega, .inr ⟨fl_nnil fst.in_, way.snoc fst pm⟩⟩
      · have pm := step_LP ok6.nd fst.in_
        have so := stepP_ok (j := j) ok6 fst.hd
        have fp := fl_pos fst.in_
        have m1 : muD deep d H' = mea deep ((stepL qs h j).map (·.1)) := muD_at ed
        rw [mea_perm (pm.map _)] at m1
        have := muS_le deep d [some (V.ref d), some (V.int room), some (V.int deep), some (V.int bar), some (V.ref u), some (V.ref l')] H'
        show muS deep d [some (V.ref d), some (V.int room), some (V.int deep), some (V.int bar), some (V.ref u), some (V.ref l')] H' < _
        have := so.2.1
        omega
  · rintro σ H' Q1 Q2 m ⟨v, e, lN, h⟩
    exact ⟨v, e, lN, fun p np => let ⟨a, b, c1, c2, c3, c4, k, ek, r⟩ := h p np; ⟨a, b, c1, c2, c3, c4, k, ek, m _ _ r⟩⟩
end
end K22

namespace K22
open PySem L2 Ld
/-- counts of a ladder, each from 1 on -/
structure Pok (deep : Int) (ps : Sps) : Prop where
  kok : Kok deep (ps.map (·.1))
  pos : ∀ p ∈ ps, 1 ≤ p.2
theorem pok_put {deep : Int} {ps : Sps} {k : Int × Int} {n : Int} (h : Pok deep ps) (hk : 0 ≤ k.1 ∧ k.1 ≤ deep ∧ 0 ≤ k.2 ∧ k.2 < 2 ^ (deep - k.1).toNat) (hn : 1 ≤ n) : Pok deep (putS ps k n) := by
  refine ⟨⟨put_nd h.kok.nd, fun x hx => ?_⟩, fun p hp => ?_⟩
  · rw [put_keys] at hx
    split at hx
    · exact h.kok.st x hx
    · rcases List.mem_append.mp hx with hx | hx
      · exact h.kok.st x hx
      · rw [List.mem_singleton.mp hx]; exact hk
  · unfold putS at hp
    split at hp
    · obtain ⟨q, hq, rfl⟩ := List.mem_map.mp hp
      split
      · exact hn
      · exact h.pos q hq
    · rcases List.mem_append.mp hp with hp | hp
      · exact h.pos p hp
      · rw [List.mem_singleton.mp hp]; exact hn
theorem idx_in {deep h oh oi t : Int} (h0 : 0 ≤ h) (h1 : h ≤ oh) (h2 : oh ≤ deep) (i0 : 0 ≤ oi) (i1 : oi < 2 ^ (deep - oh).toNat) (t0 : 0 ≤ t) (t1 : t < 2 ^ (oh - h).toNat) : 0 ≤ oi * 2 ^ (oh - h).toNat + t ∧ oi * 2 ^ (oh - h).toNat + t < 2 ^ (deep - h).toNat := by
  have e : (deep - h).toNat = (deep - oh).toNat + (oh - h).toNat := by omega
  have p : (0 : Int) < 2 ^ (oh - h).toNat := by
    have a3 : ((2 ^ (oh - h).toNat : Nat) : Int) = (2 : Int) ^ (oh - h).toNat := by push_cast; rfl
    have a2 : 0 < (2 : Nat) ^ (oh - h).toNat := Nat.pow_pos (by decide)
    rw [← a3]
    omega
  rw [e, Int.pow_add]
  have q1 : 0 ≤ oi * 2 ^ (oh - h).toNat := Int.mul_nonneg i0 (by omega)
  have q2 : (oi + 1) * 2 ^ (oh - h).toNat ≤ 2 ^ (deep - oh).toNat * 2 ^ (oh - h).toNat := Int.mul_le_mul_of_nonneg_right (by omega) (by omega)
  rw [Int.add_mul, Int.one_mul] at q2
  omega
theorem pn_put {K : PySem.W.Frag} {S : Addr} {ns : List Int} {H : Hp} {a d : Addr} {kvs : List (List Key × V)} {o : HO} (h : Pn K S ns H a) (e : H d = some (.dT kvs)) : Pn K S ns (upd H d o) a := by
  obtain ⟨⟨i, r, ea⟩, s, f⟩ := h
  refine ⟨⟨i, r, by rw [upd_ne (ne_of ea e (by intro z; cases z))]; exact ea⟩, ?_, f⟩
  rcases s with (s | ⟨u, s⟩) | s
  · exact .inl (.inl (by rw [upd_ne (ne_of s e (by intro z; cases z))]; exact s))
  · exact .inl (.inr ⟨u, by rw [upd_ne (ne_of s e (by intro z; cases z))]; exact s⟩)
  · exact .inr s
def spCounts (K : PySem.W.Frag) : Sp := fun vs H Q _ => ∃ (a S : Addr) (ns : List Int) (deep most : Int), vs = [.ref a, .int deep, .int most] ∧ Pn K S ns H a ∧ 1 ≤ deep ∧ deep ≤ 10 ∧ 0 ≤ most ∧ most ≤ 60 ∧ ∀ (d : Addr) (H' : Hp) (ps : Sps), H d = none → hide a H' d = some (.dT (tvOf ps)) → Pok deep ps → ps.length ≤ 60 → Pn K S ns H' a → Grw a H H' → Q (.ref d) H'
def spMany (K : PySem.W.Frag) : Sp := fun vs H Q _ => ∃ (a S : Addr) (ns : List Int), vs = [.ref a] ∧ Pn K S ns H a ∧ ∀ (n : Int) (H' : Hp), 1 ≤ n → Pn K S ns H' a → Grw a H H' → Q (.int n) H'
def spSizes (K : PySem.W.Frag) : Sp := fun vs H Q _ => ∃ (a S : Addr) (ns : List Int), vs = [.ref a] ∧ Pn K S ns H a ∧ ∀ (l : Addr) (room deep : Int) (H' : Hp), hide a H' l = some (.lst [.int room, .int deep]) → 1 ≤ room → room ≤ 20 → 1 ≤ deep → deep ≤ 10 → Pn K S ns H' a → Grw a H H' → Q (.ref l) H'
def spLad : Sp := fun vs H Q _ => ∃ (d : Addr) (room deep : Int) (ps : Sps), vs = [.ref d, .int room, .int deep] ∧ H d = some (.dT (tvOf ps)) ∧ ps.length < 64 ∧ ∀ (r : Addr) (H' : Hp), Same H H' → LadAt H' r room deep (sumS ps) (srtP2 ps) → Q (.ref r) H'
section
variable {P : Program} {w : World} {K : PySem.W.Frag} {mg : Str → Option Value} {base : Heap} {f : Addr} {fd : FuncData}
theorem ok_sizes (h_l_take : Has P w K mg base "_law_take" 1 ["_law_pen_here", "_law_most"] (spTake K)) (F : Fun K "_law_sizes" "_law_sizes" s_l_sizes f fd) : FnOk P w K mg base CX0 2 f fd ["_law_pen_here"] (spSizes K) := by
  refine F.ok sc_l_sizes (fun vs H Q E h => ?_) (fun cdv A outer s H vs Q E hr h => ?_)
  · obtain ⟨a, S, ns, rfl, _⟩ := h
    rfl
  obtain ⟨a, S, ns, rfl, hp, hq⟩ := h
  refine ⟨_, (@pss_cons _ _ _ _ _ (@ps_set _ _ 1 _ _ _ _ sc_l_sizes.nd rfl (Or.inl rfl) (@pe_ix _ _ _ _ _ _ _ ix_list (@pe_lst _ _ _ _ (@pa_cons _ _ _ _ _ pe_int (@pa_cons _ _ _ _ _ pe_int (@pa_cons _ _ _ _ _ pe_int (@pa_cons _ _ _ _ _ pe_int (@pa_cons _ _ _ _ _ pe_int (@pa_cons _ _ _ _ _ pe_int (@pa_cons _ _ _ _ _ pe_int (@pa_cons _ _ _ _ _ (@pe_op _ _ _ _ _ _ _ _ op_add pe_int (pe_callH h_l_take hr (@pa_cons _ _ _ _ _ (pv 0) (@pa_cons _ _ _ _ _ pe_int pa_nil (by rfl)) (by rfl)))) pa_nil (by rfl)) (by rfl)) (by rfl)) (by rfl)) (by rfl)) (by rfl)) (by rfl)) (by rfl))) (pe_callH h_l_take hr (@pa_cons _ _ _ _ _ (pv 0) (@pa_cons _ _ _ _ _ pe_int pa_nil (by rfl)) (by rfl))) (fun _ _ => rfl)) (by rfl) (by first | exact .inl rfl | exact .inr rfl))
  (@pss_one _ _ _ (@ps_ret _ _ _ _ (@pe_lst _ _ _ _ (@pa_cons _ _ _ _ _ (pv 1) (@pa_cons _ _ _ _ _ (@pe_op _ _ _ _ _ _ _ _ op_add pe_int (pe_callH h_l_take hr (@pa_cons _ _ _ _ _ (pv 0) (@pa_cons _ _ _ _ _ (@pe_ix _ _ _ _ _ _ _ ix_list (@pe_lst _ _ _ _ (@pa_cons _ _ _ _ _ pe_int (@pa_cons _ _ _ _ _ pe_int (@pa_cons _ _ _ _ _ pe_int pa_nil (by rfl)) (by rfl)) (by rfl))) (pe_callH h_l_take hr (@pa_cons _ _ _ _ _ (pv 0) (@pa_cons _ _ _ _ _ pe_int pa_nil (by rfl)) (by rfl))) (fun _ _ => rfl)) pa_nil (by rfl)) (by rfl)))) pa_nil (by rfl)) (by rfl)))))), ?_⟩
  refine ⟨_, rfl, a, S, ns, 20, rfl, hp, posI rfl, ltI rfl, fun d1 H1 x0 x1 hp1 g1 => ⟨_, _, rfl, rfl, leN rfl, fun p np => ?_⟩⟩
  have x1 : d1 < 20 := x1
  have g2 := hp1.grw (same_laid np (.lst [.int 1, .int 2, .int 3, .int 4, .int 5, .int 8, .int 20, .int (1 + d1)]))
  have pa := hp1.ne np
  have hp2 := hp1.laid (o := .lst [.int 1, .int 2, .int 3, .int 4, .int 5, .int 8, .int 20, .int (1 + d1)]) np
  have e_p : hide a (upd H1 p (.lst [.int 1, .int 2, .int 3, .int 4, .int 5, .int 8, .int 20, .int (1 + d1)])) p = some (.lst [.int 1, .int 2, .int 3, .int 4, .int 5, .int 8, .int 20, .int (1 + d1)]) := by rw [hide_ne pa]; exact upd_same
  refine ⟨_, rfl, a, S, ns, 8, rfl, hp2, posI rfl, ltI rfl, fun d2 H3 y0 y1 hp3 g3 => ?_⟩
  have e_p := g3 _ _ e_p
  obtain ⟨v, hv, mv⟩ := pick (d := d2) (hide_some e_p).2 y0 y1
  obtain ⟨room, rfl, r0, r1⟩ : ∃ z : Int, v = .int z ∧ 1 ≤ z ∧ z ≤ 20 := by
    simp only [List.mem_cons, List.not_mem_nil, or_false] at mv
    rcases mv with rfl | rfl | rfl | rfl | rfl | rfl | rfl | rfl
    all_goals first | exact ⟨_, rfl, by decide, by decide⟩ | exact ⟨_, rfl, by omega, by omega⟩
  refine ⟨p, _, _, _, rfl, rfl, hSqL e_p, hv, ?_⟩
  refine ⟨_, rfl, _, rfl, leN rfl, fun u nu => ?_⟩
  have ua := hp3.ne nu
  have e_u : hide a (upd H3 u (.lst [.int 3, .int 5, .int 10])) u = some (.lst [.int 3, .int 5, .int 10]) := by rw [hide_ne ua]; exact upd_same
  refine ⟨_, rfl, a, S, ns, 3, rfl, hp3.laid nu, posI rfl, ltI rfl, fun d3 H4 z0 z1 hp4 g4 => ?_⟩
  have e_u := g4 _ _ e_u
  obtain ⟨v, hv, mv⟩ := pick (d := d3) (hide_some e_u).2 z0 z1
  obtain ⟨z, rfl, q0, q1⟩ : ∃ z : Int, v = .int z ∧ 0 < z ∧ z ≤ 10 := by
    simp only [List.mem_cons, List.not_mem_nil, or_false] at mv
    rcases mv with rfl | rfl | rfl <;> exact ⟨_, rfl, by decide, by decide⟩
  refine ⟨u, _, _, _, rfl, rfl, hSqL e_u, hv, a, S, ns, z, rfl, hp4, q0, by omega, fun d4 H5 w0 w1 hp5 g5 => ⟨_, _, rfl, rfl, leN rfl, fun l nl => ?_⟩⟩
  exact hq l room (1 + d4) _ (by rw [hide_ne (hp5.ne nl)]; exact upd_same) r0 r1 (by omega) (by omega) (hp5.laid nl) (g1.trans (g2.trans (g3.trans ((hp3.grw (same_laid nu _)).trans (g4.trans (g5.trans (hp5.grw (same_laid nl _))))))))
theorem ok_counts (z_range : mg "range" = none) (z_int : mg "int" = none) (z_sorted : mg "sorted" = none) (z_len : mg "len" = none) (z_min : mg "min" = none) (h_l_take : Has P w K mg base "_law_take" 1 ["_law_pen_here", "_law_most"] (spTake K)) (h_l_many : Has P w K mg base "_law_many" 2 ["_law_pen_here"] (spMany K))
    (F : Fun K "_law_counts" "_law_counts" s_l_counts f fd) : FnOk P w K mg base CX0 3 f fd ["_law_pen_here", "_law_deep", "_law_most"] (spCounts K) := by
  refine F.ok sc_l_counts (fun vs H Q E h => ?_) (fun cdv A outer s H vs Q E hr h => ?_)
  · obtain ⟨a, S, ns, deep, most, rfl, _⟩ := h
    rfl
  obtain ⟨a, S, ns, deep, most, rfl, hp, d0, d1, m0, m1, hq⟩ := h
  refine ⟨_, (@pss_cons _ _ _ _ _ (@ps_set _ _ 3 _ _ _ _ sc_l_counts.nd rfl (Or.inl rfl) pe_dnewT (by rfl) (by first | exact .inl rfl | exact .inr rfl)) pss_run), fun d n_d => ?_⟩
  have nHd : hide a H d = none := by
    by_cases z : d = a
    · unfold hide; rw [if_pos z]
    · rw [hide_ne z]; exact n_d
  have gg := hp.grw (same_laid n_d (.dT []))
  have e_d : hide a (upd H d (.dT [])) d = some (.dT (tvOf [])) := by rw [hide_ne (hp.ne n_d)]; exact upd_same
  have hp := hp.laid (o := .dT []) n_d
  generalize upd H d (.dT []) = H1 at gg e_d hp ⊢
  refine ⟨_, (@pss_cons _ _ _ _ _ (ps_for PassesOwn.never rfl (pi_range1 rfl z_range (@pa_cons _ _ _ _ _ (pe_callH h_l_take hr (@pa_cons _ _ _ _ _ (pv 0) (@pa_cons _ _ _ _ _ (@pe_op _ _ _ _ _ _ _ _ op_add (pv 2) pe_int) pa_nil (by rfl)) (by rfl))) pa_nil (by rfl))) (pg_name (i := 4) sc_l_counts.nd rfl (Or.inl rfl))
  (@pss_cons _ _ _ _ _ (@ps_set _ _ 5 _ _ _ _ sc_l_counts.nd rfl (Or.inl rfl) (@pe_op _ _ _ _ _ _ _ _ op_mul (pe_callH h_l_take hr (@pa_cons _ _ _ _ _ (pv 0) (@pa_cons _ _ _ _ _ (@pe_op _ _ _ _ _ _ _ _ op_add (pv 1) pe_int) pa_nil (by rfl)) (by rfl))) (pe_callTy call_int1 rfl z_int PyProof.Rows.boot_int (@pa_cons _ _ _ _ _ (@pe_cmpR _ _ _ _ _ _ _ _ op_eq (pe_callH h_l_take hr (@pa_cons _ _ _ _ _ (pv 0) (@pa_cons _ _ _ _ _ pe_int pa_nil (by rfl)) (by rfl))) pe_int (nomark _)) pa_nil (by rfl)))) (by rfl) (by first | exact .inl rfl | exact .inr rfl))
  (@pss_cons _ _ _ _ _ (@ps_set _ _ 6 _ _ _ _ sc_l_counts.nd rfl (Or.inl rfl) (pe_callH h_l_take hr (@pa_cons _ _ _ _ _ (pv 0) (@pa_cons _ _ _ _ _ (@pe_op _ _ _ _ _ _ _ _ op_shl pe_int (@pe_op _ _ _ _ _ _ _ _ op_sub (pv 1) (pv 5))) pa_nil (by rfl)) (by rfl))) (by rfl) (by first | exact .inl rfl | exact .inr rfl))
  (@pss_cons _ _ _ _ _ (@ps_if _ _ _ _ _ _ _ _ (PW.pt (@pw_and _ _ _ _ _ _ _ (@pt_cmpR _ _ _ _ _ _ _ _ (op_neDT (Nat.lt_of_le_of_lt (Nat.le_add_right _ _) hr.units)) (pv 3) pe_dnewT (nomark _)) (@pw_and1 _ _ _ _ (@pt_cmpR _ _ _ _ _ _ _ _ op_eq (pe_callH h_l_take hr (@pa_cons _ _ _ _ _ (pv 0) (@pa_cons _ _ _ _ _ pe_int pa_nil (by rfl)) (by rfl))) pe_int (nomark _))))) (@pss_cons _ _ _ _ _ (@ps_set _ _ 7 _ _ _ _ sc_l_counts.nd rfl (Or.inl rfl) (pe_callB (call_sortDT rfl hr.units) rfl z_sorted PyProof.Rows.boot_sorted (@pa_cons _ _ _ _ _ (pv 3) pa_nil (by rfl))) (by rfl) (by first | exact .inl rfl | exact .inr rfl))
  (@pss_cons _ _ _ _ _ (@ps_set _ _ 8 _ _ _ _ sc_l_counts.nd rfl (Or.inl rfl) (@pe_ix _ _ _ _ _ _ _ ix_list (pv 7) (pe_callH h_l_take hr (@pa_cons _ _ _ _ _ (pv 0) (@pa_cons _ _ _ _ _ (pe_callB call_len_seq rfl z_len PySem.boot_len (@pa_cons _ _ _ _ _ (pv 7) pa_nil (by rfl))) pa_nil (by rfl)) (by rfl))) (fun _ _ => rfl)) (by rfl) (by first | exact .inl rfl | exact .inr rfl))
  (@pss_cons _ _ _ _ _ (@ps_set _ _ 5 _ _ _ _ sc_l_counts.nd rfl (Or.inl rfl) (pe_callB (call_min2 rfl) rfl z_min PyProof.Rows.boot_min (@pa_cons _ _ _ _ _ (pv 5) (@pa_cons _ _ _ _ _ (@pe_ix _ _ _ _ _ _ _ ix_tup (pv 8) pe_int (fun _ _ => rfl)) pa_nil (by rfl)) (by rfl))) (by rfl) (by first | exact .inl rfl | exact .inr rfl))
  (@pss_one _ _ _ (@ps_set _ _ 6 _ _ _ _ sc_l_counts.nd rfl (Or.inl rfl) (@pe_op _ _ _ _ _ _ _ _ op_add (@pe_op _ _ _ _ _ _ _ _ op_shl (@pe_ix _ _ _ _ _ _ _ ix_tup (pv 8) pe_int (fun _ _ => rfl)) (@pe_op _ _ _ _ _ _ _ _ op_sub (@pe_ix _ _ _ _ _ _ _ ix_tup (pv 8) pe_int (fun _ _ => rfl)) (pv 5))) (pe_callH h_l_take hr (@pa_cons _ _ _ _ _ (pv 0) (@pa_cons _ _ _ _ _ (@pe_op _ _ _ _ _ _ _ _ op_shl pe_int (@pe_op _ _ _ _ _ _ _ _ op_sub (@pe_ix _ _ _ _ _ _ _ ix_tup (pv 8) pe_int (fun _ _ => rfl)) (pv 5))) pa_nil (by rfl)) (by rfl)))) (by rfl) (by first | exact .inl rfl | exact .inr rfl)))))) pss_nil)
  (@pss_one _ _ _ (ps_dput (hu_of hr) (pv 3) (@pe_tup _ _ _ _ _ (@pa_cons _ _ _ _ _ (pv 5) (@pa_cons _ _ _ _ _ (pv 6) pa_nil (by rfl)) (by rfl))) (pe_callH h_l_many hr (@pa_cons _ _ _ _ _ (pv 0) pa_nil (by rfl))) rfl)))))) pss_run), ?_⟩
  refine ⟨_, rfl, _, rfl, _, _, rfl, rfl, a, S, ns, _, rfl, hp, by omega, by omega, fun t H2 t0 t1 hp gz => ⟨t, rfl, by omega, by omega, ?_⟩⟩
  have gg := gg.trans gz
  have e_d := gz _ _ e_d
  refine for_rangeH (lo := 0) (n := t.toNat) (fun i σ H' => ∃ (o4 o5 o6 o7 o8 : Option V) (ps : Sps), σ = [some (.ref a), some (.int deep), some (.int most), some (.ref d), o4, o5, o6, o7, o8] ∧ Pn K S ns H' a ∧ Grw a H H' ∧ hide a H' d = some (.dT (tvOf ps)) ∧ Pok deep ps ∧ ps.length ≤ i) ⟨_, _, _, _, _, [], rfl, hp, gg, e_d, ⟨⟨List.nodup_nil, fun _ h => nomatch h⟩, fun _ h => nomatch h⟩, Nat.le_refl _⟩ ?_ ?_
  · rintro i σ H3 N B1 R hN hR hi ⟨o4, o5, o6, o7, o8, ps, rfl, hp, gg, e_d, cok, pl⟩
    refine ⟨_, rfl, _, rfl, _, _, rfl, rfl, a, S, ns, _, rfl, hp, by omega, by omega, fun t1 H4 x0 x1 hp gz => ?_⟩
    have gg := gg.trans gz
    have e_d := gz _ _ e_d
    refine ⟨_, rfl, a, S, ns, 2, rfl, hp, posI rfl, ltI rfl, fun t2 H5 y0 y1 hp gz => ⟨rfl, .inr ⟨_, rfl, _, _, rfl, rfl, Or.inl ⟨by omega, by omega⟩, ?_⟩⟩⟩
    have gg := gg.trans gz
    have e_d := gz _ _ e_d
    obtain ⟨h, hh, h0, h1⟩ : ∃ h : Int, t1 * (if decide (V.int t2 = V.int 0) = true then 1 else 0) = h ∧ 0 ≤ h ∧ h ≤ deep := by
      refine ⟨_, rfl, ?_⟩
      split
      · omega
      · omega
    have hv : ((fun i j => V.int (i * j)) t1 (if decide (V.int t2 = V.int 0) = true then 1 else 0)) = V.int h := congrArg V.int hh
    rw [hv]
    have tw := two_small (m := deep - h) (by omega)
    refine ⟨_, rfl, _, rfl, _, rfl, _, _, rfl, rfl, _, _, rfl, rfl, ⟨by omega, by omega, by decide⟩, a, S, ns, _, rfl, hp, by rw [Int.one_mul]; omega, by rw [Int.one_mul]; omega, fun t3 H6 z0 z1 hp gz => ?_⟩
    have gg := gg.trans gz
    have e_d := gz _ _ e_d
    rw [Int.one_mul] at z1
    dsimp only
    refine seq_post (fun σ' H' => ∃ (o4 o7 o8 : Option V) (h i : Int), σ' = [some (.ref a), some (.int deep), some (.int most), some (.ref d), o4, some (.int h), some (.int i), o7, o8] ∧ Pn K S ns H' a ∧ Grw a H H' ∧ hide a H' d = some (.dT (tvOf ps)) ∧ 0 ≤ h ∧ h ≤ deep ∧ 0 ≤ i ∧ i < 2 ^ (deep - h).toNat) ?_ ?_
    · intro nx hnx
      have skip : ∀ {H' : Hp} {o7 o8 : Option V}, Pn K S ns H' a → Grw a H H' → hide a H' d = some (.dT (tvOf ps)) → nx [some (.ref a), some (.int deep), some (.int most), some (.ref d), some (.int (0 + (i : Int))), some (.int h), some (.int t3), o7, o8] H' := fun hp gg e_d => hnx _ _ ⟨_, _, _, h, t3, rfl, hp, gg, e_d, h0, h1, z0, z1⟩
      refine ⟨_, rfl, fun e n_e => ?_⟩
      have ea := hp.ne n_e
      have gz := hp.grw (same_laid n_e (.dT []))
      have e_e : (upd H6 e (.dT [])) e = some (.dT []) := upd_same
      have gg := gg.trans gz
      have e_d := gz _ _ e_d
      have hp := hp.laid (o := .dT []) n_e
      generalize upd H6 e (.dT []) = H7 at gg e_d hp e_e ⊢
      refine ⟨d, e, _, rfl, rfl, (hide_some e_d).2, e_e, _, rfl, ite2 (fun c0 => ?_) (fun c0 => ?_)⟩
      · refine ⟨_, rfl, a, S, ns, 3, rfl, hp, posI rfl, ltI rfl, fun t4 H8 _ _ hp gz => ⟨rfl, _, rfl, ite2 (fun c1 => ?_) (fun c1 => ?_)⟩⟩
        · have gg := gg.trans gz
          have e_d := gz _ _ e_d
          refine ⟨_, rfl, d, ps, rfl, (hide_some e_d).2, by omega, fun bs ka l n_l => ?_⟩
          have la := hp.ne n_l
          have sl := same_laid n_l (.lst (bs.map V.ref))
          have gz := hp.grw sl
          have e_l : hide a (upd H8 l (.lst (bs.map V.ref))) l = some (.lst (bs.map V.ref)) := by rw [hide_ne la]; exact upd_same
          have gg := gg.trans gz
          have e_d := gz _ _ e_d
          have ka := ka.mono fun b xs e => sl b _ e
          have hp := hp.laid (o := .lst (bs.map V.ref)) n_l
          generalize upd H8 l (.lst (bs.map V.ref)) = H9 at gg e_d hp e_l ka ⊢
          have bl := Paired.length ka
          rw [(srtK_perm _).length_eq, List.length_map] at bl
          have pp : 0 < ps.length := by
            rw [tvOf_len] at c0
            rcases Nat.eq_zero_or_pos ps.length with z | z
            · rw [z] at c0; exact absurd c0 (by decide)
            · exact z
          have hp9 := hp
          refine ⟨_, rfl, _, rfl, _, rfl, l, _, rfl, .inl (hSqL e_l), a, S, ns, _, rfl, hp, by rw [List.length_map]; omega, by rw [List.length_map]; omega, fun t5 H10 u0 u1 hp gz => ?_⟩
          have gg := gg.trans gz
          have e_d := gz _ _ e_d
          have e_l := gz _ _ e_l
          obtain ⟨v, hv, mv⟩ := pick (d := t5) (hide_some e_l).2 u0 u1
          obtain ⟨jx, hj⟩ := List.getElem?_of_mem mv
          obtain ⟨b, k, rfl, hk, e_b⟩ := ks_get ka hj
          have km : k ∈ ps.map (·.1) := (srtK_perm _).mem_iff.mp (List.mem_of_getElem? hk)
          obtain ⟨k0, k1, k2, k3⟩ := cok.kok.st k km
          have nba : b ≠ a := fun z => by
            obtain ⟨i, r, ea⟩ := hp9.at_
            rw [z] at e_b
            unfold KAt at e_b
            rw [ea] at e_b
            cases e_b
          have e_b : hide a H10 b = some (.tup [.int k.1, .int k.2]) := gz _ _ (by rw [hide_ne nba]; exact e_b)
          refine ⟨l, _, _, _, rfl, rfl, hSqL e_l, hv, ?_⟩
          refine ⟨_, rfl, _, rfl, b, _, 0, _, rfl, rfl, hSqT e_b, rfl, _, _, rfl, ?_⟩
          obtain ⟨h2, e2, q0, q1, q2⟩ : ∃ h2 : Int, (if k.1 < h then k.1 else h) = h2 ∧ 0 ≤ h2 ∧ h2 ≤ k.1 ∧ h2 ≤ deep := by
            refine ⟨_, rfl, ?_⟩
            split <;> omega
          rw [e2]
          have tw2 := two_small (m := k.1 - h2) (by omega)
          have tw3 := two_small (m := deep - k.1) (by omega)
          refine ⟨_, rfl, b, _, 1, _, rfl, rfl, hSqT e_b, rfl, _, rfl, b, _, 0, _, rfl, rfl, hSqT e_b, rfl, _, rfl, _, _, rfl, rfl, _, _, rfl, rfl, ⟨by omega, by omega, by omega⟩, ?_⟩
          refine ⟨_, rfl, _, rfl, b, _, 0, _, rfl, rfl, hSqT e_b, rfl, _, rfl, _, _, rfl, rfl, _, _, rfl, rfl, ⟨by omega, by omega, by decide⟩, a, S, ns, _, rfl, hp, by rw [Int.one_mul]; omega, by rw [Int.one_mul]; omega, fun t6 H11 v0 v1 hp gz => ⟨_, _, rfl, rfl, ?_⟩⟩
          rw [Int.one_mul] at v1
          have ix := idx_in q0 q1 k1 k2 k3 v0 v1
          exact hnx _ _ ⟨_, _, _, h2, _, rfl, hp, gg.trans gz, gz _ _ e_d, q0, q2, ix.1, ix.2⟩
        · have gg := gg.trans gz
          exact skip hp gg (gz _ _ e_d)
      · exact skip hp gg e_d
    rintro σ' H7 ⟨o4, o7, o8, h, i2, rfl, hp, gg, e_d, h0, h1, i0, i1⟩
    refine ⟨_, rfl, a, S, ns, rfl, hp, fun n H8 n1 hp gz => ?_⟩
    have gg := gg.trans gz
    have e_d := gz _ _ e_d
    refine ⟨_, rfl, _, rfl, _, rfl, leN rfl, fun q n_q => ?_⟩
    have qa := hp.ne n_q
    have sq := same_laid n_q (.tup [.int h, .int i2])
    have gz := hp.grw sq
    have gg := gg.trans gz
    have e_d := gz _ _ e_d
    have e_q : KAt (upd H8 q (.tup [.int h, .int i2])) q (h, i2) := upd_same
    have hp := hp.laid (o := .tup [.int h, .int i2]) n_q
    generalize upd H8 q (.tup [.int h, .int i2]) = H9 at gg e_d hp e_q ⊢
    have da := (hide_some e_d).1
    refine ⟨d, _, rfl, DPut.t (k := kk (h, i2)) (hide_some e_d).2 e_q (small_lt (by rw [tvOf_len]; omega)), hN _ _ ⟨_, _, _, _, _, putS ps (h, i2) n, rfl, pn_put hp (hide_some e_d).2, grw_put gg nHd, ?_, pok_put cok ⟨h0, h1, i0, i1⟩ n1, ?_⟩⟩
    · rw [hide_ne da, ← put_tv]
      exact upd_same
    · have := put_len ps (h, i2) n
      omega
  · rintro σ H3 ⟨o4, o5, o6, o7, o8, ps, rfl, hp, gg, e_d, cok, pl⟩
    exact ⟨_, (@pss_one _ _ _ (@ps_ret _ _ _ _ (pv 3))), _, rfl, hq d _ ps n_d e_d cok (by omega) hp gg⟩
theorem ok_lad (z_sorted : mg "sorted" = none) (z_tuple : mg "tuple" = none) (z_sum : mg "sum" = none) (z_list : mg "list" = none) (F : Fun K "_law_ladder" "_law_ladder" s_l_ladder f fd) : FnOk P w K mg base CX0 1 f fd ["_law_now", "_law_room", "_law_deep"] spLad := by
  refine F.ok sc_l_ladder (fun vs H Q E h => ?_) (fun cdv A outer s H vs Q E hr h => ?_)
  · obtain ⟨d, room, deep, ps, rfl, _⟩ := h
    rfl
  obtain ⟨d, room, deep, ps, rfl, e_d, pl, hq⟩ := h
  refine ⟨_, (@pss_one _ _ _ (@ps_ret _ _ _ _ (@pe_tup _ _ _ _ _ (@pa_cons _ _ _ _ _ (pv 1) (@pa_cons _ _ _ _ _ (pv 2) (@pa_cons _ _ _ _ _ (pe_callTy call_tuple_of rfl z_tuple PyProof.Rows.boot_tuple (@pa_cons _ _ _ _ _ (pe_callB (call_sortIT rfl hr.units) rfl z_sorted PyProof.Rows.boot_sorted (@pa_cons _ _ _ _ _ (pe_bm0 PySem.F.plainAttrs_dict PySem.F.slot_dict_items PySem.F.type_dict_items mt_itemsT (pv 0)) pa_nil (by rfl))) pa_nil (by rfl))) (@pa_cons _ _ _ _ _ (pe_callB (call_sum rfl) rfl z_sum PyProof.Rows.boot_sum (@pa_cons _ _ _ _ _ (pe_callTy (call_listVT rfl) rfl z_list PyProof.Rows.boot_list (@pa_cons _ _ _ _ _ (pe_bm0 PySem.F.plainAttrs_dict PySem.F.slot_dict_values PySem.F.type_dict_values mt_valuesT (pv 0)) pa_nil (by rfl))) pa_nil (by rfl))) pa_nil (by rfl)) (by rfl)) (by rfl)) (by rfl))))), ?_⟩
  have gg : Same H H := Same.refl _
  refine ⟨_, rfl, _, rfl, _, rfl, tyV_dT e_d, d, _, rfl, rfl, e_d, ?_⟩
  intro v n_v
  generalize hz : upd _ v _ = H1
  have gz := laid_same hz n_v
  have e_v := laid_at hz
  clear hz
  have gg := gg.trans gz
  have e_d := gz _ _ e_d
  refine ⟨v, d, ps, rfl, e_v, e_d, pl, fun H2 bs g2 pr l nl _ => ?_⟩
  have gg := gg.trans g2
  have e_d := g2 _ _ e_d
  have gz := same_laid nl (.lst (bs.map V.ref))
  have e_l : (upd H2 l (.lst (bs.map V.ref))) l = some (.lst (bs.map V.ref)) := upd_same
  have gg := gg.trans gz
  have e_d := gz _ _ e_d
  have pr : Paired (FT (upd H2 l (.lst (bs.map V.ref)))) bs (srtP2 ps) := Paired.mapP pr fun _ _ f => ft_mono gz f
  generalize upd H2 l (.lst (bs.map V.ref)) = H3 at gg e_d pr e_l ⊢
  refine ⟨l, _, rfl, .inl ⟨SqL.of e_l, ?_⟩⟩
  intro c n_c
  generalize hz : upd _ c _ = H4
  have gz := laid_same hz n_c
  have e_c := laid_at hz
  clear hz
  have gg := gg.trans gz
  have e_d := gz _ _ e_d
  have pr := Paired.mapP pr fun _ _ f => ft_mono gz f
  refine ⟨_, rfl, tyV_dT e_d, d, _, rfl, rfl, e_d, ?_⟩
  intro v2 n_v2
  generalize hz : upd _ v2 _ = H5
  have gz := laid_same hz n_v2
  have e_v2 := laid_at hz
  clear hz
  have gg := gg.trans gz
  have e_d := gz _ _ e_d
  have e_c := gz _ _ e_c
  have pr := Paired.mapP pr fun _ _ f => ft_mono gz f
  refine ⟨v2, d, _, rfl, e_v2, e_d, ?_⟩
  rw [tv_vals]
  intro l2 n_l2
  generalize hz : upd _ l2 _ = H6
  have gz := laid_same hz n_l2
  have e_l2 := laid_at hz
  clear hz
  have gg := gg.trans gz
  have e_c := gz _ _ e_c
  have pr := Paired.mapP pr fun _ _ f => ft_mono gz f
  refine ⟨l2, _, rfl, SqL.of e_l2, leN rfl, ?_⟩
  intro r n_r
  generalize hz : upd _ r _ = H7
  have gz := laid_same hz n_r
  have e_r := laid_at hz
  clear hz
  have gg := gg.trans gz
  have e_c := gz _ _ e_c
  have pr := Paired.mapP pr fun _ _ f => ft_mono gz f
  exact hq r _ gg ⟨c, bs, e_r, e_c, pr⟩
end
end K22

namespace K22
open PySem L2 Ld
section
variable {P : Program} {w : World} {K : PySem.W.Frag} {mg : Str → Option Value} {base : Heap} {f : Addr} {fd : FuncData}
theorem ok_many (h_l_take : Has P w K mg base "_law_take" 1 ["_law_pen_here", "_law_most"] (spTake K)) (F : Fun K "_law_many" "_law_many" s_l_many f fd) : FnOk P w K mg base CX0 2 f fd ["_law_pen_here"] (spMany K) := by
  refine F.ok sc_l_many (fun vs H Q E h => ?_) (fun cdv A outer s H vs Q E hr h => ?_)
  · obtain ⟨a, S, ns, rfl, _⟩ := h
    rfl
  obtain ⟨a, S, ns, rfl, hp, hq⟩ := h
  refine ⟨_, (@pss_cons _ _ _ _ _ (@ps_set _ _ 1 _ _ _ _ sc_l_many.nd rfl (Or.inl rfl) (pe_callH h_l_take hr (@pa_cons _ _ _ _ _ (pv 0) (@pa_cons _ _ _ _ _ pe_int pa_nil (by rfl)) (by rfl))) (by rfl) (by first | exact .inl rfl | exact .inr rfl))
  (@pss_cons _ _ _ _ _ (@ps_if _ _ _ _ _ _ _ _ (@pt_cmpR _ _ _ _ _ _ _ _ op_eq (pv 1) pe_int (nomark _)) (@pss_one _ _ _ (@ps_ret _ _ _ _ (@pe_op _ _ _ _ _ _ _ _ op_add (@pe_op _ _ _ _ _ _ _ _ op_add pe_int (@pe_op _ _ _ _ _ _ _ _ op_mul (pe_callH h_l_take hr (@pa_cons _ _ _ _ _ (pv 0) (@pa_cons _ _ _ _ _ (@pe_op _ _ _ _ _ _ _ _ op_pow pe_int pe_int) pa_nil (by rfl)) (by rfl))) (@pe_ix _ _ _ _ _ _ _ ix_list (@pe_lst _ _ _ _ (@pa_cons _ _ _ _ _ (@pe_op _ _ _ _ _ _ _ _ op_pow pe_int pe_int) (@pa_cons _ _ _ _ _ (@pe_op _ _ _ _ _ _ _ _ op_pow pe_int pe_int) pa_nil (by rfl)) (by rfl))) (pe_callH h_l_take hr (@pa_cons _ _ _ _ _ (pv 0) (@pa_cons _ _ _ _ _ pe_int pa_nil (by rfl)) (by rfl))) (fun _ _ => rfl)))) (pe_callH h_l_take hr (@pa_cons _ _ _ _ _ (pv 0) (@pa_cons _ _ _ _ _ (@pe_op _ _ _ _ _ _ _ _ op_pow pe_int pe_int) pa_nil (by rfl)) (by rfl)))))) pss_nil)
  (@pss_one _ _ _ (@ps_ret _ _ _ _ (@pe_op _ _ _ _ _ _ _ _ op_add pe_int (pe_callH h_l_take hr (@pa_cons _ _ _ _ _ (pv 0) (@pa_cons _ _ _ _ _ (@pe_ix _ _ _ _ _ _ _ ix_list (@pe_lst _ _ _ _ (@pa_cons _ _ _ _ _ pe_int (@pa_cons _ _ _ _ _ pe_int (@pa_cons _ _ _ _ _ pe_int (@pa_cons _ _ _ _ _ pe_int pa_nil (by rfl)) (by rfl)) (by rfl)) (by rfl))) (@pe_op _ _ _ _ _ _ _ _ op_mod (pv 1) pe_int) (fun _ _ => rfl)) pa_nil (by rfl)) (by rfl)))))))), ?_⟩
  refine ⟨_, rfl, a, S, ns, 8, rfl, hp, posI rfl, ltI rfl, fun way H1 w0 w1 hp1 g1 => ?_⟩
  refine ⟨_, rfl, rfl, _, rfl, ite2 (fun c => ?_) (fun c => ?_)⟩
  · refine ⟨_, rfl, _, _, rfl, rfl, powI rfl rfl rfl, a, S, ns, _, rfl, hp1, posI rfl, ltI rfl, fun d1 H2 x0 x1 hp2 g2 => ⟨_, _, rfl, rfl, powI rfl rfl rfl, _, _, rfl, rfl, powI rfl rfl rfl, leN rfl, fun p np => ?_⟩⟩
    have x1 : d1 < 1000000 := x1
    have pa := hp2.ne np
    have gp := hp2.grw (same_laid np (.lst [.int 1000000, .int 10000000000000000000000]))
    have hp3 := hp2.laid (o := .lst [.int 1000000, .int 10000000000000000000000]) np
    have e_p : hide a (upd H2 p (.lst [.int 1000000, .int 10000000000000000000000])) p = some (.lst [.int 1000000, .int 10000000000000000000000]) := by rw [hide_ne pa]; exact upd_same
    refine ⟨_, rfl, a, S, ns, 2, rfl, hp3, posI rfl, ltI rfl, fun d2 H3 y0 y1 hp4 g3 => ?_⟩
    have e_p := g3 _ _ e_p
    obtain ⟨v, hv, mv⟩ := pick (d := d2) (hide_some e_p).2 y0 y1
    obtain ⟨z, rfl, z0⟩ : ∃ z : Int, v = .int z ∧ 0 < z := by
      simp only [List.mem_cons, List.not_mem_nil, or_false] at mv
      rcases mv with rfl | rfl <;> exact ⟨_, rfl, by decide⟩
    have m0 : 0 ≤ d1 * z := Int.mul_nonneg x0 (Int.le_of_lt z0)
    refine ⟨p, _, _, _, rfl, rfl, hSqL e_p, hv, _, _, rfl, rfl, Or.inl ⟨by omega, by omega⟩, _, _, rfl, rfl, _, rfl, _, _, rfl, rfl, powI rfl rfl rfl, a, S, ns, _, rfl, hp4, posI rfl, ltI rfl, fun d3 H4 w0 w1 hp5 g4 => ⟨_, _, rfl, rfl, hq _ _ (by omega) hp5 (g1.trans (g2.trans (gp.trans (g3.trans g4))))⟩⟩
  · refine ⟨_, rfl, leN rfl, fun p np => ⟨_, rfl, _, _, rfl, rfl, posI rfl, ?_⟩⟩
    have e_p : (upd H1 p (.lst [.int 1, .int 3, .int 3, .int 9])) p = some (.lst [.int 1, .int 3, .int 3, .int 9]) := upd_same
    have m0 := Int.emod_nonneg way (show (4 : Int) ≠ 0 by decide)
    have m1 := Int.emod_lt_of_pos way (show (0 : Int) < 4 by decide)
    obtain ⟨v, hv, mv⟩ := pick (d := way % 4) e_p m0 m1
    obtain ⟨z, rfl, z0, z1⟩ : ∃ z : Int, v = .int z ∧ 0 < z ∧ z < 10 := by
      simp only [List.mem_cons, List.not_mem_nil, or_false] at mv
      rcases mv with rfl | rfl | rfl | rfl <;> exact ⟨_, rfl, by decide, by decide⟩
    refine ⟨p, _, _, _, rfl, rfl, SqL.of e_p, hv, a, S, ns, z, rfl, hp1.laid np, z0, by omega, fun d H3 y0 y1 hp3 g3 => ⟨_, _, rfl, rfl, hq _ _ (by omega) hp3 (g1.trans ((hp1.grw (same_laid np _)).trans g3))⟩⟩
end
end K22

namespace K22
open PySem L2 Ld
def spWh : Sp := fun vs H Q _ => ∃ n : Int, vs = [.int n] ∧ Q (.bl true) H
def spTyp : Sp := fun vs H Q _ => ∃ (q : Addr) (room deep total : Int) (ps : Sps), vs = [.ref q] ∧ LadAt H q room deep total ps ∧ ps.length < 1000 ∧ ∀ H', Same H H' → Q (.bl true) H'
section
variable {P : Program} {w : World} {K : PySem.W.Frag} {mg : Str → Option Value} {base : Heap} {f : Addr} {fd : FuncData}
theorem ok_wh (z_isinstance : mg "isinstance" = none) (z_int : mg "int" = none) (z_bool : mg "bool" = none) (F : Fun K "_law_whole" "_law_whole" s_l_whole f fd) : FnOk P w K mg base CX0 1 f fd ["_law_thing"] spWh := by
  refine F.ok sc_l_whole (fun vs H Q E h => ?_) (fun cdv A outer s H vs Q E hr h => ?_)
  · obtain ⟨n, rfl, _⟩ := h
    rfl
  obtain ⟨n, rfl, hq⟩ := h
  refine ⟨_, (@pss_one _ _ _ (@ps_ret _ _ _ _ (@pe_and _ _ _ _ _ _ _ (pe_callB call_is rfl z_isinstance PyProof.Rows.boot_isinstance (@pa_cons _ _ _ _ _ (pv 0) (@pa_cons _ _ _ _ _ (pe_bltn (v := .ty "int") rfl z_int PyProof.Rows.boot_int rfl) pa_nil (by rfl)) (by rfl))) (@pe_one _ _ _ _ _ (@pe_not _ _ _ _ (pe_callB call_is rfl z_isinstance PyProof.Rows.boot_isinstance (@pa_cons _ _ _ _ _ (pv 0) (@pa_cons _ _ _ _ _ (pe_bltn (v := .ty "bool") rfl z_bool PyProof.Rows.boot_bool rfl) pa_nil (by rfl)) (by rfl)))))))), ?_⟩
  have kx : Kd H (.int n) "int" := .int n
  exact ⟨_, rfl, _, _, "int", _, rfl, kx.ty, kx.kit (by decide) rfl, _, rfl, iteT ⟨_, rfl, _, _, "bool", _, rfl, kx.ty, kx.kit (by decide) rfl, _, rfl, hq⟩⟩
theorem ok_typ (z_isinstance : mg "isinstance" = none) (z_tuple : mg "tuple" = none) (z_len : mg "len" = none) (h_l_whole : Has P w K mg base "_law_whole" 1 ["_law_thing"] spWh) (F : Fun K "_law_is_typed" "_law_is_typed" s_l_is_typed f fd) : FnOk P w K mg base CX0 2 f fd ["_law_found"] spTyp := by
  refine F.ok sc_l_is_typed (fun vs H Q E h => ?_) (fun cdv A outer s H vs Q E hr h => ?_)
  · obtain ⟨q, room, deep, total, ps, rfl, _⟩ := h
    rfl
  obtain ⟨q, room, deep, total, ps, rfl, lad, pl, hq⟩ := h
  obtain ⟨c, as, e_q, e_c, pr⟩ := lad.at_
  have kq : Kd H (.ref q) "tuple" := .tup e_q
  have kc : Kd H (.ref c) "tuple" := .tup e_c
  refine ⟨_, (@pss_cons _ _ _ _ _ (@ps_if _ _ _ _ _ _ _ _ (PW.pt (@pw_or _ _ _ _ _ _ _ (@pt_not _ _ _ _ (pt_val (pe_callB call_is rfl z_isinstance PyProof.Rows.boot_isinstance (@pa_cons _ _ _ _ _ (pv 0) (@pa_cons _ _ _ _ _ (pe_bltn (v := .ty "tuple") rfl z_tuple PyProof.Rows.boot_tuple rfl) pa_nil (by rfl)) (by rfl))))) (@pw_or _ _ _ _ _ _ _ (@pt_cmpR _ _ _ _ _ _ _ _ op_ne (pe_callB call_len_seq rfl z_len PySem.boot_len (@pa_cons _ _ _ _ _ (pv 0) pa_nil (by rfl))) pe_int (nomark _)) (@pw_or1 _ _ _ _ (@pt_not _ _ _ _ (pt_val (pe_callB call_is rfl z_isinstance PyProof.Rows.boot_isinstance (@pa_cons _ _ _ _ _ (@pe_ix _ _ _ _ _ _ _ ix_tup (pv 0) pe_int (fun _ _ => rfl)) (@pa_cons _ _ _ _ _ (pe_bltn (v := .ty "tuple") rfl z_tuple PyProof.Rows.boot_tuple rfl) pa_nil (by rfl)) (by rfl))))))))) (@pss_one _ _ _ (@ps_ret _ _ _ _ pe_bl)) pss_nil) pss_run), ?_⟩
  refine ⟨_, rfl, _, _, "tuple", _, rfl, kq.ty, kq.kit (by decide) rfl, _, rfl, iteF ?_⟩
  refine ⟨_, rfl, q, _, rfl, .inr (SqT.of e_q), rfl, _, rfl, iteF ?_⟩
  refine ⟨_, rfl, q, _, 2, _, rfl, rfl, SqT.of e_q, rfl, _, _, "tuple", _, rfl, kc.ty, kc.kit (by decide) rfl, _, rfl, iteF ?_⟩
  refine ⟨_, (@pss_cons _ _ _ _ _ (@ps_set _ _ 1 _ _ _ _ sc_l_is_typed.nd rfl (Or.inl rfl) (@pe_lst _ _ _ _ (@pa_cons _ _ _ _ _ (@pe_ix _ _ _ _ _ _ _ ix_tup (pv 0) pe_int (fun _ _ => rfl)) (@pa_cons _ _ _ _ _ (@pe_ix _ _ _ _ _ _ _ ix_tup (pv 0) pe_int (fun _ _ => rfl)) (@pa_cons _ _ _ _ _ (@pe_ix _ _ _ _ _ _ _ ix_tup (pv 0) pe_int (fun _ _ => rfl)) pa_nil (by rfl)) (by rfl)) (by rfl))) (by rfl) (by first | exact .inl rfl | exact .inr rfl)) pss_run), ?_⟩
  refine ⟨_, rfl, q, _, 0, _, rfl, rfl, SqT.of e_q, rfl, _, rfl, q, _, 1, _, rfl, rfl, SqT.of e_q, rfl, _, rfl, q, _, 3, _, rfl, rfl, SqT.of e_q, rfl, leN rfl, ?_⟩
  have gg : Same H H := Same.refl _
  intro wl n_wl
  generalize hz : upd _ wl _ = H1
  have gz := laid_same hz n_wl
  have e_wl := laid_at hz
  clear hz
  have gg := gg.trans gz
  have e_q := gz _ _ e_q
  have e_c := gz _ _ e_c
  have pr := Paired.mapP pr fun _ _ f => ft_mono gz f
  refine ⟨_, (@pss_cons _ _ _ _ _ (ps_for PassesOwn.never rfl (pi_tup (@pe_ix _ _ _ _ _ _ _ ix_tup (pv 0) pe_int (fun _ _ => rfl))) (pg_name (i := 2) sc_l_is_typed.nd rfl (Or.inl rfl))
  (@pss_cons _ _ _ _ _ (@ps_if _ _ _ _ _ _ _ _ (PW.pt (@pw_or _ _ _ _ _ _ _ (@pt_not _ _ _ _ (pt_val (pe_callB call_is rfl z_isinstance PyProof.Rows.boot_isinstance (@pa_cons _ _ _ _ _ (pv 2) (@pa_cons _ _ _ _ _ (pe_bltn (v := .ty "tuple") rfl z_tuple PyProof.Rows.boot_tuple rfl) pa_nil (by rfl)) (by rfl))))) (@pw_or _ _ _ _ _ _ _ (@pt_cmpR _ _ _ _ _ _ _ _ op_ne (pe_callB call_len_seq rfl z_len PySem.boot_len (@pa_cons _ _ _ _ _ (pv 2) pa_nil (by rfl))) pe_int (nomark _)) (@pw_or _ _ _ _ _ _ _ (@pt_not _ _ _ _ (pt_val (pe_callB call_is rfl z_isinstance PyProof.Rows.boot_isinstance (@pa_cons _ _ _ _ _ (@pe_ix _ _ _ _ _ _ _ ix_tup (pv 2) pe_int (fun _ _ => rfl)) (@pa_cons _ _ _ _ _ (pe_bltn (v := .ty "tuple") rfl z_tuple PyProof.Rows.boot_tuple rfl) pa_nil (by rfl)) (by rfl))))) (@pw_or1 _ _ _ _ (@pt_cmpR _ _ _ _ _ _ _ _ op_ne (pe_callB call_len_seq rfl z_len PySem.boot_len (@pa_cons _ _ _ _ _ (@pe_ix _ _ _ _ _ _ _ ix_tup (pv 2) pe_int (fun _ _ => rfl)) pa_nil (by rfl))) pe_int (nomark _))))))) (@pss_one _ _ _ (@ps_ret _ _ _ _ pe_bl)) pss_nil)
  (@pss_one _ _ _ (@ps_set _ _ 1 _ _ _ _ sc_l_is_typed.nd rfl (Or.inl rfl) (@pe_op _ _ _ _ _ _ _ _ op_cat (pv 1) (@pe_lst _ _ _ _ (@pa_cons _ _ _ _ _ (@pe_ix _ _ _ _ _ _ _ ix_tup (@pe_ix _ _ _ _ _ _ _ ix_tup (pv 2) pe_int (fun _ _ => rfl)) pe_int (fun _ _ => rfl)) (@pa_cons _ _ _ _ _ (@pe_ix _ _ _ _ _ _ _ ix_tup (@pe_ix _ _ _ _ _ _ _ ix_tup (pv 2) pe_int (fun _ _ => rfl)) pe_int (fun _ _ => rfl)) (@pa_cons _ _ _ _ _ (@pe_ix _ _ _ _ _ _ _ ix_tup (pv 2) pe_int (fun _ _ => rfl)) pa_nil (by rfl)) (by rfl)) (by rfl)))) (by rfl) (by first | exact .inl rfl | exact .inr rfl))))) pss_run), ?_⟩
  refine ⟨_, rfl, q, _, 2, _, rfl, rfl, SqT.of e_q, rfl, c, rfl, ⟨_, SqT.of e_c⟩, ?_⟩
  have al := Paired.length pr
  refine for_tupH (xs := as.map V.ref) (fun i σ H' => ∃ (u : Addr) (zs : List Int) (o2 : Option V), σ = [some (.ref q), some (.ref u), o2] ∧ Same H1 H' ∧ H' u = some (.lst (zs.map V.int)) ∧ zs.length = 3 + 3 * i) ⟨wl, [room, deep, total], none, rfl, Same.refl _, e_wl, rfl⟩ ?_ ?_ ?_
  · rintro i σ H' _ ⟨_, _, _, _, g, _⟩
    exact SqT.of (g _ _ e_c)
  · rintro i x σ H2 N B1 R hN hR hx ⟨u, zs, o2, rfl, g2, e_u, zl⟩
    have il : i < as.length := by
      have := (List.getElem?_eq_some_iff.mp hx).1
      rwa [List.length_map] at this
    obtain ⟨a, p, rfl, hp, b, e_a, e_b⟩ := ft_get pr hx
    have e_a := g2 _ _ e_a
    have e_b := g2 _ _ e_b
    have ka : Kd H2 (.ref a) "tuple" := .tup e_a
    have kb : Kd H2 (.ref b) "tuple" := .tup e_b
    refine ⟨_, rfl, _, _, "tuple", _, rfl, ka.ty, ka.kit (by decide) rfl, _, rfl, iteF ?_⟩
    refine ⟨_, rfl, a, _, rfl, .inr (SqT.of e_a), rfl, _, rfl, iteF ?_⟩
    refine ⟨_, rfl, a, _, 0, _, rfl, rfl, SqT.of e_a, rfl, _, _, "tuple", _, rfl, kb.ty, kb.kit (by decide) rfl, _, rfl, iteF ?_⟩
    refine ⟨_, rfl, a, _, 0, _, rfl, rfl, SqT.of e_a, rfl, b, _, rfl, .inr (SqT.of e_b), rfl, _, rfl, iteF ?_⟩
    refine ⟨_, rfl, _, rfl, a, _, 0, _, rfl, rfl, SqT.of e_a, rfl, b, _, 0, _, rfl, rfl, SqT.of e_b, rfl, ?_⟩
    refine ⟨_, rfl, a, _, 0, _, rfl, rfl, SqT.of e_a, rfl, b, _, 1, _, rfl, rfl, SqT.of e_b, rfl, ?_⟩
    refine ⟨_, rfl, a, _, 1, _, rfl, rfl, SqT.of e_a, rfl, leN rfl, fun v nv => ?_⟩
    have sv := same_laid nv (.lst [.int p.1.1, .int p.1.2, .int p.2])
    refine ⟨u, v, _, _, rfl, rfl, sv _ _ e_u, upd_same, small_le (by rw [List.length_map]; show zs.length + 3 ≤ _; omega), fun y ny => hN _ _ ⟨y, zs ++ [p.1.1, p.1.2, p.2], some (.ref a), rfl, g2.trans (sv.trans (same_laid ny _)), ?_, by rw [List.length_append]; show zs.length + 3 = _; omega⟩⟩
    rw [List.map_append]
    exact upd_same
  rintro σ H2 ⟨u, zs, o2, rfl, g2, e_u, zl⟩
  rw [List.length_map, al] at zl
  refine ⟨_, (pss_forget 2 (@pss_one _ _ _ (@ps_ret _ _ _ _ (@pe_cmpR _ _ _ _ _ _ _ _ op_eq (pe_callB call_len_seq rfl z_len PySem.boot_len (@pa_cons _ _ _ _ _ (pe_ren ["_law_found", "_law_wholes", "#2"] (pe_comp (own := ["_law_one"]) (CompOk.of rfl rfl (by rfl) (by rfl) (by rfl)) (pi_list (pv 1))
    (fun _ _ _ _ _ => (pg_name (i := 0) nd_l_is_typed_117_15 rfl (Or.inl rfl) (Or.inr rfl))) (fun _ _ _ _ _ => (pts_one (@pt_not _ _ _ _ (pt_val (pe_callH h_l_whole hr (@pa_cons _ _ _ _ _ (pv 0) pa_nil (by rfl)))))))
    (fun _ _ _ _ _ => (pv 0)))) pa_nil (by rfl))) pe_int (nomark _))))), ?_⟩
  refine ⟨⟨.inl rfl, .inl rfl, .inr rfl, trivial⟩, _, rfl, u, rfl, ⟨_, SqL.of e_u⟩, ?_⟩
  refine comp_list (xs := zs.map V.int) (fun i ys H' => H' = H2 ∧ ys = []) ⟨rfl, rfl⟩ ?_ ?_ ?_
  · rintro i ys H' _ ⟨rfl, _⟩
    exact SqL.of e_u
  · rintro i x ys H' C hx ⟨rfl, rfl⟩ hC
    rw [List.getElem?_map] at hx
    obtain ⟨n, hn, rfl⟩ := Option.map_eq_some_iff.mp hx
    exact ⟨small_lt (by decide), Wk.refl _, _, rfl, n, rfl, _, rfl, iteF (hC _ _ ⟨rfl, rfl⟩)⟩
  rintro ys H' ⟨rfl, rfl⟩
  refine ⟨small_le (by decide), fun l nl => ⟨l, _, rfl, .inl (SqL.of upd_same), rfl, hq _ (gg.trans (g2.trans (same_laid nl _)))⟩⟩
end
end K22

namespace K22
open PySem L2 Ld
def spSet : Sp := fun vs H Q _ => ∃ (q : Addr) (room deep total : Int) (ps : Sps), vs = [.ref q] ∧ LadAt H q room deep total ps ∧ 1 ≤ room ∧ room ≤ 20 ∧ deep ≤ 20 ∧ Kok deep (ps.map (·.1)) ∧ ps.length < 64 ∧
  ∀ (r : Addr) (H' : Hp) (fs ps' : Sps), Same H H' → LadAt H' r room deep total (srtP2 ps') → Stl deep (total / room) ps fs ps' → Kok deep (ps'.map (·.1)) → ps'.length ≤ ps.length → Q (.ref r) H'
def spFin : Sp := fun vs H Q _ => ∃ (q : Addr) (room deep total : Int) (ps : Sps), vs = [.ref q] ∧ LadAt H q room deep total ps ∧ 1 ≤ room ∧ room ≤ 20 ∧ deep ≤ 20 ∧ Kok deep (ps.map (·.1)) ∧ ps.length < 64 ∧
  ∀ (l : Addr) (H' : Hp) (fs ps' : Sps), Same H H' → H l = none → FsAt H' l fs → fs.length ≤ 1400 → Stl deep (total / room) ps fs ps' → Q (.ref l) H'
def ladD (room deep total : Int) (ps : Sps) : PyData := .tuple [.int room, .int deep, .tuple (foldsD ps), .int total]
theorem LadAt.dv {H : Hp} {q : Addr} {room deep total : Int} {ps : Sps} (h : LadAt H q room deep total ps) : DV H (.ref q) (ladD room deep total ps) := by
  obtain ⟨c, as, e1, e2, r⟩ := h.at_
  exact .tup e1 (.cons (.int _) (.cons (.int _) (.cons (.tup e2 (fts_dv r)) (.cons (.int _) .nil))))
theorem lad_lay (room deep total : Int) (ps : Sps) : (ladD room deep total ps).canLay0 = true ∧ (ladD room deep total ps).depth ≤ 8 := by
  have h := folds_lay ps
  unfold ladD
  simp only [PyData.canLay0, PyData.depth] at h
  refine ⟨?_, ?_⟩
  · simp [PyData.canLay0, PyData.canLayAll0, h.1]
  · have h2 := h.2
    simp only [PyData.depth, PyData.depthAll]
    omega
section
variable {P : Program} {w : World} {K : PySem.W.Frag} {mg : Str → Option Value} {base : Heap} {f : Addr} {fd : FuncData}
theorem ok_set (h_settling_of : Has P w K mg base "settling_of" 4 ["ladder"] spStl) (F : Fun K "settled" "settled" s_settled f fd) : FnOk P w K mg base CX0 5 f fd ["ladder"] spSet := by
  refine F.ok sc_settled (fun vs H Q E h => ?_) (fun cdv A outer s H vs Q E hr h => ?_)
  · obtain ⟨q, room, deep, total, ps, rfl, _⟩ := h
    rfl
  obtain ⟨q, room, deep, total, ps, rfl, lad, r0, r1, d1, kok, pl, hq⟩ := h
  refine ⟨_, (@pss_one _ _ _ (@ps_ret _ _ _ _ (@pe_ix _ _ _ _ _ _ _ ix_tup (pe_callH h_settling_of hr (@pa_cons _ _ _ _ _ (pv 0) pa_nil (by rfl))) pe_int (fun _ _ => rfl)))), ?_⟩
  exact ⟨_, rfl, q, room, deep, total, ps, rfl, lad, r0, r1, d1, kok, pl, fun t r l H' fs ps' g e_t nl lad' fa f1 st ok' pl' => ⟨t, _, 0, _, rfl, rfl, SqT.of e_t, rfl, hq r H' fs ps' g lad' st ok' pl'⟩⟩
theorem ok_fin (h_settling_of : Has P w K mg base "settling_of" 4 ["ladder"] spStl) (F : Fun K "folds_in" "folds_in" s_folds_in f fd) : FnOk P w K mg base CX0 5 f fd ["ladder"] spFin := by
  refine F.ok sc_folds_in (fun vs H Q E h => ?_) (fun cdv A outer s H vs Q E hr h => ?_)
  · obtain ⟨q, room, deep, total, ps, rfl, _⟩ := h
    rfl
  obtain ⟨q, room, deep, total, ps, rfl, lad, r0, r1, d1, kok, pl, hq⟩ := h
  refine ⟨_, (@pss_one _ _ _ (@ps_ret _ _ _ _ (@pe_ix _ _ _ _ _ _ _ ix_tup (pe_callH h_settling_of hr (@pa_cons _ _ _ _ _ (pv 0) pa_nil (by rfl))) pe_int (fun _ _ => rfl)))), ?_⟩
  exact ⟨_, rfl, q, room, deep, total, ps, rfl, lad, r0, r1, d1, kok, pl, fun t r l H' fs ps' g e_t nl lad' fa f1 st ok' pl' => ⟨t, _, 1, _, rfl, rfl, SqT.of e_t, rfl, hq l H' fs ps' g nl fa f1 st⟩⟩
end
end K22

namespace K22
open PySem L2 Ld
def spRgt : Sp := fun vs H Q _ => ∃ (q d t : Addr) (room deep : Int) (ps qs fs qs' : Sps), vs = [.ref q, .ref d, .ref t] ∧ LadAt H q room deep (sumS qs) ps ∧ 1 ≤ room ∧ room ≤ 20 ∧ deep ≤ 20 ∧ Kok deep (ps.map (·.1)) ∧ ps.length < 64 ∧ H d = some (.dT (tvOf qs)) ∧ qs.length < 64 ∧ FsAt H t fs ∧ Stl deep (sumS qs / room) ps fs qs' ∧ qs'.Perm qs ∧
  ∀ H', Same H H' → Q (.bl true) H'
section
variable {P : Program} {w : World} {K : PySem.W.Frag} {mg : Str → Option Value} {base : Heap} {f : Addr} {fd : FuncData}
theorem ok_rgt (z_isinstance : mg "isinstance" = none) (z_tuple : mg "tuple" = none) (z_list : mg "list" = none) (h_l_whole : Has P w K mg base "_law_whole" 1 ["_law_thing"] spWh) (h_l_is_typed : Has P w K mg base "_law_is_typed" 2 ["_law_found"] spTyp) (h_l_ladder : Has P w K mg base "_law_ladder" 1 ["_law_now", "_law_room", "_law_deep"] spLad) (h_settled : Has P w K mg base "settled" 5 ["ladder"] spSet) (h_folds_in : Has P w K mg base "folds_in" 5 ["ladder"] spFin)
    (F : Fun K "_law_right" "_law_right" s_l_right f fd) : FnOk P w K mg base CX0 6 f fd ["_law_ladder_here", "_law_now", "_law_told"] spRgt := by
  refine F.ok sc_l_right (fun vs H Q E h => ?_) (fun cdv A outer s H vs Q E hr h => ?_)
  · obtain ⟨q, d, t, room, deep, ps, qs, fs, qs', rfl, _⟩ := h
    rfl
  obtain ⟨q, d, t, room, deep, ps, qs, fs, qs', rfl, lad, r0, r1, d1, kok, pl, e_d, ql, fa, stl, pm, hq⟩ := h
  obtain ⟨c, as, e_q, e_c, pr⟩ := lad.at_
  refine ⟨_, (@pss_cons _ _ _ _ _ (ps_asg (pv 0) (pg_tup rfl (pgs_cons (pg_name (i := 3) sc_l_right.nd rfl (Or.inl rfl)) (pgs_cons (pg_name (i := 4) sc_l_right.nd rfl (Or.inl rfl)) (pgs_cons (pg_name (i := 5) sc_l_right.nd rfl (Or.inl rfl)) (pgs_cons (pg_name (i := 6) sc_l_right.nd rfl (Or.inl rfl)) pgs_nil)))))) pss_run), ?_⟩
  refine ⟨_, rfl, q, _, rfl, SqT.of e_q, rfl, _, _, rfl, _, _, rfl, _, _, rfl, _, _, rfl, rfl, ?_⟩
  refine ⟨_, (@pss_cons _ _ _ _ _ (@ps_set _ _ 7 _ _ _ _ sc_l_right.nd rfl (Or.inl rfl) (pe_callH h_settled hr (@pa_cons _ _ _ _ _ (pv 0) pa_nil (by rfl))) (by rfl) (by first | exact .inl rfl | exact .inr rfl)) pss_run), ?_⟩
  refine ⟨_, rfl, q, room, deep, _, ps, rfl, lad, r0, r1, d1, kok, pl, fun r H1 fs1 ps1 g1 lr st1 ok1 pl1 => ?_⟩
  obtain ⟨ef, pm1⟩ := stl_det st1 stl (.refl _) kok.nd
  have es : srtP2 ps1 = srtP2 qs := srtP2_eq (pm1.trans pm)
  rw [es] at lr
  have sl : (srtP2 qs).length = qs.length := (srtP2_perm qs).length_eq
  refine ⟨_, (@pss_cons _ _ _ _ _ (@ps_if _ _ _ _ _ _ _ _ (PW.pt (@pw_or _ _ _ _ _ _ _ (@pt_not _ _ _ _ (pt_val (pe_callH h_l_is_typed hr (@pa_cons _ _ _ _ _ (pv 7) pa_nil (by rfl))))) (@pw_or1 _ _ _ _ (@pt_cmpR _ _ _ _ _ _ _ _ (op_neD hr.units) (pv 7) (pe_callH h_l_ladder hr (@pa_cons _ _ _ _ _ (pv 1) (@pa_cons _ _ _ _ _ (pv 3) (@pa_cons _ _ _ _ _ (pv 4) pa_nil (by rfl)) (by rfl)) (by rfl))) (nomark _))))) (@pss_one _ _ _ (@ps_ret _ _ _ _ pe_bl)) pss_nil) pss_run), ?_⟩
  refine ⟨_, rfl, r, room, deep, _, _, rfl, lr, by omega, fun H2 g2 => ⟨_, rfl, iteF ?_⟩⟩
  have gg := g1.trans g2
  have lr := lr.mono g2
  refine ⟨_, rfl, _, rfl, _, rfl, _, rfl, d, room, deep, qs, rfl, gg _ _ e_d, ql, fun r2 H3 g3 lr2 => ?_⟩
  have gg := gg.trans g3
  have lr := lr.mono g3
  have ll := lad_lay room deep (sumS qs) (srtP2 qs)
  refine ⟨_, _, lr.dv, lr2.dv, shaped_of ll (by decide), shaped_of ll (by decide), _, rfl, ?_⟩
  rw [eqv_self ll]
  refine iteF ⟨_, (@pss_cons _ _ _ _ _ (@ps_set _ _ 8 _ _ _ _ sc_l_right.nd rfl (Or.inl rfl) (pe_callH h_folds_in hr (@pa_cons _ _ _ _ _ (pv 0) pa_nil (by rfl))) (by rfl) (by first | exact .inl rfl | exact .inr rfl)) pss_run), ?_⟩
  refine ⟨_, rfl, q, room, deep, _, ps, rfl, lad.mono gg, r0, r1, d1, kok, pl, fun l H4 fs2 ps2 g4 nl fl f1 st2 => ?_⟩
  obtain ⟨ef2, _⟩ := stl_det st2 stl (.refl _) kok.nd
  rw [ef2] at fl f1
  have nHl : H l = none := gg.free nl
  have gg := gg.trans g4
  obtain ⟨bs, e_l, pb⟩ := id fl
  have kl : Kd H4 (.ref l) "list" := .lst e_l
  have fl2 := folds_lay fs
  refine ⟨_, (@pss_cons _ _ _ _ _ (@ps_if _ _ _ _ _ _ _ _ (PW.pt (@pw_or _ _ _ _ _ _ _ (@pt_not _ _ _ _ (pt_val (pe_callB call_is rfl z_isinstance PyProof.Rows.boot_isinstance (@pa_cons _ _ _ _ _ (pv 8) (@pa_cons _ _ _ _ _ (pe_bltn (v := .ty "list") rfl z_list PyProof.Rows.boot_list rfl) pa_nil (by rfl)) (by rfl))))) (@pw_or1 _ _ _ _ (@pt_cmpR _ _ _ _ _ _ _ _ (op_neD hr.units) (pv 8) (pv 2) (nomark _))))) (@pss_one _ _ _ (@ps_ret _ _ _ _ pe_bl)) pss_nil) pss_run), ?_⟩
  refine ⟨_, rfl, _, _, "list", _, rfl, kl.ty, kl.kit (by decide) rfl, _, rfl, iteF ?_⟩
  refine ⟨_, rfl, _, rfl, _, _, fl.dv, (fa.same gg).dv, shaped_of fl2 (by decide), shaped_of fl2 (by decide), _, rfl, ?_⟩
  rw [eqv_self fl2]
  refine iteF ⟨_, (@pss_cons _ _ _ _ _ (ps_for PassesOwn.never rfl (pi_list (pv 8)) (pg_name (i := 9) sc_l_right.nd rfl (Or.inl rfl))
  (@pss_cons _ _ _ _ _ (@ps_if _ _ _ _ _ _ _ _ (PW.pt (@pw_or _ _ _ _ _ _ _ (@pt_not _ _ _ _ (pt_val (pe_callB call_is rfl z_isinstance PyProof.Rows.boot_isinstance (@pa_cons _ _ _ _ _ (pv 9) (@pa_cons _ _ _ _ _ (pe_bltn (v := .ty "tuple") rfl z_tuple PyProof.Rows.boot_tuple rfl) pa_nil (by rfl)) (by rfl))))) (@pw_or _ _ _ _ _ _ _ (@pt_not _ _ _ _ (pt_val (pe_callB call_is rfl z_isinstance PyProof.Rows.boot_isinstance (@pa_cons _ _ _ _ _ (@pe_ix _ _ _ _ _ _ _ ix_tup (pv 9) pe_int (fun _ _ => rfl)) (@pa_cons _ _ _ _ _ (pe_bltn (v := .ty "tuple") rfl z_tuple PyProof.Rows.boot_tuple rfl) pa_nil (by rfl)) (by rfl))))) (@pw_or1 _ _ _ _ (@pt_not _ _ _ _ (pt_val (pe_callH h_l_whole hr (@pa_cons _ _ _ _ _ (@pe_ix _ _ _ _ _ _ _ ix_tup (pv 9) pe_int (fun _ _ => rfl)) pa_nil (by rfl))))))))) (@pss_one _ _ _ (@ps_ret _ _ _ _ pe_bl)) pss_nil)
  (@pss_one _ _ _ (@ps_if _ _ _ _ _ _ _ _ (PW.pt (@pw_or _ _ _ _ _ _ _ (@pt_not _ _ _ _ (pt_val (pe_callH h_l_whole hr (@pa_cons _ _ _ _ _ (@pe_ix _ _ _ _ _ _ _ ix_tup (@pe_ix _ _ _ _ _ _ _ ix_tup (pv 9) pe_int (fun _ _ => rfl)) pe_int (fun _ _ => rfl)) pa_nil (by rfl))))) (@pw_or1 _ _ _ _ (@pt_not _ _ _ _ (pt_val (pe_callH h_l_whole hr (@pa_cons _ _ _ _ _ (@pe_ix _ _ _ _ _ _ _ ix_tup (@pe_ix _ _ _ _ _ _ _ ix_tup (pv 9) pe_int (fun _ _ => rfl)) pe_int (fun _ _ => rfl)) pa_nil (by rfl)))))))) (@pss_one _ _ _ (@ps_ret _ _ _ _ pe_bl)) pss_nil)))) pss_run), ?_⟩
  refine ⟨_, rfl, l, rfl, ⟨_, SqL.of e_l⟩, ?_⟩
  have bl := Paired.length pb
  refine for_listH (xs := bs.map V.ref) (fun i σ H' => H' = H4 ∧ ∃ (o9 : Option V), σ = [some (.ref q), some (.ref d), some (.ref t), some (.int room), some (.int deep), some (.ref c), some (.int (sumS qs)), some (.ref r), some (.ref l), o9]) ⟨rfl, _, rfl⟩ ?_ ?_ ?_
  · rintro i σ H' _ ⟨rfl, _⟩
    exact SqL.of e_l
  · rintro i x σ H' N B1 R hN hR hx ⟨rfl, o9, rfl⟩
    obtain ⟨a, p, rfl, hp, b, e_a, e_b⟩ := ft_get pb hx
    have ka : Kd H' (.ref a) "tuple" := .tup e_a
    have kb : Kd H' (.ref b) "tuple" := .tup e_b
    refine ⟨_, rfl, _, _, "tuple", _, rfl, ka.ty, ka.kit (by decide) rfl, _, rfl, iteF ?_⟩
    refine ⟨_, rfl, a, _, 0, _, rfl, rfl, SqT.of e_a, rfl, _, _, "tuple", _, rfl, kb.ty, kb.kit (by decide) rfl, _, rfl, iteF ?_⟩
    refine ⟨_, rfl, a, _, 1, _, rfl, rfl, SqT.of e_a, rfl, p.2, rfl, _, rfl, iteF ?_⟩
    refine ⟨_, rfl, a, _, 0, _, rfl, rfl, SqT.of e_a, rfl, b, _, 0, _, rfl, rfl, SqT.of e_b, rfl, p.1.1, rfl, _, rfl, iteF ?_⟩
    refine ⟨_, rfl, a, _, 0, _, rfl, rfl, SqT.of e_a, rfl, b, _, 1, _, rfl, rfl, SqT.of e_b, rfl, p.1.2, rfl, _, rfl, iteF ?_⟩
    exact hN _ _ ⟨rfl, _, rfl⟩
  rintro σ H' ⟨rfl, o9, rfl⟩
  refine ⟨_, (@pss_cons _ _ _ _ _ (ps_expr (pe_bm PySem.F.plainAttrs_list PySem.F.slot_list_append PySem.F.type_list_append mt_append (pv 8) (@pa_cons _ _ _ _ _ (@pe_tup _ _ _ _ _ (@pa_cons _ _ _ _ _ (@pe_tup _ _ _ _ _ (@pa_cons _ _ _ _ _ pe_int (@pa_cons _ _ _ _ _ pe_int pa_nil (by rfl)) (by rfl))) (@pa_cons _ _ _ _ _ pe_int pa_nil (by rfl)) (by rfl))) pa_nil (by rfl)))) pss_run), ?_⟩
  refine ⟨_, rfl, .inl ⟨rfl, _, SqL.of e_l⟩, leN rfl, ?_⟩
  intro u1 n_u1
  generalize hz : upd _ u1 _ = H5
  have gz := laid_same hz n_u1
  have e_u1 := laid_at hz
  clear hz
  have gg := gg.trans gz
  have e_l := gz _ _ e_l
  refine ⟨leN rfl, ?_⟩
  intro u2 n_u2
  generalize hz : upd _ u2 _ = H6
  have gz := laid_same hz n_u2
  have e_u2 := laid_at hz
  clear hz
  have gg := gg.trans gz
  have e_l := gz _ _ e_l
  refine ⟨l, _, _, rfl, rfl, e_l, small_lt (by rw [List.length_map]; omega), _, (@pss_one _ _ _ (@ps_ret _ _ _ _ pe_bl)), hq _ fun x w e => ?_⟩
  rw [upd_ne (ne_of_none e nHl)]
  exact gg _ _ e
end
end K22

namespace L2
open PySem PySem.Spec PyProof.Rows
/-! ### dict(a list of pairs whose first ones are tuples) -/
section
variable {prog : Program} {w : World} {A : Around} {E : Value → Shared → Prop} {s : Shared}
/-- dict(t), a list of pairs -/
theorem call_dict_rawL {l : Addr} {its : List Value} {k : Nat} {sl : Array (Option Value)} {ps : List TKv} {Q : Value → Shared → Prop} (hh : A.handled = none) (hu : A.units + 3 < cLine)
    (hl : s.heap.get? l = some { cls := .type "list", dict := none, data := .seq its.toArray k, slots := sl }) (hlen : its.length = ps.length) (hb : ps.length ≤ 100000) (hp : ∀ (j : Nat) p, ps[j]? = some p → ∃ v, its[j]? = some v ∧ PairH prog w s.heap p v [])
    (h : ∀ g tk, (∀ b o, s.heap.get? b = some o → g.get? b = some o) → RawH prog w g s.heap.objs.size (mrgH ps) → Q (.ref s.heap.objs.size) { s with heap := g, toks := tk }) : wpAny (model prog w) A (call (.type "dict") [.ref l]) Q E s := by
  refine callType_codes (Q₁ := fun obj s₁ => obj = .ref s.heap.objs.size ∧ s₁ = { s with heap := s.heap.push { cls := .type "dict", data := .dict #[] } }) F.kt_called_dict (F.kt_typeCall_dict_1 _) F.entry_dict_init (kt_code_dict_new _ ⟨rfl, rfl⟩) ?_
  rintro obj s₁ ⟨rfl, rfl⟩
  have gD : (s.heap.push { cls := .type "dict", data := .dict #[] }).get? s.heap.objs.size = some { cls := .type "dict", data := .dict #[] } := Heap.get?_push_size _ rfl
  have hl1 : (s.heap.push { cls := .type "dict", data := .dict #[] }).get? l = some { cls := .type "list", dict := none, data := .seq its.toArray k, slots := sl } := Heap.get?_push_of_some _ hl
  refine ⟨⟨_, gD, rfl⟩, F.args_dict_init_2 _ _, ?_⟩
  unfold Builtin.«dict.__init__»
  refine wpAny_bind ?_
  unfold Builtin.Dict.selfAndRest
  refine wpAny_bind (wpAny_notOrdered_dict ⟨_, gD, rfl⟩ (wpAny_pure (a := (s.heap.objs.size, [Value.ref l])) ?_))
  show wpAny (model prog w) _ (Builtin.Dict.updateFrom "dict.__init__" s.heap.objs.size (.ref l) [] .none) _ _ _
  unfold Builtin.Dict.updateFrom
  refine wpAny_bind (wpAny_typeOf (T := "list") ⟨_, hl1, rfl⟩ ?_)
  rw [if_pos (by decide)]
  refine wpAny_bind (keysL hl1 (by simpa using hh) fun g tk kp => ?_)
  rw [if_pos (by rfl)]
  have ltD : s.heap.objs.size < g.objs.size := Heap.lt_size (kp _ _ gD)
  have ltl : l < s.heap.objs.size := Heap.lt_size hl
  have hl2 : g.IsList l its.toArray := ⟨_, kp _ _ hl1, rfl, k, rfl⟩
  refine wpAny_bind (wpAny_rule (wpAny_bind (wpAny_pyIter_list hl2 (wpAny_pure ⟨plainId_quiet plain_dloop _, ?_⟩))))
  have hne : l ≠ g.objs.size := Nat.ne_of_lt (Nat.lt_trans ltl ltD)
  have nin : s.heap.objs.size ∉ [g.objs.size, l] := fun q => by
    rcases List.mem_cons.mp q with q | q
    · exact Nat.ne_of_lt ltD q
    · exact Nat.ne_of_gt ltl (List.mem_singleton.mp q)
  have nout : ∀ {b : Addr}, b < s.heap.objs.size → b ∉ [s.heap.objs.size, g.objs.size] := fun {b} lt q => by
    rcases List.mem_cons.mp q with q | q
    · exact Nat.ne_of_lt lt q
    · exact Nat.ne_of_lt (Nat.lt_trans lt ltD) (List.mem_singleton.mp q)
  have keep : ∀ b o, s.heap.get? b = some o → (g.push { cls := .type "list_iterator", data := .fields #[.ref l, .int 0 0] }).get? b = some o := fun b o e => Heap.get?_push_of_some _ (kp _ _ (Heap.get?_push_of_some _ e))
  refine dict_loopT (A := A.in1) (Walks.list (by simpa using hh) g.objs.size l hne its.toArray) (by show A.units + 1 + 1 < cLine; omega) s.heap.objs.size nin ps (by rw [List.size_toArray]; omega) its (fun i v e => by simpa using e) (by rw [List.size_toArray]; omega) its.toArray.size 0 _ (Nat.sub_zero _) (Nat.zero_le _) ⟨⟨_, Heap.get?_push_size _ rfl, rfl, rfl⟩, hl2.push _⟩ ⟨_, #[], 0, Heap.get?_push_of_some _ (kp _ _ gD), ⟨rfl, rfl, rfl⟩, rfl, rfl, List.nodup_nil⟩ (fun j p e => ?_) fun g' tk' kp' so' => ⟨rfl, h g' tk' (fun b o e => kp' b o (nout (Heap.lt_size e)) ?_) so'⟩
  · obtain ⟨v, hv, a, o, m, rfl, _, _, ha, r1, r2, r3⟩ := hp j p e
    have la := Heap.lt_size ha
    have lk : p.2.1 < s.heap.objs.size := by
      obtain ⟨_, _, _, h1, _⟩ := r3
      exact Heap.lt_size h1
    exact ⟨_, hv, a, o, m, rfl, nout la, nout lk, Heap.get?_push_of_some _ (kp _ _ (Heap.get?_push_of_some _ ha)), r1, r2, tk_mono r3 fun o e => Heap.get?_push_of_some _ (kp _ _ (Heap.get?_push_of_some _ e))⟩
  · exact Heap.get?_push_of_some _ (kp _ _ (Heap.get?_push_of_some _ e))
end
section
variable {X : Cx}
def rDictLT (K : PySem.W.Frag) : List V → Hp → VK → Prop := fun xs H Q => ∃ (l : Addr) (ys : List V) (kvs : List (List Key × V)), xs = [.ref l] ∧ SqL K H l ys ∧ TPsAt H ys kvs ∧ kvs.length ≤ 1000 ∧ ∀ p, H p = none → Q (.ref p) (upd H p (.dT (mrgTV kvs)))
theorem call_dictLT (hc : X.calm = true) (hu : X.A.units + 64 < cLine) : CallR X (.type "dict") (rDictLT X.K) := by
  intro pins s σ H xs us Q I rx h
  obtain ⟨l, ys, kvs, rfl, hq, pa, hlen, q⟩ := h
  obtain ⟨u, rfl, ru⟩ := vals1 rx
  cases ru
  obtain ⟨its, rv, ⟨⟨c0, d0, dt0, sl0⟩, m, ho, hcl, hdn, hs⟩, _⟩ := I.list hq
  simp only at hcl hdn hs
  subst hcl hdn hs
  obtain ⟨ps, kt, hl, hp⟩ := tps_real I pa rv
  have kl := Paired.length kt
  refine call_dict_rawL (I.ok.hd hc) (by omega) ho hl (by omega) hp fun g tk kp hD => ?_
  have km := mrgKT kt
  have ml := mrgH_len ps
  refine ⟨.ref s.heap.objs.size, _, I.laid (t' := tk) (o := .dT (mrgTV kvs)) kp (Nat.le_refl _) ⟨small_le (by rw [Paired.length km]; omega), beq_eq_false_iff_ne.mpr (Nat.ne_of_gt I.big), mrgH ps, ?_, hD⟩, rfl, q _ (I.hok.fresh (Nat.le_refl _))⟩
  exact KT.keeps km fun b ys e => by rw [upd_ne (ne_of_none e (I.hok.fresh (Nat.le_refl _)))]; exact e
end
end L2

namespace K22
open PySem L2 Ld
def rowsZ : List (Int × Int × Int) := [(0, 0, 6), (0, 1, 2), (0, 6, 64), (1, 0, 5), (1, 2, 3)]
def frd (at_ many : Int) : Sps := rowsZ.map fun t => ((t.1, at_ * 2 ^ (3 - t.1).toNat + t.2.1), t.2.2 * many)
theorem frd_ok {deep at_ many : Int} (d0 : 3 ≤ deep) (a0 : 0 ≤ at_) (a1 : at_ < 2 ^ (deep - 3).toNat) (m1 : 1 ≤ many) : Pok deep (frd at_ many) := by
  have e0 : (2 : Int) ^ (deep - 0).toNat = 2 ^ (deep - 3).toNat * 8 := by
    rw [show (deep - 0).toNat = (deep - 3).toNat + 3 by omega, Int.pow_add]
    rfl
  have e1 : (2 : Int) ^ (deep - 1).toNat = 2 ^ (deep - 3).toNat * 4 := by
    rw [show (deep - 1).toNat = (deep - 3).toNat + 2 by omega, Int.pow_add]
    rfl
  have e : frd at_ many = [((0, at_ * 8 + 0), 6 * many), ((0, at_ * 8 + 1), 2 * many), ((0, at_ * 8 + 6), 64 * many), ((1, at_ * 4 + 0), 5 * many), ((1, at_ * 4 + 2), 3 * many)] := rfl
  rw [e]
  refine ⟨⟨?_, fun k hk => ?_⟩, fun p hp => ?_⟩
  · simp only [List.map_cons, List.map_nil, List.nodup_cons, List.mem_cons, List.not_mem_nil, or_false, Prod.mk.injEq, not_or, not_false_eq_true, List.nodup_nil, and_true]
    omega
  · simp only [List.map_cons, List.map_nil, List.mem_cons, List.not_mem_nil, or_false] at hk
    rcases hk with rfl | rfl | rfl | rfl | rfl
    all_goals
      first
      | (refine ⟨by show (0 : Int) ≤ 0; omega, by show (0 : Int) ≤ deep; omega, by show (0 : Int) ≤ _; omega, ?_⟩; show _ < (2 : Int) ^ (deep - 0).toNat; rw [e0]; show _ < _; omega)
      | (refine ⟨by show (0 : Int) ≤ 1; omega, by show (1 : Int) ≤ deep; omega, by show (0 : Int) ≤ _; omega, ?_⟩; show _ < (2 : Int) ^ (deep - 1).toNat; rw [e1]; show _ < _; omega)
  · simp only [List.mem_cons, List.not_mem_nil, or_false] at hp
    rcases hp with rfl | rfl | rfl | rfl | rfl <;> (show (1 : Int) ≤ _ * many; omega)
def spFreed (K : PySem.W.Frag) : Sp := fun vs H Q _ => ∃ (a S : Addr) (ns : List Int) (deep : Int), vs = [.ref a, .int deep] ∧ Pn K S ns H a ∧ 3 ≤ deep ∧ deep ≤ 10 ∧ ∀ (d : Addr) (H' : Hp) (ps : Sps), H d = none → hide a H' d = some (.dT (tvOf ps)) → Pok deep ps → ps.length ≤ 60 → Pn K S ns H' a → Grw a H H' → Q (.ref d) H'
def RwAt (H : Hp) : List V → List (Int × Int × Int) → Prop := Paired fun x t => ∃ c : Addr, x = .ref c ∧ H c = some (.tup [.int t.1, .int t.2.1, .int t.2.2])
theorem RwAt.get {H : Hp} : ∀ {xs : List V} {ts : List (Int × Int × Int)} {j : Nat} {x : V}, RwAt H xs ts → xs[j]? = some x → ∃ c t, x = .ref c ∧ ts[j]? = some t ∧ H c = some (.tup [.int t.1, .int t.2.1, .int t.2.2])
  | _, _, _, _, .nil, e => by simp at e
  | _, _, 0, _, .cons h _, e => by
    rw [List.getElem?_cons_zero] at e
    cases e
    obtain ⟨c, e, q⟩ := h
    exact ⟨c, _, e, rfl, q⟩
  | _, _, j + 1, _, .cons _ r, e => RwAt.get (j := j) r (by simpa using e)
theorem grw_free {a p : Addr} {H H' : Hp} (g : Grw a H H') (pa : p ≠ a) (n : H' p = none) : H p = none := by
  cases e : H p with
  | none => rfl
  | some o =>
    have := (hide_some (g p o (by rw [hide_ne pa]; exact e))).2
    rw [this] at n
    cases n
section
variable {P : Program} {w : World} {K : PySem.W.Frag} {mg : Str → Option Value} {base : Heap} {f : Addr} {fd : FuncData}
theorem ok_freed (z_dict : mg "dict" = none) (h_l_take : Has P w K mg base "_law_take" 1 ["_law_pen_here", "_law_most"] (spTake K)) (h_l_many : Has P w K mg base "_law_many" 2 ["_law_pen_here"] (spMany K)) (F : Fun K "_law_freed" "_law_freed" s_l_freed f fd) : FnOk P w K mg base CX0 3 f fd ["_law_pen_here", "_law_deep"] (spFreed K) := by
  refine F.ok sc_l_freed (fun vs H Q E h => ?_) (fun cdv A outer s H vs Q E hr h => ?_)
  · obtain ⟨a, S, ns, deep, rfl, _⟩ := h
    rfl
  obtain ⟨a, S, ns, deep, rfl, hp, d0, d1, hq⟩ := h
  have tw := two_small (m := deep - 3) (by omega)
  refine ⟨_, (@pss_cons _ _ _ _ _ (@ps_set _ _ 2 _ _ _ _ sc_l_freed.nd rfl (Or.inr rfl) (pe_callH h_l_many hr (@pa_cons _ _ _ _ _ (pv 0) pa_nil (by rfl))) (by rfl) (by first | exact .inl rfl | exact .inr rfl)) pss_run), ?_⟩
  refine ⟨_, rfl, a, S, ns, rfl, hp, fun many H1 m1 hp g1 => ?_⟩
  refine ⟨_, (@pss_cons _ _ _ _ _ (@ps_set _ _ 3 _ _ _ _ sc_l_freed.nd rfl (Or.inr rfl) (pe_callH h_l_take hr (@pa_cons _ _ _ _ _ (pv 0) (@pa_cons _ _ _ _ _ (@pe_op _ _ _ _ _ _ _ _ op_shl pe_int (@pe_op _ _ _ _ _ _ _ _ op_sub (pv 1) pe_int)) pa_nil (by rfl)) (by rfl))) (by rfl) (by first | exact .inl rfl | exact .inr rfl)) pss_run), ?_⟩
  refine ⟨_, rfl, _, rfl, _, _, rfl, rfl, _, _, rfl, rfl, ⟨by omega, by omega, by decide⟩, a, S, ns, _, rfl, hp, by rw [Int.one_mul]; omega, by rw [Int.one_mul]; omega, fun t H2 t0 t1 hp g2 => ?_⟩
  rw [Int.one_mul] at t1
  have g0 := g1.trans g2
  have gg : Same H2 H2 := Same.refl _
  refine ⟨_, (@pss_cons _ _ _ _ _ (@ps_set _ _ 4 _ _ _ _ sc_l_freed.nd rfl (Or.inl rfl) (@pe_lst _ _ _ _ (@pa_cons _ _ _ _ _ (@pe_tup _ _ _ _ _ (@pa_cons _ _ _ _ _ pe_int (@pa_cons _ _ _ _ _ pe_int (@pa_cons _ _ _ _ _ pe_int pa_nil (by rfl)) (by rfl)) (by rfl))) (@pa_cons _ _ _ _ _ (@pe_tup _ _ _ _ _ (@pa_cons _ _ _ _ _ pe_int (@pa_cons _ _ _ _ _ pe_int (@pa_cons _ _ _ _ _ pe_int pa_nil (by rfl)) (by rfl)) (by rfl))) (@pa_cons _ _ _ _ _ (@pe_tup _ _ _ _ _ (@pa_cons _ _ _ _ _ pe_int (@pa_cons _ _ _ _ _ pe_int (@pa_cons _ _ _ _ _ pe_int pa_nil (by rfl)) (by rfl)) (by rfl))) (@pa_cons _ _ _ _ _ (@pe_tup _ _ _ _ _ (@pa_cons _ _ _ _ _ pe_int (@pa_cons _ _ _ _ _ pe_int (@pa_cons _ _ _ _ _ pe_int pa_nil (by rfl)) (by rfl)) (by rfl))) (@pa_cons _ _ _ _ _ (@pe_tup _ _ _ _ _ (@pa_cons _ _ _ _ _ pe_int (@pa_cons _ _ _ _ _ pe_int (@pa_cons _ _ _ _ _ pe_int pa_nil (by rfl)) (by rfl)) (by rfl))) pa_nil (by rfl)) (by rfl)) (by rfl)) (by rfl)) (by rfl))) (by rfl) (by first | exact .inl rfl | exact .inr rfl)) pss_run), leN rfl, ?_⟩
  intro c1 n_c1
  generalize hz : upd _ c1 _ = G1
  have gz := laid_same hz n_c1
  have e_c1 := laid_at hz
  clear hz
  have gg := gg.trans gz
  refine ⟨leN rfl, ?_⟩
  intro c2 n_c2
  generalize hz : upd _ c2 _ = G2
  have gz := laid_same hz n_c2
  have e_c2 := laid_at hz
  clear hz
  have gg := gg.trans gz
  have e_c1 := gz _ _ e_c1
  refine ⟨leN rfl, ?_⟩
  intro c3 n_c3
  generalize hz : upd _ c3 _ = G3
  have gz := laid_same hz n_c3
  have e_c3 := laid_at hz
  clear hz
  have gg := gg.trans gz
  have e_c1 := gz _ _ e_c1
  have e_c2 := gz _ _ e_c2
  refine ⟨leN rfl, ?_⟩
  intro c4 n_c4
  generalize hz : upd _ c4 _ = G4
  have gz := laid_same hz n_c4
  have e_c4 := laid_at hz
  clear hz
  have gg := gg.trans gz
  have e_c1 := gz _ _ e_c1
  have e_c2 := gz _ _ e_c2
  have e_c3 := gz _ _ e_c3
  refine ⟨leN rfl, ?_⟩
  intro c5 n_c5
  generalize hz : upd _ c5 _ = G5
  have gz := laid_same hz n_c5
  have e_c5 := laid_at hz
  clear hz
  have gg := gg.trans gz
  have e_c1 := gz _ _ e_c1
  have e_c2 := gz _ _ e_c2
  have e_c3 := gz _ _ e_c3
  have e_c4 := gz _ _ e_c4
  refine ⟨leN rfl, ?_⟩
  intro R n_R
  generalize hz : upd _ R _ = G6
  have gz := laid_same hz n_R
  have e_R := laid_at hz
  clear hz
  have gg := gg.trans gz
  have e_c1 := gz _ _ e_c1
  have e_c2 := gz _ _ e_c2
  have e_c3 := gz _ _ e_c3
  have e_c4 := gz _ _ e_c4
  have e_c5 := gz _ _ e_c5
  have ra : RwAt G6 [.ref c1, .ref c2, .ref c3, .ref c4, .ref c5] rowsZ := .cons ⟨c1, rfl, e_c1⟩ (.cons ⟨c2, rfl, e_c2⟩ (.cons ⟨c3, rfl, e_c3⟩ (.cons ⟨c4, rfl, e_c4⟩ (.cons ⟨c5, rfl, e_c5⟩ .nil))))
  clear e_c1 e_c2 e_c3 e_c4 e_c5
  have pok := frd_ok (many := many) d0 t0 t1 m1
  have fe : frd t many = rowsZ.map fun z => ((z.1, t * 2 ^ (3 - z.1).toNat + z.2.1), z.2.2 * many) := rfl
  have rz : ∀ z ∈ rowsZ, 0 ≤ z.1 ∧ z.1 ≤ 1 ∧ -1000 < z.2.2 ∧ z.2.2 < 1000 := by decide
  have rl : rowsZ.length = 5 := rfl
  have fl : (frd t many).length = 5 := rfl
  generalize rowsZ = rs at ra fe rz rl
  refine ⟨_, (@pss_one _ _ _ (@ps_ret _ _ _ _ (pe_callTy (call_dictLT rfl hr.units) rfl z_dict PyProof.Rows.boot_dict (@pa_cons _ _ _ _ _ (pe_comp (own := ["_law_height", "_law_index", "_law_count"]) (CompOk.of rfl rfl (by rfl) (by rfl) (by rfl)) (pi_list (pv 4))
    (fun _ _ _ _ _ => (pg_tupK K 3 rfl rfl (pgs_cons (pg_name (i := 0) nd_l_freed_137_16 rfl (Or.inl rfl) (Or.inr rfl)) (pgs_cons (pg_name (i := 1) nd_l_freed_137_16 rfl (Or.inl rfl) (Or.inr rfl)) (pgs_cons (pg_name (i := 2) nd_l_freed_137_16 rfl (Or.inl rfl) (Or.inr rfl)) pgs_nil))))) (fun _ _ _ _ _ => pts_nil)
    (fun _ _ _ _ _ => (@pe_tup _ _ _ _ _ (@pa_cons _ _ _ _ _ (@pe_tup _ _ _ _ _ (@pa_cons _ _ _ _ _ (pv 0) (@pa_cons _ _ _ _ _ (@pe_op _ _ _ _ _ _ _ _ op_add (@pe_op _ _ _ _ _ _ _ _ op_shl (pv 6) (@pe_op _ _ _ _ _ _ _ _ op_sub pe_int (pv 0))) (pv 1)) pa_nil (by rfl)) (by rfl))) (@pa_cons _ _ _ _ _ (@pe_op _ _ _ _ _ _ _ _ op_mul (pv 2) (pv 5)) pa_nil (by rfl)) (by rfl))))) pa_nil (by rfl))))), _, rfl, R, rfl, ⟨_, SqL.of e_R⟩, ?_⟩
  refine comp_list (xs := [.ref c1, .ref c2, .ref c3, .ref c4, .ref c5]) (fun n ys H' => Same G6 H' ∧ ∃ as : List Addr, ys = as.map V.ref ∧ Paired (FT H') as ((rs.take n).map fun z => ((z.1, t * 2 ^ (3 - z.1).toNat + z.2.1), z.2.2 * many))) ⟨Same.refl _, [], rfl, .nil⟩ ?_ ?_ ?_
  · rintro n ys H' _ ⟨g, _⟩
    exact SqL.of (g _ _ e_R)
  · rintro n x ys H' C hx ⟨g, as, rfl, pf⟩ hC
    obtain ⟨c, z, rfl, hz, e_c⟩ := ra.get hx
    have al := Paired.length pf
    rw [List.length_map, List.length_take] at al
    obtain ⟨z0, z1, z2, z3⟩ := rz z (List.mem_of_getElem? hz)
    refine ⟨small_lt (by rw [List.length_map]; omega), c, _, rfl, SqT.of (g _ _ e_c), rfl, _, _, rfl, _, _, rfl, _, _, rfl, rfl, Wk.refl _, ?_⟩
    refine ⟨_, rfl, _, rfl, _, rfl, _, _, rfl, rfl, _, _, rfl, rfl, ⟨by omega, by omega, by omega⟩, _, rfl, _, _, rfl, rfl, leN rfl, fun b nb => ?_⟩
    have sb := same_laid nb (.tup [.int z.1, .int (t * 2 ^ (3 - z.1).toNat + z.2.1)])
    have e_b : (upd H' b (.tup [.int z.1, .int (t * 2 ^ (3 - z.1).toNat + z.2.1)])) b = some (.tup [.int z.1, .int (t * 2 ^ (3 - z.1).toNat + z.2.1)]) := upd_same
    generalize upd H' b (.tup [.int z.1, .int (t * 2 ^ (3 - z.1).toNat + z.2.1)]) = H5 at sb e_b ⊢
    refine ⟨_, rfl, _, rfl, _, _, rfl, rfl, Or.inl ⟨by omega, by omega⟩, leN rfl, fun q nq => hC _ _ ⟨g.trans (sb.trans (same_laid nq _)), as ++ [q], by rw [List.map_append]; rfl, ?_⟩⟩
    rw [take_map _ hz]
    exact Paired.snoc (Paired.mapP pf fun _ _ f => ft_mono (sb.trans (same_laid nq _)) f) ⟨b, upd_same, same_laid nq _ _ _ e_b⟩
  rintro ys H' ⟨g, as, rfl, pf⟩
  have pf : Paired (FT H') as ((rs.take 5).map fun z => ((z.1, t * 2 ^ (3 - z.1).toNat + z.2.1), z.2.2 * many)) := pf
  rw [← rl, List.take_length, ← fe] at pf
  have al := Paired.length pf
  refine ⟨small_le (by rw [List.length_map]; omega), fun l nl => ?_⟩
  have sl := same_laid nl (.lst (as.map V.ref))
  have pf := Paired.mapP pf fun _ _ f => ft_mono sl f
  have gg := gg.trans (g.trans sl)
  have e_l : (upd H' l (.lst (as.map V.ref))) l = some (.lst (as.map V.ref)) := upd_same
  generalize upd H' l (.lst (as.map V.ref)) = G7 at pf gg e_l ⊢
  have nd : ((tvOf (frd t many)).map (·.1)).Nodup := by
    rw [tvOf_keys]
    exact List.pairwise_map.mpr (pok.kok.nd.imp fun h e => h (kk_inj e))
  refine ⟨l, _, _, rfl, SqL.of e_l, ft_tps pf, by rw [tvOf_len]; omega, fun d n_d => ?_⟩
  rw [mrgTV_nd nd]
  have sd := same_laid n_d (.dT (tvOf (frd t many)))
  have gg2 := gg.trans sd
  have hp7 := hp.same gg
  have hp := hp.same gg2
  refine hq d _ _ (grw_free g0 (hp7.ne n_d) (gg.free n_d)) (by rw [hide_ne (hp7.ne n_d)]; exact upd_same) pok (by omega) hp (g0.trans (by exact Same.grw gg2))
end
end K22

namespace K22
open PySem L2 Ld
theorem keep {G H H' : Hp} {a : Addr} (k : Same G H) (n : G a = none) (g : Grw a H H') : Same G H' := fun b w e => (hide_some (g b w (by rw [hide_ne (fun z => by rw [z, n] at e; cases e)]; exact k b w e))).2
theorem pn_grwD {K : PySem.W.Frag} {S : Addr} {ns : List Int} {H H' : Hp} {a d : Addr} {kvs : List (List Key × V)} (h : Pn K S ns H a) (e : H d = some (.dT kvs)) (g : Grw d H H') : Pn K S ns H' a := by
  have step : ∀ {x : Addr} {o : HO}, H x = some o → o ≠ .dT kvs → H' x = some o := fun {x o} ex no => (hide_some (g x _ (by rw [hide_ne (ne_of ex e no)]; exact ex))).2
  obtain ⟨⟨i, r, ea⟩, s, f⟩ := h
  refine ⟨⟨i, r, step ea (by intro z; cases z)⟩, ?_, f⟩
  rcases s with (s | ⟨u, s⟩) | s
  · exact .inl (.inl (step s (by intro z; cases z)))
  · exact .inl (.inr ⟨u, step s (by intro z; cases z)⟩)
  · exact .inr s
theorem LadAt.grw {H H' : Hp} {d q : Addr} {kvs : List (List Key × V)} {room deep total : Int} {ps : Sps} (g : Grw d H H') (e : H d = some (.dT kvs)) (h : LadAt H q room deep total ps) : LadAt H' q room deep total ps := let ⟨c, as, e1, e2, r⟩ := h.at_; ⟨c, as, Grw.tup (d := d) g e e1, Grw.tup (d := d) g e e2, Paired.mapP r fun _ _ ⟨y, f1, f2⟩ => ⟨y, Grw.tup (d := d) g e f1, Grw.tup (d := d) g e f2⟩⟩
theorem stl_perm {deep bar : Int} {ps fs ps' qs : Sps} (s : Stl deep bar ps fs ps') (p : ps.Perm qs) (nd : (ps.map (·.1)).Nodup) : ∃ qs', Stl deep bar qs fs qs' ∧ qs'.Perm ps' := by
  cases s with
  | done n => exact ⟨qs, .done (nof_perm n p nd), p.symm⟩
  | step f p1 s => exact ⟨ps', by rw [fl_perm p nd]; exact .step (f.perm p nd) (p1.trans (step_perm p nd f.in_)) s, .refl _⟩
theorem pn_putL {K : PySem.W.Frag} {S : Addr} {ns : List Int} {H0 H : Hp} {a L : Addr} {o : HO} (h0 : Pn K S ns H0 a) (n : H0 L = none) (h : Pn K S ns H a) (la : L ≠ a) : Pn K S ns (upd H L o) a := by
  obtain ⟨⟨i, r, ea⟩, s, f⟩ := h
  refine ⟨⟨i, r, by rw [upd_ne (Ne.symm la)]; exact ea⟩, ?_, f⟩
  obtain ⟨_, s0, _⟩ := h0
  rcases s0 with s0 | s0
  · have ne : S ≠ L := by
      rcases s0 with s0 | ⟨u, s0⟩
      · exact ne_of_none s0 n
      · exact ne_of_none s0 n
    rcases s with (s | ⟨u, s⟩) | s
    · exact .inl (.inl (by rw [upd_ne ne]; exact s))
    · exact .inl (.inr ⟨u, by rw [upd_ne ne]; exact s⟩)
    · exact .inr s
  · exact .inr s0
/-- what is held of one turn -/
def Hld (G : Hp) (x : V) : Prop := ∃ (c q d t : Addr) (room deep : Int) (ps qs fs qs' : Sps), x = .ref c ∧ G c = some (.tup [.ref q, .ref d, .ref t]) ∧ LadAt G q room deep (sumS qs) ps ∧ 1 ≤ room ∧ room ≤ 20 ∧ deep ≤ 20 ∧ Kok deep (ps.map (·.1)) ∧ ps.length < 64 ∧ G d = some (.dT (tvOf qs)) ∧ qs.length < 64 ∧ FsAt G t fs ∧ Stl deep (sumS qs / room) ps fs qs' ∧ qs'.Perm qs
theorem Hld.mono {G G' : Hp} {x : V} (g : Same G G') (h : Hld G x) : Hld G' x := by
  obtain ⟨c, q, d, t, room, deep, ps, qs, fs, qs', rfl, e_c, lad, r0, r1, d1, kok, pl, e_d, ql, fa, st, pm⟩ := h
  exact ⟨c, q, d, t, room, deep, ps, qs, fs, qs', rfl, g _ _ e_c, lad.mono g, r0, r1, d1, kok, pl, g _ _ e_d, ql, fa.same g, st, pm⟩
def spLaw (K : PySem.W.Frag) : Sp := fun vs H Q _ => ∃ (a : Addr) (ns : List Int), vs = [.ref a] ∧ SqL K H a (ns.map V.int) ∧ ns.length ≤ 63 ∧ ∀ H', Q (.bl true) H'
section
variable {P : Program} {w : World} {K : PySem.W.Frag} {mg : Str → Option Value} {base : Heap} {f : Addr} {fd : FuncData}
theorem ok_law (z_range : mg "range" = none) (h_l_pen : Has P w K mg base "_law_pen" 1 ["_law_script"] (spPen K)) (h_l_take : Has P w K mg base "_law_take" 1 ["_law_pen_here", "_law_most"] (spTake K)) (h_l_sizes : Has P w K mg base "_law_sizes" 2 ["_law_pen_here"] (spSizes K)) (h_l_counts : Has P w K mg base "_law_counts" 3 ["_law_pen_here", "_law_deep", "_law_most"] (spCounts K)) (h_l_freed : Has P w K mg base "_law_freed" 3 ["_law_pen_here", "_law_deep"] (spFreed K)) (h_l_ladder : Has P w K mg base "_law_ladder" 1 ["_law_now", "_law_room", "_law_deep"] spLad) (h_l_settle : Has P w K mg base "_law_settle" 2 ["_law_now", "_law_room", "_law_deep"] spSett) (h_l_right : Has P w K mg base "_law_right" 6 ["_law_ladder_here", "_law_now", "_law_told"] spRgt)
    (F : Fun K "law" "law" s_law f fd) : FnOk P w K mg base CX0 7 f fd ["_law_script"] (spLaw K) := by
  refine F.ok sc_law (fun vs H Q E h => ?_) (fun cdv A outer s H vs Q E hr h => ?_)
  · obtain ⟨S, ns, rfl, _⟩ := h
    rfl
  obtain ⟨S, ns, rfl, hS, h63, hq⟩ := h
  refine ⟨_, (@pss_cons _ _ _ _ _ (@ps_set _ _ 1 _ _ _ _ sc_law.nd rfl (Or.inl rfl) (pe_callH h_l_pen hr (@pa_cons _ _ _ _ _ (pv 0) pa_nil (by rfl))) (by rfl) (by first | exact .inl rfl | exact .inr rfl)) pss_run), ?_⟩
  refine ⟨_, rfl, S, ns, rfl, hS, h63, fun a H1 n_a g1 hp => ?_⟩
  clear hS g1 n_a
  refine ⟨_, (@pss_cons _ _ _ _ _ (@ps_set _ _ 2 _ _ _ _ sc_law.nd rfl (Or.inl rfl) (@pe_lst _ _ _ _ pa_nil) (by rfl) (by first | exact .inl rfl | exact .inr rfl)) pss_run), leN rfl, fun L n_L => ?_⟩
  have La : L ≠ a := hp.ne n_L
  have hp1 := hp
  have hp := hp.laid (o := .lst []) n_L
  have e_L : (upd H1 L (.lst [])) L = some (.lst []) := upd_same
  generalize upd H1 L (.lst []) = H2 at hp e_L ⊢
  have b1 : Same (fun _ => none) H2 := fun b w (e : none = some w) => by cases e
  have b2 : ∀ x ∈ ([] : List V), Hld (fun _ => none) x := fun x h => absurd h List.not_mem_nil
  refine ⟨_, (@pss_cons _ _ _ _ _ (ps_for PassesOwn.never rfl (pi_range1 rfl z_range (@pa_cons _ _ _ _ _ pe_int pa_nil (by rfl))) (pg_name (i := 3) sc_law.nd rfl (Or.inl rfl))
  (@pss_cons _ _ _ _ _ (ps_asg (pe_callH h_l_sizes hr (@pa_cons _ _ _ _ _ (pv 1) pa_nil (by rfl))) (pg_lst rfl (pgs_cons (pg_name (i := 4) sc_law.nd rfl (Or.inl rfl)) (pgs_cons (pg_name (i := 5) sc_law.nd rfl (Or.inl rfl)) pgs_nil))))
  (@pss_cons _ _ _ _ _ (@ps_set _ _ 6 _ _ _ _ sc_law.nd rfl (Or.inl rfl) (pe_callH h_l_counts hr (@pa_cons _ _ _ _ _ (pv 1) (@pa_cons _ _ _ _ _ (pv 5) (@pa_cons _ _ _ _ _ pe_int pa_nil (by rfl)) (by rfl)) (by rfl))) (by rfl) (by first | exact .inl rfl | exact .inr rfl))
  (@pss_cons _ _ _ _ _ (@ps_if _ _ _ _ _ _ _ _ (@pt_cmpR _ _ _ _ _ _ _ _ op_eq (pv 3) pe_int (nomark _)) (@pss_cons _ _ _ _ _ (ps_par (i := 4) (j := 5) rfl sc_law.nd rfl rfl (by decide) rfl rfl (@pa_cons _ _ _ _ _ pe_int (@pa_cons _ _ _ _ _ (@pe_op _ _ _ _ _ _ _ _ op_add pe_int (pe_callH h_l_take hr (@pa_cons _ _ _ _ _ (pv 1) (@pa_cons _ _ _ _ _ pe_int pa_nil (by rfl)) (by rfl)))) pa_nil (by rfl)) (by rfl)) (by rfl))
  (@pss_one _ _ _ (@ps_set _ _ 6 _ _ _ _ sc_law.nd rfl (Or.inl rfl) (pe_callH h_l_freed hr (@pa_cons _ _ _ _ _ (pv 1) (@pa_cons _ _ _ _ _ (pv 5) pa_nil (by rfl)) (by rfl))) (by rfl) (by first | exact .inl rfl | exact .inr rfl)))) pss_nil)
  (@pss_cons _ _ _ _ _ (@ps_set _ _ 7 _ _ _ _ sc_law.nd rfl (Or.inl rfl) (pe_callH h_l_ladder hr (@pa_cons _ _ _ _ _ (pv 6) (@pa_cons _ _ _ _ _ (pv 4) (@pa_cons _ _ _ _ _ (pv 5) pa_nil (by rfl)) (by rfl)) (by rfl))) (by rfl) (by first | exact .inl rfl | exact .inr rfl))
  (@pss_cons _ _ _ _ _ (@ps_set _ _ 8 _ _ _ _ sc_law.nd rfl (Or.inl rfl) (pe_callH h_l_settle hr (@pa_cons _ _ _ _ _ (pv 6) (@pa_cons _ _ _ _ _ (pv 4) (@pa_cons _ _ _ _ _ (pv 5) pa_nil (by rfl)) (by rfl)) (by rfl))) (by rfl) (by first | exact .inl rfl | exact .inr rfl))
  (@pss_cons _ _ _ _ _ (ps_expr (pe_bm PySem.F.plainAttrs_list PySem.F.slot_list_append PySem.F.type_list_append mt_append (pv 2) (@pa_cons _ _ _ _ _ (@pe_tup _ _ _ _ _ (@pa_cons _ _ _ _ _ (pv 7) (@pa_cons _ _ _ _ _ (pv 6) (@pa_cons _ _ _ _ _ (pv 8) pa_nil (by rfl)) (by rfl)) (by rfl))) pa_nil (by rfl))))
  (@pss_cons _ _ _ _ _ (@ps_if _ _ _ _ _ _ _ _ (@pt_not _ _ _ _ (pt_val (pe_callH h_l_right hr (@pa_cons _ _ _ _ _ (pv 7) (@pa_cons _ _ _ _ _ (pv 6) (@pa_cons _ _ _ _ _ (pv 8) pa_nil (by rfl)) (by rfl)) (by rfl))))) (@pss_one _ _ _ (@ps_ret _ _ _ _ pe_bl)) pss_nil)
  (@pss_one _ _ _ (@ps_if _ _ _ _ _ _ _ _ (@pt_not _ _ _ _ (pt_val (pe_callH h_l_right hr (@pa_cons _ _ _ _ _ (pe_callH h_l_ladder hr (@pa_cons _ _ _ _ _ (pv 6) (@pa_cons _ _ _ _ _ (pv 4) (@pa_cons _ _ _ _ _ (pv 5) pa_nil (by rfl)) (by rfl)) (by rfl))) (@pa_cons _ _ _ _ _ (pv 6) (@pa_cons _ _ _ _ _ (@pe_lst _ _ _ _ pa_nil) pa_nil (by rfl)) (by rfl)) (by rfl))))) (@pss_one _ _ _ (@ps_ret _ _ _ _ pe_bl)) pss_nil)))))))))) pss_run), ?_⟩
  refine ⟨3, rfl, by decide, by decide, ?_⟩
  refine for_rangeH (lo := 0) (n := 3) (fun i σ H' => ∃ (o3 o4 o5 o6 o7 o8 : Option V) (es : List V) (G : Hp), σ = [some (.ref S), some (.ref a), some (.ref L), o3, o4, o5, o6, o7, o8] ∧ Pn K S ns H' a ∧ H' L = some (.lst es) ∧ es.length = i ∧ Same G H' ∧ G a = none ∧ G L = none ∧ ∀ x ∈ es, Hld G x) ⟨_, _, _, _, _, _, [], fun _ => none, rfl, hp, e_L, rfl, b1, rfl, rfl, b2⟩ ?_ ?_
  · clear hp e_L b1 b2
    rintro i σ H3 N B1 R hN hR hi ⟨o3, o4, o5, o6, o7, o8, es, G, rfl, hp, e_L, el, sG, Ga, GL, held⟩
    refine ⟨_, rfl, a, S, ns, rfl, hp, fun l room deep H4 e_l r0 r1 d0 d1 hp g4 => ⟨l, _, rfl, hSqL e_l, rfl, ?_⟩⟩
    have sG := keep sG Ga g4
    have e_L := (hide_some (g4 L _ (by rw [hide_ne La]; exact e_L))).2
    clear e_l g4
    refine ⟨_, _, rfl, _, _, rfl, rfl, ?_⟩
    refine ⟨_, rfl, _, rfl, a, S, ns, deep, 14, rfl, hp, d0, d1, by decide, by decide, fun d H5 ps n_d e_d pok pl hp g5 => ?_⟩
    have Gd := sG.free n_d
    have sG := keep sG Ga g5
    have dL : d ≠ L := (ne_of_none e_L n_d).symm
    have e_L := (hide_some (g5 L _ (by rw [hide_ne La]; exact e_L))).2
    have e_d := (hide_some e_d).2
    clear g5 n_d
    dsimp only
    refine seq_post (fun σ' H' => ∃ (o7 o8 : Option V) (room deep : Int) (d : Addr) (ps : Sps), σ' = [some (.ref S), some (.ref a), some (.ref L), some (.int (0 + (i : Int))), some (.int room), some (.int deep), some (.ref d), o7, o8] ∧ Pn K S ns H' a ∧ H' L = some (.lst es) ∧ Same G H' ∧ G d = none ∧ H' d = some (.dT (tvOf ps)) ∧ Pok deep ps ∧ ps.length ≤ 60 ∧ 1 ≤ room ∧ room ≤ 20 ∧ 1 ≤ deep ∧ deep ≤ 10) ?_ ?_
    · intro nx hnx
      refine ⟨_, rfl, rfl, _, rfl, ite2 (fun c => ?_) (fun c => ?_)⟩
      · refine ⟨_, rfl, a, S, ns, 4, rfl, hp, posI rfl, ltI rfl, fun t H6 t0 t1 hp g6 => ?_⟩
        have sG := keep sG Ga g6
        have e_L := (hide_some (g6 L _ (by rw [hide_ne La]; exact e_L))).2
        refine ⟨_, _, rfl, rfl, _, _, rfl, _, rfl, _, rfl, a, S, ns, 3 + t, rfl, hp, by omega, by omega, fun d2 H7 ps2 n_d2 e_d2 pok2 pl2 hp g7 => ?_⟩
        exact hnx _ _ ⟨_, _, 8, 3 + t, d2, ps2, rfl, hp, (hide_some (g7 L _ (by rw [hide_ne La]; exact e_L))).2, keep sG Ga g7, sG.free n_d2, (hide_some e_d2).2, pok2, pl2, by decide, by decide, by omega, by omega⟩
      · exact hnx _ _ ⟨_, _, room, deep, d, ps, rfl, hp, e_L, sG, Gd, e_d, pok, pl, r0, r1, d0, d1⟩
    clear hp e_L sG Gd e_d pok pl r0 r1 d0 d1 dL
    rintro σ' H6 ⟨o7, o8, room, deep, d, ps, rfl, hp, e_L, sG, Gd, e_d, pok, pl, r0, r1, d0, d1⟩
    have kok := pok.kok
    have dL : d ≠ L := fun z => by rw [z, e_L] at e_d; cases e_d
    refine ⟨_, rfl, _, rfl, _, rfl, d, room, deep, ps, rfl, e_d, by omega, fun q H7 g7 lad => ?_⟩
    have hp := hp.same g7
    have e_L := g7 _ _ e_L
    have sG := sG.trans g7
    have e_d := g7 _ _ e_d
    have hp7 := hp
    have eL7 := e_L
    refine ⟨_, rfl, _, rfl, _, rfl, d, room, deep, ps, rfl, e_d, kok, r0, r1, by omega, by omega, by omega, fun t H8 fs qs g8 nt ed8 ft f1 stl kq ql => ?_⟩
    have hp := pn_grwD hp e_d g8
    have e_L := Grw.lst (d := d) g8 e_d e_L
    have sG := keep sG Gd g8
    have lad := lad.grw g8 e_d
    have tL : t ≠ L := (ne_of_none eL7 nt).symm
    have ta : t ≠ a := hp7.ne nt
    have en := stl_end stl kok.nd
    have se := en.2.2
    rw [← se] at lad stl
    obtain ⟨qs', stl, pm⟩ := stl_perm stl (srtP2_perm ps).symm kok.nd
    have kos : Kok deep ((srtP2 ps).map (·.1)) := kok.perm ((srtP2_perm ps).map _)
    have sl : (srtP2 ps).length = ps.length := (srtP2_perm ps).length_eq
    refine ⟨_, rfl, .inl ⟨rfl, _, SqL.of e_L⟩, _, rfl, _, rfl, _, rfl, leN rfl, fun c n_c => ?_⟩
    have sc := same_laid n_c (.tup [.ref q, .ref d, .ref t])
    have e_c : (upd H8 c (.tup [.ref q, .ref d, .ref t])) c = some (.tup [.ref q, .ref d, .ref t]) := upd_same
    have hp := hp.same sc
    have e_L := sc _ _ e_L
    have sG := sG.trans sc
    have lad := lad.mono sc
    have ed8 := sc _ _ ed8
    have ft := ft.same sc
    generalize upd H8 c (.tup [.ref q, .ref d, .ref t]) = H9 at e_c hp e_L sG lad ed8 ft ⊢
    refine ⟨L, es, _, rfl, rfl, e_L, small_lt (by omega), ?_⟩
    have tg : ∀ {x : Addr} {xs : List V}, H9 x = some (.tup xs) → hide L (hide a H9) x = some (.tup xs) := fun {x xs} e => by rw [hide_ne (ne_of e e_L (by intro z; cases z))]; exact hp.tup e
    have ladG : LadAt (hide L (hide a H9)) q room deep (sumS qs) (srtP2 ps) := by
      obtain ⟨c1, as1, f1, f2, f3⟩ := lad.at_
      exact ⟨c1, as1, tg f1, tg f2, Paired.mapP f3 fun _ _ ⟨y, z1, z2⟩ => ⟨y, tg z1, tg z2⟩⟩
    have ftG : FsAt (hide L (hide a H9)) t fs := by
      obtain ⟨as2, f4, f5⟩ := ft
      refine ⟨as2, ?_, Paired.mapP f5 fun _ _ ⟨y, z1, z2⟩ => ⟨y, tg z1, tg z2⟩⟩
      rw [hide_ne tL, hide_ne ta]
      exact f4
    have edG : hide L (hide a H9) d = some (.dT (tvOf qs)) := by
      obtain ⟨i, r, ea⟩ := hp.at_
      rw [hide_ne dL, hide_ne (ne_of ed8 ea (by intro z; cases z))]
      exact ed8
    have hl : Hld (hide L (hide a H9)) (.ref c) := ⟨c, q, d, t, room, deep, srtP2 ps, qs, fs, qs', rfl, tg e_c, ladG, r0, r1, by omega, kos, by omega, edG, by omega, ftG, stl, pm⟩
    have sG9 : Same G (hide L (hide a H9)) := fun b w e => by
      rw [hide_ne (fun z => by rw [z, GL] at e; cases e), hide_ne (fun z => by rw [z, Ga] at e; cases e)]
      exact sG _ _ e
    have g10 : Same (hide L (hide a H9)) (upd H9 L (.lst (es ++ [.ref c]))) := fun b w e => by
      rw [upd_ne (hide_some e).1]
      exact (hide_some (hide_some e).2).2
    have hp : Pn K S ns (upd H9 L (.lst (es ++ [.ref c]))) a := pn_putL hp1 n_L hp La
    have e_L : (upd H9 L (.lst (es ++ [.ref c]))) L = some (.lst (es ++ [.ref c])) := upd_same
    generalize upd H9 L (.lst (es ++ [.ref c])) = H10 at g10 hp e_L ⊢
    refine ⟨_, rfl, _, rfl, _, rfl, q, d, t, room, deep, srtP2 ps, qs, fs, qs', rfl, ladG.mono g10, r0, r1, by omega, kos, by omega, g10 _ _ edG, by omega, ftG.same g10, stl, pm, fun H11 g11 => ⟨_, rfl, iteF ?_⟩⟩
    have g11' := g10.trans g11
    refine ⟨_, rfl, _, rfl, _, rfl, d, room, deep, qs, rfl, g11' _ _ edG, by omega, fun r H12 g12 lad2 => ⟨_, rfl, leN rfl, fun e n_e => ?_⟩⟩
    have se2 := same_laid n_e (.lst [])
    have g13 := g11'.trans (g12.trans se2)
    have sq : (srtP2 qs).length = qs.length := (srtP2_perm qs).length_eq
    refine ⟨r, d, e, room, deep, srtP2 qs, qs, [], srtP2 qs, rfl, lad2.mono se2, r0, r1, by omega, kq.perm ((srtP2_perm qs).map _), by omega, g13 _ _ edG, by omega, ⟨[], upd_same, .nil⟩, .done (nof_perm (by rw [se]; exact en.2.1) (srtP2_perm qs).symm kq.nd), srtP2_perm qs, fun H14 g14 => ⟨_, rfl, iteF (hN _ _ ⟨_, _, _, _, _, _, es ++ [.ref c], hide L (hide a H9), rfl, ?_⟩)⟩⟩
    have gA := (g11.trans (g12.trans se2)).trans g14
    refine ⟨hp.same gA, gA _ _ e_L, by rw [List.length_append, el]; rfl, g10.trans gA, ?_, ?_, fun x hx => ?_⟩
    · rw [hide_ne (Ne.symm La)]
      unfold hide
      rw [if_pos rfl]
    · unfold hide
      rw [if_pos rfl]
    · rcases List.mem_append.mp hx with hx | hx
      · exact (held x hx).mono sG9
      · rw [List.mem_singleton.mp hx]; exact hl
  · rintro σ H3 ⟨o3, o4, o5, o6, o7, o8, es, G, rfl, hp, e_L, el, sG, Ga, GL, held⟩
    refine ⟨_, (@pss_cons _ _ _ _ _ (ps_for PassesOwn.never rfl (pi_list (pv 2)) (pg_tup rfl (pgs_cons (pg_name (i := 7) sc_law.nd rfl (Or.inl rfl)) (pgs_cons (pg_name (i := 6) sc_law.nd rfl (Or.inl rfl)) (pgs_cons (pg_name (i := 8) sc_law.nd rfl (Or.inl rfl)) pgs_nil))))
  (@pss_one _ _ _ (@ps_if _ _ _ _ _ _ _ _ (@pt_not _ _ _ _ (pt_val (pe_callH h_l_right hr (@pa_cons _ _ _ _ _ (pv 7) (@pa_cons _ _ _ _ _ (pv 6) (@pa_cons _ _ _ _ _ (pv 8) pa_nil (by rfl)) (by rfl)) (by rfl))))) (@pss_one _ _ _ (@ps_ret _ _ _ _ pe_bl)) pss_nil))) pss_run), ?_⟩
    refine ⟨_, rfl, L, rfl, ⟨_, SqL.of e_L⟩, ?_⟩
    refine for_listH (xs := es) (fun i σ H' => Same H3 H' ∧ ∃ (o3 o4 o5 o6 o7 o8 : Option V), σ = [some (.ref S), some (.ref a), some (.ref L), o3, o4, o5, o6, o7, o8]) ⟨Same.refl _, _, _, _, _, _, _, rfl⟩ ?_ ?_ ?_
    · rintro i σ H' _ ⟨g, _⟩
      exact SqL.of (g _ _ e_L)
    · rintro i x σ H' N B1 R hN hR hx ⟨g, o3, o4, o5, o6, o7, o8, rfl⟩
      obtain ⟨c, q, d, t, room, deep, ps, qs, fs, qs', rfl, e_c, lad, r0, r1, d1, kok, pl, e_d, ql, fa, st, pm⟩ := (held x (List.mem_of_getElem? hx)).mono (sG.trans g)
      exact ⟨c, _, rfl, SqT.of e_c, rfl, _, _, rfl, _, _, rfl, _, _, rfl, rfl, _, rfl, _, rfl, _, rfl, q, d, t, room, deep, ps, qs, fs, qs', rfl, lad, r0, r1, d1, kok, pl, e_d, ql, fa, st, pm, fun H4 g4 => ⟨_, rfl, iteF (hN _ _ ⟨g.trans g4, _, _, _, _, _, _, rfl⟩)⟩⟩
    · rintro σ H' ⟨_, o3, o4, o5, o6, o7, o8, rfl⟩
      exact ⟨_, (@pss_one _ _ _ (@ps_ret _ _ _ _ pe_bl)), hq _⟩
end
end K22

namespace K22
open PySem L2 Ld
theorem all_mk {l : PySem.W.OpenLaw} {w : World} {K : PySem.W.Frag} {h : Heap} {mg : Str → Option Value} {fa f0 f1 f2 f3 f4 f5 f6 f7 f8 f9 f10 f11 f12 f13 f14 f15 f16 f17 f18 f19 f20 f21 : Addr} (X : K.In h) (G : h.Ns mainGlobals mg) (hfa : mg "law" = some (.ref fa))
    {od0 an0 od1 an1 od2 an2 od3 an3 od4 an4 od5 an5 od6 an6 od7 an7 od8 an8 od9 an9 od10 an10 od11 an11 od12 an12 od13 an13 od14 an14 od15 an15 od16 an16 od17 an17 od18 an18 od19 an19 od20 an20 od21 an21 : Option Addr} {sl0 sl1 sl2 sl3 sl4 sl5 sl6 sl7 sl8 sl9 sl10 sl11 sl12 sl13 sl14 sl15 sl16 sl17 sl18 sl19 sl20 sl21 : Array (Option Value)} {oc0 kV0 dc0 pm0 cd0 ct0 oc1 kV1 dc1 pm1 cd1 ct1 oc2 kV2 dc2 pm2 cd2 ct2 oc3 kV3 dc3 pm3 cd3 ct3 oc4 kV4 dc4 pm4 cd4 ct4 oc5 kV5 dc5 pm5 cd5 ct5 oc6 kV6 dc6 pm6 cd6 ct6 oc7 kV7 dc7 pm7 cd7 ct7 oc8 kV8 dc8 pm8 cd8 ct8 oc9 kV9 dc9 pm9 cd9 ct9 oc10 kV10 dc10 pm10 cd10 ct10 oc11 kV11 dc11 pm11 cd11 ct11 oc12 kV12 dc12 pm12 cd12 ct12 oc13 kV13 dc13 pm13 cd13 ct13 oc14 kV14 dc14 pm14 cd14 ct14 oc15 kV15 dc15 pm15 cd15 ct15 oc16 kV16 dc16 pm16 cd16 ct16 oc17 kV17 dc17 pm17 cd17 ct17 oc18 kV18 dc18 pm18 cd18 ct18 oc19 kV19 dc19 pm19 cd19 ct19 oc20 kV20 dc20 pm20 cd20 ct20 oc21 kV21 dc21 pm21 cd21 ct21 : Value}
    (a0 : PySem.W.nsIn K mainGlobals "parent_of" = some (some (.ref f0))) (l0 : K.lookup f0 = some ⟨oc0, od0, .func (PySem.W.fnOf "parent_of" "parent_of" (defArgs s_parent_of) (defBody s_parent_of) (defScope s_parent_of) .none kV0 dc0 pm0 an0 cd0 ct0), sl0⟩) (c0 : PySem.W.codeIn K cd0 "parent_of" = true) (k0 : PySem.W.keepIn K (.ref f0) = true)
    (a1 : PySem.W.nsIn K mainGlobals "pair_of" = some (some (.ref f1))) (l1 : K.lookup f1 = some ⟨oc1, od1, .func (PySem.W.fnOf "pair_of" "pair_of" (defArgs s_pair_of) (defBody s_pair_of) (defScope s_pair_of) .none kV1 dc1 pm1 an1 cd1 ct1), sl1⟩) (c1 : PySem.W.codeIn K cd1 "pair_of" = true) (k1 : PySem.W.keepIn K (.ref f1) = true)
    (a2 : PySem.W.nsIn K mainGlobals "bar_of" = some (some (.ref f2))) (l2 : K.lookup f2 = some ⟨oc2, od2, .func (PySem.W.fnOf "bar_of" "bar_of" (defArgs s_bar_of) (defBody s_bar_of) (defScope s_bar_of) .none kV2 dc2 pm2 an2 cd2 ct2), sl2⟩) (c2 : PySem.W.codeIn K cd2 "bar_of" = true) (k2 : PySem.W.keepIn K (.ref f2) = true)
    (a3 : PySem.W.nsIn K mainGlobals "joint_count" = some (some (.ref f3))) (l3 : K.lookup f3 = some ⟨oc3, od3, .func (PySem.W.fnOf "joint_count" "joint_count" (defArgs s_joint_count) (defBody s_joint_count) (defScope s_joint_count) .none kV3 dc3 pm3 an3 cd3 ct3), sl3⟩) (c3 : PySem.W.codeIn K cd3 "joint_count" = true) (k3 : PySem.W.keepIn K (.ref f3) = true)
    (a4 : PySem.W.nsIn K mainGlobals "first_folding" = some (some (.ref f4))) (l4 : K.lookup f4 = some ⟨oc4, od4, .func (PySem.W.fnOf "first_folding" "first_folding" (defArgs s_first_folding) (defBody s_first_folding) (defScope s_first_folding) .none kV4 dc4 pm4 an4 cd4 ct4), sl4⟩) (c4 : PySem.W.codeIn K cd4 "first_folding" = true) (k4 : PySem.W.keepIn K (.ref f4) = true)
    (a5 : PySem.W.nsIn K mainGlobals "fold_up" = some (some (.ref f5))) (l5 : K.lookup f5 = some ⟨oc5, od5, .func (PySem.W.fnOf "fold_up" "fold_up" (defArgs s_fold_up) (defBody s_fold_up) (defScope s_fold_up) .none kV5 dc5 pm5 an5 cd5 ct5), sl5⟩) (c5 : PySem.W.codeIn K cd5 "fold_up" = true) (k5 : PySem.W.keepIn K (.ref f5) = true)
    (a6 : PySem.W.nsIn K mainGlobals "settling_of" = some (some (.ref f6))) (l6 : K.lookup f6 = some ⟨oc6, od6, .func (PySem.W.fnOf "settling_of" "settling_of" (defArgs s_settling_of) (defBody s_settling_of) (defScope s_settling_of) .none kV6 dc6 pm6 an6 cd6 ct6), sl6⟩) (c6 : PySem.W.codeIn K cd6 "settling_of" = true) (k6 : PySem.W.keepIn K (.ref f6) = true)
    (a7 : PySem.W.nsIn K mainGlobals "settled" = some (some (.ref f7))) (l7 : K.lookup f7 = some ⟨oc7, od7, .func (PySem.W.fnOf "settled" "settled" (defArgs s_settled) (defBody s_settled) (defScope s_settled) .none kV7 dc7 pm7 an7 cd7 ct7), sl7⟩) (c7 : PySem.W.codeIn K cd7 "settled" = true) (k7 : PySem.W.keepIn K (.ref f7) = true)
    (a8 : PySem.W.nsIn K mainGlobals "folds_in" = some (some (.ref f8))) (l8 : K.lookup f8 = some ⟨oc8, od8, .func (PySem.W.fnOf "folds_in" "folds_in" (defArgs s_folds_in) (defBody s_folds_in) (defScope s_folds_in) .none kV8 dc8 pm8 an8 cd8 ct8), sl8⟩) (c8 : PySem.W.codeIn K cd8 "folds_in" = true) (k8 : PySem.W.keepIn K (.ref f8) = true)
    (a9 : PySem.W.nsIn K mainGlobals "_law_pen" = some (some (.ref f9))) (l9 : K.lookup f9 = some ⟨oc9, od9, .func (PySem.W.fnOf "_law_pen" "_law_pen" (defArgs s_l_pen) (defBody s_l_pen) (defScope s_l_pen) .none kV9 dc9 pm9 an9 cd9 ct9), sl9⟩) (c9 : PySem.W.codeIn K cd9 "_law_pen" = true) (k9 : PySem.W.keepIn K (.ref f9) = true)
    (a10 : PySem.W.nsIn K mainGlobals "_law_take" = some (some (.ref f10))) (l10 : K.lookup f10 = some ⟨oc10, od10, .func (PySem.W.fnOf "_law_take" "_law_take" (defArgs s_l_take) (defBody s_l_take) (defScope s_l_take) .none kV10 dc10 pm10 an10 cd10 ct10), sl10⟩) (c10 : PySem.W.codeIn K cd10 "_law_take" = true) (k10 : PySem.W.keepIn K (.ref f10) = true)
    (a11 : PySem.W.nsIn K mainGlobals "_law_many" = some (some (.ref f11))) (l11 : K.lookup f11 = some ⟨oc11, od11, .func (PySem.W.fnOf "_law_many" "_law_many" (defArgs s_l_many) (defBody s_l_many) (defScope s_l_many) .none kV11 dc11 pm11 an11 cd11 ct11), sl11⟩) (c11 : PySem.W.codeIn K cd11 "_law_many" = true) (k11 : PySem.W.keepIn K (.ref f11) = true)
    (a12 : PySem.W.nsIn K mainGlobals "_law_sizes" = some (some (.ref f12))) (l12 : K.lookup f12 = some ⟨oc12, od12, .func (PySem.W.fnOf "_law_sizes" "_law_sizes" (defArgs s_l_sizes) (defBody s_l_sizes) (defScope s_l_sizes) .none kV12 dc12 pm12 an12 cd12 ct12), sl12⟩) (c12 : PySem.W.codeIn K cd12 "_law_sizes" = true) (k12 : PySem.W.keepIn K (.ref f12) = true)
    (a13 : PySem.W.nsIn K mainGlobals "_law_counts" = some (some (.ref f13))) (l13 : K.lookup f13 = some ⟨oc13, od13, .func (PySem.W.fnOf "_law_counts" "_law_counts" (defArgs s_l_counts) (defBody s_l_counts) (defScope s_l_counts) .none kV13 dc13 pm13 an13 cd13 ct13), sl13⟩) (c13 : PySem.W.codeIn K cd13 "_law_counts" = true) (k13 : PySem.W.keepIn K (.ref f13) = true)
    (a14 : PySem.W.nsIn K mainGlobals "_law_fold_once" = some (some (.ref f14))) (l14 : K.lookup f14 = some ⟨oc14, od14, .func (PySem.W.fnOf "_law_fold_once" "_law_fold_once" (defArgs s_l_fold_once) (defBody s_l_fold_once) (defScope s_l_fold_once) .none kV14 dc14 pm14 an14 cd14 ct14), sl14⟩) (c14 : PySem.W.codeIn K cd14 "_law_fold_once" = true) (k14 : PySem.W.keepIn K (.ref f14) = true)
    (a15 : PySem.W.nsIn K mainGlobals "_law_settle" = some (some (.ref f15))) (l15 : K.lookup f15 = some ⟨oc15, od15, .func (PySem.W.fnOf "_law_settle" "_law_settle" (defArgs s_l_settle) (defBody s_l_settle) (defScope s_l_settle) .none kV15 dc15 pm15 an15 cd15 ct15), sl15⟩) (c15 : PySem.W.codeIn K cd15 "_law_settle" = true) (k15 : PySem.W.keepIn K (.ref f15) = true)
    (a16 : PySem.W.nsIn K mainGlobals "_law_ladder" = some (some (.ref f16))) (l16 : K.lookup f16 = some ⟨oc16, od16, .func (PySem.W.fnOf "_law_ladder" "_law_ladder" (defArgs s_l_ladder) (defBody s_l_ladder) (defScope s_l_ladder) .none kV16 dc16 pm16 an16 cd16 ct16), sl16⟩) (c16 : PySem.W.codeIn K cd16 "_law_ladder" = true) (k16 : PySem.W.keepIn K (.ref f16) = true)
    (a17 : PySem.W.nsIn K mainGlobals "_law_whole" = some (some (.ref f17))) (l17 : K.lookup f17 = some ⟨oc17, od17, .func (PySem.W.fnOf "_law_whole" "_law_whole" (defArgs s_l_whole) (defBody s_l_whole) (defScope s_l_whole) .none kV17 dc17 pm17 an17 cd17 ct17), sl17⟩) (c17 : PySem.W.codeIn K cd17 "_law_whole" = true) (k17 : PySem.W.keepIn K (.ref f17) = true)
    (a18 : PySem.W.nsIn K mainGlobals "_law_is_typed" = some (some (.ref f18))) (l18 : K.lookup f18 = some ⟨oc18, od18, .func (PySem.W.fnOf "_law_is_typed" "_law_is_typed" (defArgs s_l_is_typed) (defBody s_l_is_typed) (defScope s_l_is_typed) .none kV18 dc18 pm18 an18 cd18 ct18), sl18⟩) (c18 : PySem.W.codeIn K cd18 "_law_is_typed" = true) (k18 : PySem.W.keepIn K (.ref f18) = true)
    (a19 : PySem.W.nsIn K mainGlobals "_law_right" = some (some (.ref f19))) (l19 : K.lookup f19 = some ⟨oc19, od19, .func (PySem.W.fnOf "_law_right" "_law_right" (defArgs s_l_right) (defBody s_l_right) (defScope s_l_right) .none kV19 dc19 pm19 an19 cd19 ct19), sl19⟩) (c19 : PySem.W.codeIn K cd19 "_law_right" = true) (k19 : PySem.W.keepIn K (.ref f19) = true)
    (a20 : PySem.W.nsIn K mainGlobals "_law_freed" = some (some (.ref f20))) (l20 : K.lookup f20 = some ⟨oc20, od20, .func (PySem.W.fnOf "_law_freed" "_law_freed" (defArgs s_l_freed) (defBody s_l_freed) (defScope s_l_freed) .none kV20 dc20 pm20 an20 cd20 ct20), sl20⟩) (c20 : PySem.W.codeIn K cd20 "_law_freed" = true) (k20 : PySem.W.keepIn K (.ref f20) = true)
    (a21 : PySem.W.nsIn K mainGlobals "law" = some (some (.ref f21))) (l21 : K.lookup f21 = some ⟨oc21, od21, .func (PySem.W.fnOf "law" "law" (defArgs s_law) (defBody s_law) (defScope s_law) .none kV21 dc21 pm21 an21 cd21 ct21), sl21⟩) (c21 : PySem.W.codeIn K cd21 "law" = true) (k21 : PySem.W.keepIn K (.ref f21) = true)
    (y_len : PySem.W.nsIn K mainGlobals "len" = some none)
    (y_isinstance : PySem.W.nsIn K mainGlobals "isinstance" = some none)
    (y_range : PySem.W.nsIn K mainGlobals "range" = some none)
    (y_list : PySem.W.nsIn K mainGlobals "list" = some none)
    (y_sorted : PySem.W.nsIn K mainGlobals "sorted" = some none)
    (y_tuple : PySem.W.nsIn K mainGlobals "tuple" = some none)
    (y_int : PySem.W.nsIn K mainGlobals "int" = some none)
    (y_bool : PySem.W.nsIn K mainGlobals "bool" = some none)
    (y_dict : PySem.W.nsIn K mainGlobals "dict" = some none)
    (y_sum : PySem.W.nsIn K mainGlobals "sum" = some none)
    (y_min : PySem.W.nsIn K mainGlobals "min" = some none)
    (y_set : PySem.W.nsIn K mainGlobals "set" = some none)
    : ∃ fd : FuncData, (∀ (s : Shared) (v : Value), BindsTo s fd ⟨[v], []⟩ [("_law_script", v)]) ∧ ∀ base : Heap, K.In base → base.Ns mainGlobals mg → FnOk l.prog w K mg base CX0 7 fa fd ["_law_script"] (spLaw K) := by
  have e := hfa.symm.trans (PySem.W.mg_of X G a21)
  cases e
  have F0 := fun_mk (st := s_parent_of) l0 c0 k0
  have b0 : Binds K _ ["stretch"] [] := F0.b1 fun _ _ _ _ _ _ _ => rfl
  have m0 := PySem.W.mg_of X G a0
  have F1 := fun_mk (st := s_pair_of) l1 c1 k1
  have b1 : Binds K _ ["stretch"] [] := F1.b1 fun _ _ _ _ _ _ _ => rfl
  have m1 := PySem.W.mg_of X G a1
  have F2 := fun_mk (st := s_bar_of) l2 c2 k2
  have b2 : Binds K _ ["ladder"] [] := F2.b1 fun _ _ _ _ _ _ _ => rfl
  have m2 := PySem.W.mg_of X G a2
  have F3 := fun_mk (st := s_joint_count) l3 c3 k3
  have b3 : Binds K _ ["counts", "stretch"] [] := F3.b2 fun _ _ _ _ _ _ _ _ => rfl
  have m3 := PySem.W.mg_of X G a3
  have F4 := fun_mk (st := s_first_folding) l4 c4 k4
  have b4 : Binds K _ ["deep", "bar", "counts"] [] := F4.b3 fun _ _ _ _ _ _ _ _ _ => rfl
  have m4 := PySem.W.mg_of X G a4
  have F5 := fun_mk (st := s_fold_up) l5 c5 k5
  have b5 : Binds K _ ["counts", "stretch", "many"] [] := F5.b3 fun _ _ _ _ _ _ _ _ _ => rfl
  have m5 := PySem.W.mg_of X G a5
  have F6 := fun_mk (st := s_settling_of) l6 c6 k6
  have b6 : Binds K _ ["ladder"] [] := F6.b1 fun _ _ _ _ _ _ _ => rfl
  have m6 := PySem.W.mg_of X G a6
  have F7 := fun_mk (st := s_settled) l7 c7 k7
  have b7 : Binds K _ ["ladder"] [] := F7.b1 fun _ _ _ _ _ _ _ => rfl
  have m7 := PySem.W.mg_of X G a7
  have F8 := fun_mk (st := s_folds_in) l8 c8 k8
  have b8 : Binds K _ ["ladder"] [] := F8.b1 fun _ _ _ _ _ _ _ => rfl
  have m8 := PySem.W.mg_of X G a8
  have F9 := fun_mk (st := s_l_pen) l9 c9 k9
  have b9 : Binds K _ ["_law_script"] [] := F9.b1 fun _ _ _ _ _ _ _ => rfl
  have m9 := PySem.W.mg_of X G a9
  have F10 := fun_mk (st := s_l_take) l10 c10 k10
  have b10 : Binds K _ ["_law_pen_here", "_law_most"] [] := F10.b2 fun _ _ _ _ _ _ _ _ => rfl
  have m10 := PySem.W.mg_of X G a10
  have F11 := fun_mk (st := s_l_many) l11 c11 k11
  have b11 : Binds K _ ["_law_pen_here"] [] := F11.b1 fun _ _ _ _ _ _ _ => rfl
  have m11 := PySem.W.mg_of X G a11
  have F12 := fun_mk (st := s_l_sizes) l12 c12 k12
  have b12 : Binds K _ ["_law_pen_here"] [] := F12.b1 fun _ _ _ _ _ _ _ => rfl
  have m12 := PySem.W.mg_of X G a12
  have F13 := fun_mk (st := s_l_counts) l13 c13 k13
  have b13 : Binds K _ ["_law_pen_here", "_law_deep", "_law_most"] [] := F13.b3 fun _ _ _ _ _ _ _ _ _ => rfl
  have m13 := PySem.W.mg_of X G a13
  have F14 := fun_mk (st := s_l_fold_once) l14 c14 k14
  have b14 : Binds K _ ["_law_now", "_law_deep", "_law_bar"] [] := F14.b3 fun _ _ _ _ _ _ _ _ _ => rfl
  have m14 := PySem.W.mg_of X G a14
  have F15 := fun_mk (st := s_l_settle) l15 c15 k15
  have b15 : Binds K _ ["_law_now", "_law_room", "_law_deep"] [] := F15.b3 fun _ _ _ _ _ _ _ _ _ => rfl
  have m15 := PySem.W.mg_of X G a15
  have F16 := fun_mk (st := s_l_ladder) l16 c16 k16
  have b16 : Binds K _ ["_law_now", "_law_room", "_law_deep"] [] := F16.b3 fun _ _ _ _ _ _ _ _ _ => rfl
  have m16 := PySem.W.mg_of X G a16
  have F17 := fun_mk (st := s_l_whole) l17 c17 k17
  have b17 : Binds K _ ["_law_thing"] [] := F17.b1 fun _ _ _ _ _ _ _ => rfl
  have m17 := PySem.W.mg_of X G a17
  have F18 := fun_mk (st := s_l_is_typed) l18 c18 k18
  have b18 : Binds K _ ["_law_found"] [] := F18.b1 fun _ _ _ _ _ _ _ => rfl
  have m18 := PySem.W.mg_of X G a18
  have F19 := fun_mk (st := s_l_right) l19 c19 k19
  have b19 : Binds K _ ["_law_ladder_here", "_law_now", "_law_told"] [] := F19.b3 fun _ _ _ _ _ _ _ _ _ => rfl
  have m19 := PySem.W.mg_of X G a19
  have F20 := fun_mk (st := s_l_freed) l20 c20 k20
  have b20 : Binds K _ ["_law_pen_here", "_law_deep"] [] := F20.b2 fun _ _ _ _ _ _ _ _ => rfl
  have m20 := PySem.W.mg_of X G a20
  have F21 := fun_mk (st := s_law) l21 c21 k21
  have z_len := PySem.W.mg_none_of X G y_len
  have z_isinstance := PySem.W.mg_none_of X G y_isinstance
  have z_range := PySem.W.mg_none_of X G y_range
  have z_list := PySem.W.mg_none_of X G y_list
  have z_sorted := PySem.W.mg_none_of X G y_sorted
  have z_tuple := PySem.W.mg_none_of X G y_tuple
  have z_int := PySem.W.mg_none_of X G y_int
  have z_bool := PySem.W.mg_none_of X G y_bool
  have z_dict := PySem.W.mg_none_of X G y_dict
  have z_sum := PySem.W.mg_none_of X G y_sum
  have z_min := PySem.W.mg_none_of X G y_min
  have z_set := PySem.W.mg_none_of X G y_set
  refine ⟨PySem.W.fnOf "law" "law" (defArgs s_law) (defBody s_law) (defScope s_law) .none kV21 dc21 pm21 an21 cd21 ct21, fun s v => .of_eq rfl, fun base kb nb => ?_⟩
  have h_pen := Has.of (ok_pen (P := l.prog) (w := w) (mg := mg) (base := base) F9) b9 F9.kp m9
  have h_take := Has.of (ok_take (P := l.prog) (w := w) (mg := mg) (base := base) z_len F10) b10 F10.kp m10
  have h_parent := Has.of (ok_parent (P := l.prog) (w := w) (mg := mg) (base := base) F0) b0 F0.kp m0
  have h_pair := Has.of (ok_pair (P := l.prog) (w := w) (mg := mg) (base := base) F1) b1 F1.kp m1
  have h_bar := Has.of (ok_bar (P := l.prog) (w := w) (mg := mg) (base := base) F2) b2 F2.kp m2
  have h_joint := Has.of (ok_joint h_pair h_parent F3) b3 F3.kp m3
  have h_ff := Has.of (ok_ff z_sorted h_joint F4) b4 F4.kp m4
  have h_fold := Has.of (ok_fold h_parent F5) b5 F5.kp m5
  have h_stl := Has.of (ok_stl z_dict z_sorted z_tuple h_bar h_ff h_pair h_fold F6) b6 F6.kp m6
  have h_set := Has.of (ok_set h_stl F7) b7 F7.kp m7
  have h_fin := Has.of (ok_fin h_stl F8) b8 F8.kp m8
  have h_many := Has.of (ok_many h_take F11) b11 F11.kp m11
  have h_sizes := Has.of (ok_sizes h_take F12) b12 F12.kp m12
  have h_counts := Has.of (ok_counts z_range z_int z_sorted z_len z_min h_take h_many F13) b13 F13.kp m13
  have h_fon := Has.of (ok_fon (P := l.prog) (w := w) (mg := mg) (base := base) z_range z_sorted z_set z_sum F14) b14 F14.kp m14
  have h_sett := Has.of (ok_sett z_sum z_list h_fon F15) b15 F15.kp m15
  have h_lad := Has.of (ok_lad (P := l.prog) (w := w) (mg := mg) (base := base) z_sorted z_tuple z_sum z_list F16) b16 F16.kp m16
  have h_wh := Has.of (ok_wh (P := l.prog) (w := w) (mg := mg) (base := base) z_isinstance z_int z_bool F17) b17 F17.kp m17
  have h_typ := Has.of (ok_typ z_isinstance z_tuple z_len h_wh F18) b18 F18.kp m18
  have h_rgt := Has.of (ok_rgt z_isinstance z_tuple z_list h_wh h_typ h_lad h_set h_fin F19) b19 F19.kp m19
  have h_freed := Has.of (ok_freed z_dict h_take h_many F20) b20 F20.kp m20
  exact ok_law z_range h_pen h_take h_sizes h_counts h_freed h_lad h_sett h_rgt F21
theorem walk {l : PySem.W.OpenLaw} {q : Program} {loose : List Str} {XP : (Str → Option Value) → Heap → Prop} {YP : World → Heap → Prop} {d : DefRec} {K : Params → PySem.W.Frag} (hn : l.most = some 63) (hdf : d.params.defaults = [])
    (hY : ∀ (w : World) (h : Heap), YP w h → (K w.params).In h)
    (F : ∀ (w : World) (mg : Str → Option Value) (fa : Addr) (h : Heap), (K w.params).In h → h.Ns mainGlobals mg → mg d.name = some (.ref fa) →
      ∃ fd : FuncData, (∀ (s : Shared) (u : Value), BindsTo s fd ⟨[u], []⟩ [("_law_script", u)]) ∧ ∀ base : Heap, (K w.params).In base → base.Ns mainGlobals mg → FnOk l.prog w (K w.params) mg base CX0 7 fa fd ["_law_script"] (spLaw (K w.params))) :
    PySem.W.WalkO q loose XP YP l.row.toRowW d [] (fun f vs => PySem.call f vs) :=
  L2.walk_of (n := 63) (k := 7) (x := "_law_script") (CX := fun _ => CX0) (sp := fun w => spLaw (K w.params)) hn (by decide) hdf ⟨rfl, by decide, by decide⟩ hY F (fun _ _ a ns hl _ hS => ⟨a, ns, rfl, hS, hl, fun _ => rfl⟩) fun _ _ _ _ _ z => z
end K22
open PySem PySem.W PyProof.Rows
set_option maxRecDepth 100000 in
set_option maxHeartbeats 0 in
theorem PySem.Challenge.cw_sumshare_k22_ladders_settled_holds : PySem.Challenge.rw_sumshare_k22_ladders_settled.Holds := by
  w_on; o_law; k_head; (case hw => w_witness2)
  k_fill
  refine K22.walk (l := PySem.Challenge.rw_sumshare_k22_ladders_settled) rfl rfl (fun w h Y => PySem.W.kIn_of Y) ?F
  case F =>
    intro w mg fa h KX G hmg
    refine' K22.all_mk KX G hmg ?a0 ?l0 ?c0 ?k0 ?a1 ?l1 ?c1 ?k1 ?a2 ?l2 ?c2 ?k2 ?a3 ?l3 ?c3 ?k3 ?a4 ?l4 ?c4 ?k4 ?a5 ?l5 ?c5 ?k5 ?a6 ?l6 ?c6 ?k6 ?a7 ?l7 ?c7 ?k7 ?a8 ?l8 ?c8 ?k8 ?a9 ?l9 ?c9 ?k9 ?a10 ?l10 ?c10 ?k10 ?a11 ?l11 ?c11 ?k11 ?a12 ?l12 ?c12 ?k12 ?a13 ?l13 ?c13 ?k13 ?a14 ?l14 ?c14 ?k14 ?a15 ?l15 ?c15 ?k15 ?a16 ?l16 ?c16 ?k16 ?a17 ?l17 ?c17 ?k17 ?a18 ?l18 ?c18 ?k18 ?a19 ?l19 ?c19 ?k19 ?a20 ?l20 ?c20 ?k20 ?a21 ?l21 ?c21 ?k21 ?y_len ?y_isinstance ?y_range ?y_list ?y_sorted ?y_tuple ?y_int ?y_bool ?y_dict ?y_sum ?y_min ?y_set
    (case a0 => k_is); (case l0 => k_is); (case c0 => k_is); (case k0 => k_is)
    (case a1 => k_is); (case l1 => k_is); (case c1 => k_is); (case k1 => k_is)
    (case a2 => k_is); (case l2 => k_is); (case c2 => k_is); (case k2 => k_is)
    (case a3 => k_is); (case l3 => k_is); (case c3 => k_is); (case k3 => k_is)
    (case a4 => k_is); (case l4 => k_is); (case c4 => k_is); (case k4 => k_is)
    (case a5 => k_is); (case l5 => k_is); (case c5 => k_is); (case k5 => k_is)
    (case a6 => k_is); (case l6 => k_is); (case c6 => k_is); (case k6 => k_is)
    (case a7 => k_is); (case l7 => k_is); (case c7 => k_is); (case k7 => k_is)
    (case a8 => k_is); (case l8 => k_is); (case c8 => k_is); (case k8 => k_is)
    (case a9 => k_is); (case l9 => k_is); (case c9 => k_is); (case k9 => k_is)
    (case a10 => k_is); (case l10 => k_is); (case c10 => k_is); (case k10 => k_is)
    (case a11 => k_is); (case l11 => k_is); (case c11 => k_is); (case k11 => k_is)
    (case a12 => k_is); (case l12 => k_is); (case c12 => k_is); (case k12 => k_is)
    (case a13 => k_is); (case l13 => k_is); (case c13 => k_is); (case k13 => k_is)
    (case a14 => k_is); (case l14 => k_is); (case c14 => k_is); (case k14 => k_is)
    (case a15 => k_is); (case l15 => k_is); (case c15 => k_is); (case k15 => k_is)
    (case a16 => k_is); (case l16 => k_is); (case c16 => k_is); (case k16 => k_is)
    (case a17 => k_is); (case l17 => k_is); (case c17 => k_is); (case k17 => k_is)
    (case a18 => k_is); (case l18 => k_is); (case c18 => k_is); (case k18 => k_is)
    (case a19 => k_is); (case l19 => k_is); (case c19 => k_is); (case k19 => k_is)
    (case a20 => k_is); (case l20 => k_is); (case c20 => k_is); (case k20 => k_is)
    (case a21 => k_is); (case l21 => k_is); (case c21 => k_is); (case k21 => k_is)
    (case y_len => k_is)
    (case y_isinstance => k_is)
    (case y_range => k_is)
    (case y_list => k_is)
    (case y_sorted => k_is)
    (case y_tuple => k_is)
    (case y_int => k_is)
    (case y_bool => k_is)
    (case y_dict => k_is)
    (case y_sum => k_is)
    (case y_min => k_is)
    (case y_set => k_is)
