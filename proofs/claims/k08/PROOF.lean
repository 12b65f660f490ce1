import PyProof.Rows.All
import Wide.All
import OpenK.AllK
import Wide.FinOn
import Lean
import PyProof.EqAt
import PyProof.EqKinds
import PyProof.TupleCall
import PySem.Challenge.RW_sumshare_k08_what_is_a_tally
set_option Elab.async false
set_option linter.all false
set_option maxRecDepth 100000
/-! THE HAND LAYER, for ints, bools, texts, own classes, LISTS and tuples (index, slices, in, append, pop ..), calls, loops. Paste it whole ahead of your own text; what your proof does not reach may be deleted. -/
namespace L2
open PySem PySem.Spec PyProof.Rows

/-- a key: an int or a str -/
abbrev Key := Sum Int Str
def keyIs : Key → Value → Bool
  | .inl k, v => Value.isInt k v
  | .inr x, v => Value.isStrOf x v
def keyH (w : World) : Key → Int
  | .inl k => hashInt k
  | .inr x => hashStr w x
theorem keyIs_shape : ∀ {k : Key} {v : Value}, keyIs k v = true → (∃ i t, k = Sum.inl i ∧ v = Value.int i t) ∨ (∃ x t, k = Sum.inr x ∧ v = Value.str x t)
  | .inl i, v, h => by
    obtain ⟨t, e⟩ := Value.isInt_shape (k := i) (v := v) h
    exact .inl ⟨i, t, rfl, e⟩
  | .inr x, v, h => by
    obtain ⟨t, e⟩ := Value.isStrOf_shape (x := x) (v := v) h
    exact .inr ⟨x, t, rfl, e⟩
theorem keyIs_int (i : Int) (t : Tok) : keyIs (.inl i) (.int i t) = true := by simp [keyIs, Value.isInt]
theorem keyIs_str (x : Str) (t : Tok) : keyIs (.inr x) (.str x t) = true := by simp [keyIs, Value.isStrOf]
theorem key_ll (a b : Int) : decide ((Sum.inl a : Key) = Sum.inl b) = (a == b) := by
  by_cases e : a = b
  · subst e; simp
  · have h : ¬ (Sum.inl a : Key) = Sum.inl b := fun q => e (Sum.inl.inj q)
    rw [decide_eq_false h]
    exact (beq_eq_false_iff_ne.mpr e).symm
theorem key_rr (a b : Str) : decide ((Sum.inr a : Key) = Sum.inr b) = decide (a = b) := by
  by_cases e : a = b
  · subst e; simp
  · have h : ¬ (Sum.inr a : Key) = Sum.inr b := fun q => e (Sum.inr.inj q)
    rw [decide_eq_false h, decide_eq_false e]
theorem key_lr (a : Int) (b : Str) : decide ((Sum.inl a : Key) = Sum.inr b) = false := decide_eq_false (fun q => nomatch q)
theorem key_rl (a : Str) (b : Int) : decide ((Sum.inr a : Key) = Sum.inl b) = false := decide_eq_false (fun q => nomatch q)

def mixKind (prog : Program) (w : World) : PySem.KeyKind prog w Key where
  is := keyIs
  hash := keyH w
  inj := fun v a b ha hb => by
    rcases keyIs_shape ha with ⟨i, t, rfl, rfl⟩ | ⟨x, t, rfl, rfl⟩
    · rcases keyIs_shape hb with ⟨j, u, rfl, e⟩ | ⟨y, u, rfl, e⟩
      · injection e with e1 _; rw [e1]
      · exact nomatch e
    · rcases keyIs_shape hb with ⟨j, u, rfl, e⟩ | ⟨y, u, rfl, e⟩
      · exact nomatch e
      · injection e with e1 _; rw [e1]
  byValue := fun k v h => by
    rcases keyIs_shape h with ⟨i, t, rfl, rfl⟩ | ⟨x, t, rfl, rfl⟩ <;> rfl
  pyHash := fun hv h => by
    rcases keyIs_shape hv with ⟨i, t, rfl, rfl⟩ | ⟨x, t, rfl, rfl⟩
    · exact wpAny_pyHash_int h
    · exact wpAny_pyHash_str h
  eqBool := fun hu hv h => by
    rcases keyIs_shape hu with ⟨i, t, rfl, rfl⟩ | ⟨x, t, rfl, rfl⟩
    · rcases keyIs_shape hv with ⟨j, u, rfl, rfl⟩ | ⟨y, u, rfl, rfl⟩
      · rw [key_ll] at h; exact wpAny_eqBool_int h
      · rw [key_lr] at h; exact SeqAt.EqAt.int_str i t y u _ _ _ _ h
    · rcases keyIs_shape hv with ⟨j, u, rfl, rfl⟩ | ⟨y, u, rfl, rfl⟩
      · rw [key_rl] at h; exact SeqAt.EqAt.str_int x t j u _ _ _ _ h
      · rw [key_rr] at h; exact wpAny_eqBool_str h
  «strs» := fun k x t v h => by
    rcases keyIs_shape h with ⟨i, u, rfl, e⟩ | ⟨y, u, rfl, e⟩
    · exact nomatch e
    · injection e with e1 _
      subst e1
      cases v <;> rfl

theorem mixKind_int (prog : Program) (w : World) (i : Int) (t : Tok) : (mixKind prog w).is (.inl i) (.int i t) = true := keyIs_int i t
theorem mixKind_str (prog : Program) (w : World) (x : Str) (t : Tok) : (mixKind prog w).is (.inr x) (.str x t) = true := keyIs_str x t
end L2

namespace L2
open PySem PySem.Spec PyProof.Rows

/-- a value, without the heap -/
inductive V where
  | non | bl (b : Bool) | int (i : Int) | str (x : Str) | byt (b : Array UInt8) | flt (b : UInt64) | ref (a : Addr) | ty (n : String)
  deriving DecidableEq

def RelV : V → Value → Prop
  | .non, u => u = Value.none
  | .bl b, u => u = Value.bool b
  | .int i, u => ∃ t, u = Value.int i t
  | .str x, u => ∃ t, u = Value.str x t
  | .byt b, u => ∃ t, u = Value.bytes b t
  | .flt b, u => ∃ t, u = Value.float b t
  | .ref a, u => u = Value.ref a
  | .ty n, u => u = Value.type n

abbrev Vals : List V → List Value → Prop := Paired RelV
theorem Vals.length {xs : List V} {us : List Value} (r : Vals xs us) : xs.length = us.length := Paired.length r
theorem Vals.get : ∀ {xs : List V} {us : List Value} {i : Nat} {x : V}, Vals xs us → xs[i]? = some x → ∃ u, us[i]? = some u ∧ RelV x u
  | _, _, _, _, .nil, e => by simp at e
  | _, _, 0, _, .cons r _, e => by simp at e; subst e; exact ⟨_, rfl, r⟩
  | _, _, i + 1, x, .cons _ t, e => by
    obtain ⟨u, h1, h2⟩ := Vals.get (i := i) (x := x) t (by simpa using e)
    exact ⟨u, by simpa using h1, h2⟩
theorem Vals.set {x : V} {u : Value} (r : RelV x u) : ∀ {xs : List V} {us : List Value} (i : Nat), Vals xs us → Vals (xs.set i x) (us.set i u)
  | _, _, _, .nil => .nil
  | _, _, 0, .cons _ t => .cons r t
  | _, _, i + 1, .cons q t => .cons q (Vals.set r i t)
theorem Vals.append : ∀ {xs ys : List V} {us ws : List Value}, Vals xs us → Vals ys ws → Vals (xs ++ ys) (us ++ ws)
  | _, _, _, _, .nil, s => s
  | _, _, _, _, .cons r t, s => .cons r (Vals.append t s)
theorem Vals.take : ∀ {xs : List V} {us : List Value} (n : Nat), Vals xs us → Vals (xs.take n) (us.take n)
  | _, _, 0, _ => .nil
  | _, _, _ + 1, .nil => .nil
  | _, _, n + 1, .cons r t => .cons r (Vals.take n t)
theorem Vals.drop : ∀ {xs : List V} {us : List Value} (n : Nat), Vals xs us → Vals (xs.drop n) (us.drop n)
  | _, _, 0, r => r
  | _, _, _ + 1, .nil => .nil
  | _, _, n + 1, .cons _ t => Vals.drop n t

def RelO : Option V → Option Value → Prop
  | some v, some u => RelV v u
  | none, none => True
  | _, _ => False
def KV {κ : Type} : List (κ × V) → List (κ × Value) → Prop := Paired fun (p : κ × V) (q : κ × Value) => p.1 = q.1 ∧ RelV p.2 q.2

/-- a key of a dict (00_mix): an int or a text -/
def kV : Key → V
  | .inl i => .int i
  | .inr x => .str x

/-- what stands at a tracked address -/
inductive HO where
  /-- a list -/
  | lst (xs : List V)
  /-- a tuple (never changes) -/
  | tup (xs : List V)
  /-- a dict whose keys are ints and texts; one whose keys are tuples of ints and texts (the empty one is both) -/
  | dK (kvs : List (Key × V)) | dT (kvs : List (List Key × V))
  /-- a set of ints: its members, its size -/
  | set (S : Int → Bool) (n : Nat)
  /-- an instance of the class at C, its dict at dx, its attributes -/
  | ins (C dx : Addr) (fs : List (Str × V))
  /-- the dict of the instance at x -/
  | own (x : Addr)
  /-- the dict of an exception -/
  | xd (fs : List (Str × V))
  /-- a bound method, f of x -/
  | met (f x : Addr)
  /-- a range object lo, lo + 1, .. below hi -/
  | rng (lo hi : Int)
  /-- a thing that is known to the object (the script; a dict while a loop walks it): read, never written while it is so -/
  | frz (o : Obj) (u : HO)
  /-- a code object's table -/
  | tbl (ps : Array Value)
  /-- any other thing, by what is true of its one object (a def of one's own: SetO a S n := HO.ext fun h => ..) -/
  | ext (φ : Heap → Prop)

abbrev Hp := Addr → Option HO
def upd (H : Hp) (a : Addr) (o : HO) : Hp := fun b => if b = a then some o else H b
theorem upd_same {H : Hp} {a : Addr} {o : HO} : upd H a o a = some o := by unfold upd; rw [if_pos rfl]
theorem upd_ne {H : Hp} {a b : Addr} {o : HO} (h : b ≠ a) : upd H a o b = H b := by unfold upd; rw [if_neg h]
theorem upd_upd {H : Hp} {a : Addr} {o u : HO} : upd (upd H a o) a u = upd H a u := by
  funext b; unfold upd; split <;> rfl
/-- two objects of different content stand apart -/
theorem ne_of {H : Hp} {a b : Addr} {o u : HO} (h : H a = some o) (h' : H b = some u) (d : o ≠ u) : a ≠ b := by
  intro e; subst e; rw [h] at h'; exact d (Option.some.inj h')
theorem ne_of_none {H : Hp} {a b : Addr} {o : HO} (h : H a = some o) (h' : H b = none) : a ≠ b := by
  intro e; subst e; rw [h] at h'; cases h'

def TupN (h : Heap) (a : Addr) (items : Array Value) : Prop := ∃ o, h.get? a = some o ∧ (o.cls = .type "tuple" ∧ o.dict = none) ∧ ∃ n, o.data = .seq items n
theorem TupN.tup {h : Heap} {a : Addr} {items : Array Value} (x : TupN h a items) : IsTup h a items := let ⟨o, e, c, n, d⟩ := x; ⟨o, e, c.1, n, d⟩
theorem TupN.new (h : Heap) (items : Array Value) : TupN (h.push { cls := .type "tuple", data := .seq items }) h.objs.size items := ⟨_, Heap.get?_push_size _ rfl, ⟨rfl, rfl⟩, _, rfl⟩
section
variable (P : Program) (w : World)
def ObjOk (H : Hp) (h : Heap) (a : Addr) : HO → Prop
  | .lst xs => xs.length ≤ sizeLine ∧ ∃ (its : List Value) (n : Nat), Vals xs its ∧ h.get? a = some { cls := .type "list", data := .seq its.toArray n }
  | .tup xs => xs.length ≤ sizeLine ∧ ∃ its : List Value, Vals xs its ∧ TupN h a its.toArray
  | .dK kvs => kvs.length ≤ sizeLine ∧ (a == sysModules) = false ∧ ∃ vs, KV kvs vs ∧ h.DictOf (mixKind P w) a vs
  | .dT kvs => kvs.length ≤ sizeLine ∧ (a == sysModules) = false ∧ ∃ xs : List (List Key × Addr × Value),
      Paired (fun (p : List Key × V) (q : List Key × Addr × Value) => p.1 = q.1 ∧ H q.2.1 = some (.tup (p.1.map kV)) ∧ RelV p.2 q.2.2) kvs xs ∧
      ∃ o es ep, h.get? a = some o ∧ o.ExactDict ∧ o.data = .dict es ep ∧ es.toList = xs.map (entryOfKey (tupleKind (mixKind P w))) ∧ (xs.map (·.1)).Nodup
  | .set S n => h.SetOf (intKind P w) a S n
  | .ins C dx fs => H dx = some (.own a) ∧ fs.length ≤ 1000 ∧ dx ≠ a ∧ h.get? a = some (PySem.W.instObj C dx) ∧
      ∃ mA, h.Ns1 dx mA ∧ (∀ f, RelO (fs.lookup f) (mA f)) ∧ PySem.Within mA (fs.map (·.1))
  | .own _ => ∃ o, h.get? a = some o
  | .xd fs => ∃ mA, h.Ns1 a mA ∧ ∀ f, RelO (fs.lookup f) (mA f)
  | .rng lo hi => ∃ t u v, h.get? a = some { cls := .type "range", data := .fields #[.int lo t, .int hi u, .int 1 v] }
  | .frz o u => h.get? a = some o ∧ ObjOk H h a u
  | .tbl ps => h.get? a = some { cls := .none, data := .fields ps }
  | .met f x => h.get? a = some (PySem.W.methodObj (.ref f) (.ref x))
  | .ext φ => φ h ∧ (∃ o, h.get? a = some o) ∧ ∀ h1 h2 : Heap, φ h1 → (∀ o, h1.get? a = some o → h2.get? a = some o) → φ h2
/-- the abstract heap is held -/
def HOk (H : Hp) (h : Heap) : Prop := ∀ a o, H a = some o → ObjOk P w H h a o
end

section
variable {P : Program} {w : World} {H H' : Hp} {h h' : Heap} {a : Addr} {o : HO}
theorem ObjOk.lt (x : ObjOk P w H h a o) : a < h.objs.size := by
  cases o with
  | lst xs => obtain ⟨_, _, _, _, e⟩ := x; exact Heap.lt_size e
  | tup xs => obtain ⟨_, _, _, p⟩ := x; exact p.tup.lt
  | dK kvs => obtain ⟨_, _, _, _, o, _, _, e, _⟩ := x; exact Heap.lt_size e
  | dT kvs => obtain ⟨_, _, _, _, o, _, _, e, _⟩ := x; exact Heap.lt_size e
  | set S n => obtain ⟨o, _, _, _, e, _⟩ := x; exact Heap.lt_size e
  | ins C dx fs => obtain ⟨_, _, _, e, _⟩ := x; exact Heap.lt_size e
  | own y => obtain ⟨_, e⟩ := x; exact Heap.lt_size e
  | xd fs => obtain ⟨_, ⟨_, _, _, e, _⟩, _⟩ := x; exact Heap.lt_size e
  | rng lo hi => obtain ⟨_, _, _, e⟩ := x; exact Heap.lt_size e
  | frz ob u => obtain ⟨e, _⟩ := x; exact Heap.lt_size e
  | tbl ps => exact Heap.lt_size (show h.get? a = some _ from x)
  | met f y => exact Heap.lt_size (show h.get? a = some _ from x)
  | ext φ => obtain ⟨_, ⟨_, e⟩, _⟩ := x; exact Heap.lt_size e
theorem Paired.mapP {α β : Type} {F G : α → β → Prop} : ∀ {l₁ : List α} {l₂ : List β}, Paired F l₁ l₂ → (∀ a b, F a b → G a b) → Paired G l₁ l₂
  | _, _, .nil, _ => .nil
  | _, _, .cons r t, f => .cons (f _ _ r) (Paired.mapP t f)
/-- what an object's description leans on: its own object, its own dict, the tuples -/
theorem ObjOk.stay (x : ObjOk P w H h a o) (k : ∀ b u, (b = a ∨ H b = some (.own a)) → h.get? b = some u → h'.get? b = some u)
    (ho : ∀ b, H b = some (.own a) → H' b = some (.own a)) (ht : ∀ b xs, H b = some (.tup xs) → H' b = some (.tup xs)) : ObjOk P w H' h' a o := by
  induction o with
  | lst xs => obtain ⟨z, its, n, r, e⟩ := x; exact ⟨z, its, n, r, k _ _ (.inl rfl) e⟩
  | tup xs => obtain ⟨z, its, r, ob, e, c⟩ := x; exact ⟨z, its, r, ob, k _ _ (.inl rfl) e, c⟩
  | dK kvs => obtain ⟨z, y, vs, r, ob, es, ep, e, c⟩ := x; exact ⟨z, y, vs, r, ob, es, ep, k _ _ (.inl rfl) e, c⟩
  | dT kvs =>
    obtain ⟨z, y, xs, r, ob, es, ep, e, c⟩ := x
    exact ⟨z, y, xs, Paired.mapP r fun p q z => ⟨z.1, ht _ _ z.2.1, z.2.2⟩, ob, es, ep, k _ _ (.inl rfl) e, c⟩
  | set S n => obtain ⟨ob, es, ep, t, e, c⟩ := x; exact ⟨ob, es, ep, t, k _ _ (.inl rfl) e, c⟩
  | ins C dx fs =>
    obtain ⟨d, z, ne, e, mA, ⟨od, es, ep, e2, c⟩, r⟩ := x
    exact ⟨ho _ d, z, ne, k _ _ (.inl rfl) e, mA, ⟨od, es, ep, k _ _ (.inr d) e2, c⟩, r⟩
  | own y => obtain ⟨ob, e⟩ := x; exact ⟨ob, k _ _ (.inl rfl) e⟩
  | xd fs => obtain ⟨mA, ⟨od, es, ep, e, c⟩, r⟩ := x; exact ⟨mA, ⟨od, es, ep, k _ _ (.inl rfl) e, c⟩, r⟩
  | rng lo hi => obtain ⟨t, u, v, e⟩ := x; exact ⟨t, u, v, k _ _ (.inl rfl) e⟩
  | frz ob u ih => obtain ⟨e, q⟩ := x; exact ⟨k _ _ (.inl rfl) e, ih q⟩
  | tbl ps =>
    have e : h.get? a = some { cls := .none, data := .fields ps } := x
    show h'.get? a = some { cls := .none, data := .fields ps }
    exact k a _ (.inl rfl) e
  | met f y =>
    have e : h.get? a = some (PySem.W.methodObj (.ref f) (.ref y)) := x
    show h'.get? a = some (PySem.W.methodObj (.ref f) (.ref y))
    exact k a _ (.inl rfl) e
  | ext φ => obtain ⟨p, ⟨o, e⟩, st⟩ := x; exact ⟨st _ _ p fun o q => k _ _ (.inl rfl) q, ⟨o, k _ _ (.inl rfl) e⟩, st⟩
theorem HOk.lt (x : HOk P w H h) (e : H a = some o) : a < h.objs.size := (x a o e).lt
theorem HOk.fresh (x : HOk P w H h) (e : h.objs.size ≤ a) : H a = none := by
  cases q : H a with
  | none => rfl
  | some u => exact absurd (Nat.lt_of_lt_of_le (x.lt q) e) (Nat.lt_irrefl _)
/-- every object of the heap is kept -/
theorem HOk.kept (x : HOk P w H h) (k : ∀ b u, h.get? b = some u → h'.get? b = some u) : HOk P w H h' := fun a o e =>
  (x a o e).stay (fun b u _ q => k b u q) (fun _ q => q) fun _ _ q => q
/-- a new object is laid and tracked -/
theorem HOk.laid (x : HOk P w H h) (k : ∀ b u, h.get? b = some u → h'.get? b = some u) (hp : h.objs.size ≤ a) (new : ObjOk P w (upd H a o) h' a o) : HOk P w (upd H a o) h' := fun b u e => by
  have hn := x.fresh hp
  by_cases hb : b = a
  · subst hb; rw [upd_same] at e; cases e; exact new
  · rw [upd_ne hb] at e
    exact (x b u e).stay (fun c v _ q => k c v q) (fun c q => by rw [upd_ne (ne_of_none q hn)]; exact q) fun c xs q => by rw [upd_ne (ne_of_none q hn)]; exact q
end

/-- what may be read as u: it is u, or a known u -/
def Rd (H : Hp) (a : Addr) (u : HO) : Prop := H a = some u ∨ ∃ o, H a = some (.frz o u)
theorem Rd.of {H : Hp} {a : Addr} {u : HO} (h : H a = some u) : Rd H a u := .inl h
theorem Rd.ok {P : Program} {w : World} {H : Hp} {h : Heap} {a : Addr} {u : HO} (r : Rd H a u) (x : HOk P w H h) : ObjOk P w H h a u := by
  rcases r with r | ⟨o, r⟩
  · exact x a u r
  · obtain ⟨_, q⟩ := x a _ r
    exact q
/-- what may be written -/
def Mut : Option HO → Prop
  | some (.lst _) => True
  | some (.dK _) => True
  | some (.dT _) => True
  | some (.set _ _) => True
  | some (.ins _ _ _) => True
  | some (.ext _) => True
  | _ => False
section
variable {P : Program} {w : World} {H : Hp} {h h' : Heap} {x e : Addr} {o' : HO}
/-- the object at e is changed: x itself, or the dict of the instance x -/
theorem HOk.write (ok : HOk P w H h) (mu : Mut (H x)) (he : e = x ∨ H e = some (.own x)) (k : ∀ b u, b ≠ e → h.get? b = some u → h'.get? b = some u) (heo : ∃ u, h'.get? e = some u)
    (new : ObjOk P w (upd H x o') h' x o') : HOk P w (upd H x o') h' := fun b u q => by
  have nown : ∀ c y, H c = some (.own y) → c ≠ x := fun c y r z => by subst z; rw [r] at mu; exact mu
  have ntup : ∀ c xs, H c = some (.tup xs) → c ≠ x := fun c xs r z => by subst z; rw [r] at mu; exact mu
  by_cases hb : b = x
  · subst hb; rw [upd_same] at q; cases q; exact new
  · rw [upd_ne hb] at q
    by_cases hbe : b = e
    · have q' : H b = some (.own x) := by
        rcases he with z | z
        · exact absurd (hbe.trans z) hb
        · rw [hbe]; exact z
      rw [q] at q'; cases q'
      obtain ⟨v, hv⟩ := heo
      exact ⟨v, by rw [hbe]; exact hv⟩
    · refine (ok b u q).stay (fun c v hc r => k c v ?_ r) (fun c r => by rw [upd_ne (nown c b r)]; exact r) fun c xs r => by rw [upd_ne (ntup c xs r)]; exact r
      rcases hc with rfl | hc
      · exact hbe
      · rintro rfl
        rcases he with z | z
        · exact nown c b hc z
        · rw [hc] at z; cases z; exact hb rfl
end

/-! ### kept unless tracked; of the frames at fs (the callers') the slots may change (an exception that passes writes there); of the records at ex (iterators) nothing is said -/
structure Un (fs ex : List Addr) (H H' : Hp) (h h' : Heap) : Prop where
  keep : ∀ b o, h.get? b = some o → H b = none → b ∉ fs → b ∉ ex → h'.get? b = some o
  slot : ∀ b o, h.get? b = some o → H b = none → b ∈ fs → b ∉ ex → ∃ sl, h'.get? b = some { o with slots := sl }
  free : ∀ b o, h.get? b = some o → H b = none → b ∉ ex → H' b = none
  there : ∀ b o, h.get? b = some o → b ∉ ex → ∃ o', h'.get? b = some o'
  tups : ∀ b xs, H b = some (.tup xs) → H' b = some (.tup xs)
  frzs : ∀ b o u, H b = some (.frz o u) → H' b = some (.frz o u)
  tbls : ∀ b ps, H b = some (.tbl ps) → ∃ more, H' b = some (.tbl (ps ++ more))
section
variable {fs fs' ex ex' : List Addr} {H H1 H2 : Hp} {h h1 h2 h' : Heap} {a x e : Addr} {o : HO}
theorem Un.any (u : Un fs ex H H1 h h1) {b : Addr} {ob : Obj} (q : h.get? b = some ob) (n : H b = none) (hx : b ∉ ex) : ∃ sl, h1.get? b = some { ob with slots := sl } := by
  by_cases hb : b ∈ fs
  · exact u.slot b ob q n hb hx
  · exact ⟨ob.slots, u.keep b ob q n hb hx⟩
theorem Un.trans (a : Un fs ex H H1 h h1) (b : Un fs ex H1 H2 h1 h2) : Un fs ex H H2 h h2 where
  keep := fun c ob q n hc hx => b.keep c ob (a.keep c ob q n hc hx) (a.free c ob q n hx) hc hx
  slot := fun c ob q n hc hx => by
    obtain ⟨sl, e1⟩ := a.slot c ob q n hc hx
    obtain ⟨sl', e2⟩ := b.slot c _ e1 (a.free c ob q n hx) hc hx
    exact ⟨sl', e2⟩
  free := fun c ob q n hx => by
    obtain ⟨o', e1⟩ := a.there c ob q hx
    exact b.free c o' e1 (a.free c ob q n hx) hx
  there := fun c ob q hx => by
    obtain ⟨o', e1⟩ := a.there c ob q hx
    exact b.there c o' e1 hx
  tups := fun c xs q => b.tups c xs (a.tups c xs q)
  frzs := fun c ob xs q => b.frzs c ob xs (a.frzs c ob xs q)
  tbls := fun c ps q => by
    obtain ⟨m1, e1⟩ := a.tbls c ps q
    obtain ⟨m2, e2⟩ := b.tbls c _ e1
    exact ⟨m1 ++ m2, by rw [e2, Array.append_assoc]⟩
theorem Un.kept (k : ∀ b u, h.get? b = some u → h'.get? b = some u) : Un fs ex H H h h' :=
  ⟨fun b ob q _ _ _ => k b ob q, fun b ob q _ _ _ => ⟨ob.slots, k b ob q⟩, fun _ _ _ n _ => n, fun b ob q _ => ⟨ob, k b ob q⟩, fun _ _ q => q, fun _ _ _ q => q, fun _ ps q => ⟨#[], by rw [q]; simp⟩⟩
theorem Un.refl : Un fs ex H H h h := Un.kept fun _ _ q => q
theorem Un.laid (k : ∀ b u, h.get? b = some u → h'.get? b = some u) (hp : h.objs.size ≤ a) (hn : H a = none) : Un fs ex H (upd H a o) h h' where
  keep := fun b u q _ _ _ => k b u q
  slot := fun b u q _ _ _ => ⟨u.slots, k b u q⟩
  free := fun b u q n _ => by rw [upd_ne (Nat.ne_of_lt (Nat.lt_of_lt_of_le (Heap.lt_size q) hp))]; exact n
  there := fun b u q _ => ⟨u, k b u q⟩
  tups := fun b xs q => by rw [upd_ne (ne_of_none q hn)]; exact q
  frzs := fun b u xs q => by rw [upd_ne (ne_of_none q hn)]; exact q
  tbls := fun b ps q => ⟨#[], by rw [upd_ne (ne_of_none q hn), q]; simp⟩
theorem Un.write (mu : Mut (H x)) (he : e = x ∨ H e = some (.own x)) (k : ∀ b u, b ≠ e → h.get? b = some u → h'.get? b = some u) (heo : ∃ u, h'.get? e = some u) : Un fs ex H (upd H x o) h h' := by
  have hx : ∀ b, H b = none → b ≠ x := fun b n z => by subst z; rw [n] at mu; exact mu
  have hb : ∀ b, H b = none → b ≠ e := fun b n z => by
    subst z
    rcases he with r | r
    · exact hx b n r
    · rw [n] at r; cases r
  have hm : ∀ b u, H b = some u → ¬ Mut (some u) → b ≠ x := fun b u q nm z => by subst z; rw [q] at mu; exact nm mu
  refine ⟨fun b u q n _ _ => k b u (hb b n) q, fun b u q n _ _ => ⟨u.slots, k b u (hb b n) q⟩, fun b u q n _ => by rw [upd_ne (hx b n)]; exact n, fun b u q _ => ?_,
    fun b xs q => by rw [upd_ne (hm b _ q fun z => z)]; exact q, fun b u xs q => by rw [upd_ne (hm b _ q fun z => z)]; exact q, fun b ps q => ⟨#[], by rw [upd_ne (hm b _ q fun z => z), q]; simp⟩⟩
  by_cases hbe : b = e
  · subst hbe; exact heo
  · exact ⟨u, k b u hbe q⟩
theorem Un.mono (u : Un fs ex H H1 h h1) (hs : ∀ b ∈ fs, b ∈ fs') (hx : ∀ b ∈ ex, b ∈ ex') : Un fs' ex' H H1 h h1 :=
  ⟨fun b ob q n hb he => u.keep b ob q n (fun z => hb (hs b z)) fun z => he (hx b z), fun _ _ q n _ he => u.any q n fun z => he (hx _ z), fun b ob q n he => u.free b ob q n fun z => he (hx b z), fun b ob q he => u.there b ob q fun z => he (hx b z), u.tups, u.frzs, u.tbls⟩
end

/-! ### the heap without what is tracked -/
def trk (h : Heap) (H : Hp) : List Addr := (List.range h.objs.size).filter fun a => (H a).isSome
def hidT (h : Heap) (H : Hp) : Heap := PySem.W.hideAll h (trk h H)
theorem hidT_size (h : Heap) (H : Hp) : (hidT h H).objs.size = h.objs.size := PySem.W.hideAll_size _ _
theorem hidT_get {h : Heap} {H : Hp} {b : Addr} {o : Obj} (e : h.get? b = some o) (n : H b = none) : (hidT h H).get? b = some o :=
  PySem.W.hideAll_get _ e fun hm => by
    have q : (H b).isSome = true := (List.mem_filter.mp hm).2
    rw [n] at q; simp at q
theorem of_hidT {h : Heap} {H : Hp} {b : Addr} {o : Obj} (e : (hidT h H).get? b = some o) : h.get? b = some o ∧ H b = none := by
  have e' : h.get? b = some o := PySem.W.of_hideAll (trk h H) e
  refine ⟨e', ?_⟩
  cases q : H b with
  | none => rfl
  | some x =>
    have hm : b ∈ trk h H := List.mem_filter.mpr ⟨List.mem_range.mpr (Heap.lt_size e'), by simp [q]⟩
    have z : (hidT h H).get? b = none := PySem.W.hideAll_none (trk h H) hm
    rw [z] at e; cases e

/-! ### OpenK's ledger, filled with every new object but one -/
def allNews (g h : Heap) (L : Addr) : List (Addr × Obj) := (List.range h.objs.size).filterMap fun a => if a = L ∨ (g.get? a).isSome = true then none else (h.get? a).map fun o => (a, o)
def rest (g h : Heap) (L d : Addr) : List (Addr × Obj) := (allNews g h L).filter fun p => decide (p.1 ≠ d)
end L2

namespace L2
open PySem PySem.Spec PyProof.Rows

/-- the module's facts, over the base: the heap at the law's entry without what is tracked there -/
structure Mod (K : PySem.W.Frag) (mg : Str → Option Value) (base : Heap) : Prop where
  kin : K.In base
  glob : base.Ns mainGlobals mg
  blt : ∃ mb, base.Ns builtinsNs mb ∧ ∀ x : Str, x ≠ "__name__" → mb x = bootBuiltins x
  nolimit : base.NoLimit

/-- the context: a def's body (or a comprehension's block) running. base: fixed through the whole law; s₀, H₀: the entry; outer: the frames whose slots others may change (a def's callers); stack: all frames that run;
   ex: iterators that were made ahead of the entry and are walked here (a comprehension's); fn: the names whose cells were made at the entry (a def: all; a comprehension's block: its own); calm: not within an except suite; pn: pins that every state bears; xe: what is wanted of an exception that leaves the code -/
structure Cx where
  prog : Program
  w : World
  K : PySem.W.Frag
  mg : Str → Option Value
  base : Heap
  A : Around
  N : List Str
  s₀ : Shared
  H₀ : Hp
  env : Env
  outer : List Env
  stack : List Env
  ex : List Addr
  fn : Str → Bool
  calm : Bool
  pn : List (Addr × Obj)
  xe : Value → Shared → Prop
/-- the callers' frames -/
def frs (l : List Env) : List Addr := l.filterMap (·.frame)
abbrev Cx.fs (X : Cx) : List Addr := frs X.outer

def Vis (sc : Scope) (x : Str) : Prop := sc.names.lookup x = some .local ∨ sc.names.lookup x = some .cell ∨ sc.names.lookup x = some .free
def Loc (sc : Scope) (x : Str) : Prop := sc.names.lookup x = some .local ∨ sc.names.lookup x = some .cell
def Look (env : Env) (h : Heap) (m : Str → Option Value) (x : Str) (u : Value) : Prop :=
  (env.kindOf x = some .local ∧ m x = some u) ∨ ((env.kindOf x = some .cell ∨ env.kindOf x = some .free) ∧ ∃ c, env.cells.lookup x = some c ∧ h.IsCell c (some u))

structure Cx.Ok (X : Cx) : Prop where
  mod : Mod X.K X.mg X.base
  kind : X.env.scope.kind = .function
  glob : X.env.globals = mainGlobals
  blt : X.env.builtins = builtinsNs
  above : X.s₀.heap.objs.size ≤ X.env.locals
  inj : ∀ x y c, X.env.cells.lookup x = some c → X.env.cells.lookup y = some c → x = y
  has : ∀ x, (X.env.kindOf x = some .cell ∨ X.env.kindOf x = some .free) → ∃ c, X.env.cells.lookup x = some c
  cab : ∀ x c, X.fn x = true → X.env.cells.lookup x = some c → X.s₀.heap.objs.size ≤ c
  hd : X.calm = true → X.A.handled = none
  frames : X.A.frames = some X.stack
  stk : X.stack = X.outer ∨ (X.stack = X.env :: X.outer ∧ X.env.frame = some X.env.locals)
  exf : ∀ b ∈ X.ex, b ≠ X.env.locals ∧ ∀ x c, X.env.cells.lookup x = some c → c ≠ b
  bs : ∀ b o, X.base.get? b = some o → X.s₀.heap.get? b = some o ∧ X.H₀ b = none
  bsz : X.base.objs.size ≤ X.s₀.heap.objs.size
  noex : ∀ b o, X.base.get? b = some o → b ∉ X.ex
  exfs : ∀ b ∈ X.ex, b ∉ X.fs
  funs : X.s₀.heap.FunFrames X.base X.outer
  frf : ∀ b ∈ X.fs, X.H₀ b = none

structure Inv (X : Cx) (pins : List (Addr × Obj)) (σ : List (Option V)) (H : Hp) (s : Shared) : Prop where
  ok : X.Ok
  os : s.os = X.s₀.os
  bare : AllBare s.gens
  base : Un X.fs X.ex X.H₀ H X.s₀.heap s.heap
  loc : ∃ m, s.heap.Ns X.env.locals m ∧ ∀ (i : Nat) (x : Str) (v : V), X.N[i]? = some x → σ[i]? = some (some v) → Vis X.env.scope x → ∃ u, RelV v u ∧ Look X.env s.heap m x u
  cell : ∀ x c, X.env.cells.lookup x = some c → ∃ v, s.heap.IsCell c v
  free : H X.env.locals = none
  freeC : ∀ x c, X.env.cells.lookup x = some c → H c = none
  pin : ∀ p ∈ X.pn ++ pins, s.heap.get? p.1 = some p.2 ∧ H p.1 = none ∧ p.1 ≠ X.env.locals ∧ p.1 ∉ X.fs ∧ ∀ v, p.2.data ≠ .cell v
  hok : HOk X.prog X.w H s.heap
  len : σ.length = X.N.length

section
variable {X : Cx} {pins : List (Addr × Obj)} {σ : List (Option V)} {H H' : Hp} {s : Shared} {h' : Heap}

theorem Cx.Ok.nofr (ok : X.Ok) {b : Addr} {o : Obj} (e : X.base.get? b = some o) : b ∉ X.fs := fun hb => by
  have := (ok.funs.mem hb).1
  rw [e] at this; cases this
theorem Inv.bs (I : Inv X pins σ H s) : ∀ b o, X.base.get? b = some o → s.heap.get? b = some o ∧ H b = none := fun b o e =>
  ⟨I.base.keep b o (I.ok.bs b o e).1 (I.ok.bs b o e).2 (I.ok.nofr e) (I.ok.noex b o e), I.base.free b o (I.ok.bs b o e).1 (I.ok.bs b o e).2 (I.ok.noex b o e)⟩
theorem Inv.bk (I : Inv X pins σ H s) : ∀ b o, X.base.get? b = some o → s.heap.get? b = some o := fun b o e => (I.bs b o e).1
theorem Inv.mod (I : Inv X pins σ H s) : Mod X.K X.mg X.base := I.ok.mod
theorem Inv.kIn (I : Inv X pins σ H s) : X.K.In s.heap := I.ok.mod.kin.keeps I.bk
theorem Inv.nolimit (I : Inv X pins σ H s) : s.heap.NoLimit := I.ok.mod.nolimit.keeps I.bk
/-- the frame over the base: for OpenK's rules (K.In X.base is I.mod.kin) -/
theorem Inv.fr (I : Inv X pins σ H s) : ∃ m, Fr X.base X.env.locals s.heap m :=
  let ⟨m, hn, _⟩ := I.loc
  ⟨m, hn, I.bk, Nat.le_trans I.ok.bsz I.ok.above⟩
theorem Inv.lt (I : Inv X pins σ H s) : X.env.locals < s.heap.objs.size := let ⟨_, hn, _⟩ := I.loc; hn.lt
theorem Inv.sz (I : Inv X pins σ H s) : X.s₀.heap.objs.size ≤ s.heap.objs.size := Nat.le_trans I.ok.above (Nat.le_of_lt I.lt)
theorem Inv.nofs (I : Inv X pins σ H s) {a : Addr} (h : s.heap.objs.size ≤ a) : a ∉ X.fs := fun hb => by
  obtain ⟨_, o, ho, _⟩ := I.ok.funs.mem hb
  exact absurd (Nat.lt_of_lt_of_le (Heap.lt_size ho) (Nat.le_trans I.sz h)) (Nat.lt_irrefl _)
theorem Inv.cne (I : Inv X pins σ H s) : ∀ x c, X.env.cells.lookup x = some c → c ≠ X.env.locals := fun x c e z => by
  obtain ⟨v, o, ho, hd⟩ := I.cell x c e
  obtain ⟨m, ⟨o', es, ep, ho', hd', _⟩, _⟩ := I.loc
  rw [z, ho'] at ho; cases ho; rw [hd'] at hd; cases hd
theorem Inv.funs (I : Inv X pins σ H s) : s.heap.FunFrames X.base X.outer := by
  have all : ∀ (l : List Env), (∀ b ∈ frs l, b ∈ X.fs) → X.s₀.heap.FunFrames X.base l → s.heap.FunFrames X.base l := by
    intro l
    induction l with
    | nil => intro _ _; trivial
    | cons env r ih =>
      intro hs hl
      obtain ⟨hk, ⟨L, o, hf, hn, ho, hd⟩, hr⟩ := hl
      have hL : L ∈ X.fs := hs L (by unfold frs; rw [List.filterMap_cons, hf]; exact List.mem_cons_self)
      obtain ⟨sl, e⟩ := I.base.slot L o ho (I.ok.frf L hL) hL fun z => I.ok.exfs L z hL
      exact ⟨hk, ⟨L, _, hf, hn, e, hd⟩, ih (fun b hb => hs b (by unfold frs; rw [List.filterMap_cons, hf]; exact List.mem_cons_of_mem _ hb)) hr⟩
  exact all X.outer (fun _ hb => hb) I.ok.funs

/-- the frames that run, for a call -/
theorem Inv.stack (I : Inv X pins σ H s) : s.heap.FunFrames X.base X.stack := by
  rcases I.ok.stk with e | ⟨e, hf⟩
  · rw [e]; exact I.funs
  · rw [e]
    obtain ⟨m, hn, _⟩ := I.loc
    refine .cons (by rw [I.ok.kind]; decide) hf hn ?_ I.funs
    exact Heap.get?_none_of_le (Nat.le_trans I.ok.bsz I.ok.above)
theorem Inv.stkSub (I : Inv X pins σ H s) : ∀ b ∈ frs X.stack, b ∈ X.env.locals :: X.fs := fun b hb => by
  rcases I.ok.stk with e | ⟨e, hf⟩
  · rw [e] at hb; exact List.mem_cons_of_mem _ hb
  · rw [e] at hb
    unfold frs at hb
    rw [List.filterMap_cons, hf] at hb
    exact hb
theorem Inv.stkFree (I : Inv X pins σ H s) : ∀ b ∈ frs X.stack, H b = none := fun b hb => by
  rcases List.mem_cons.mp (I.stkSub b hb) with e | hb
  · rw [e]; exact I.free
  · obtain ⟨_, o, ho, _⟩ := I.ok.funs.mem hb
    exact I.base.free b o ho (I.ok.frf b hb) fun z => I.ok.exfs b z hb

/-- THE STEP: the untracked objects but the frame and the records at ch are kept (the callers' frames up to slots), the frame's map is kept, the new abstract heap is held -/
theorem Inv.step {g' : Array GenState} {t' : Nat} {d' : Drawn} {ch : List Addr} (I : Inv X pins σ H s)
    (hch : ∀ b ∈ ch, (b ∈ X.ex ∨ X.s₀.heap.objs.size ≤ b) ∧ b ≠ X.env.locals ∧ (∀ x c, X.env.cells.lookup x = some c → c ≠ b) ∧ ∀ p ∈ X.pn ++ pins, p.1 ≠ b)
    (keep : ∀ b o, b ≠ X.env.locals → b ∉ X.fs → b ∉ ch → s.heap.get? b = some o → H b = none → h'.get? b = some o)
    (slot : ∀ b o, b ≠ X.env.locals → b ∈ X.fs → b ∉ ch → s.heap.get? b = some o → H b = none → ∃ sl, h'.get? b = some { o with slots := sl }) (free : ∀ b o, b ∉ ch → s.heap.get? b = some o → H b = none → H' b = none)
    (there : ∀ b o, b ∉ ch → s.heap.get? b = some o → ∃ o', h'.get? b = some o')
    (tups : ∀ b xs, H b = some (.tup xs) → H' b = some (.tup xs)) (frzs : ∀ b o u, H b = some (.frz o u) → H' b = some (.frz o u)) (tbls : ∀ b ps, H b = some (.tbl ps) → ∃ more, H' b = some (.tbl (ps ++ more)))
    (ns : ∀ m, s.heap.Ns X.env.locals m → h'.Ns X.env.locals m) (hok : HOk X.prog X.w H' h') (hg : AllBare g') :
    Inv X pins σ H' { s with heap := h', gens := g', drawn := d', toks := t' } := by
  have neL : ∀ b o, X.s₀.heap.get? b = some o → b ≠ X.env.locals := fun b o e => Nat.ne_of_lt (Nat.lt_of_lt_of_le (Heap.lt_size e) I.ok.above)
  have neC : ∀ b o, X.s₀.heap.get? b = some o → b ∉ X.ex → b ∉ ch := fun b o e hx hb => by
    rcases (hch b hb).1 with z | z
    · exact hx z
    · exact absurd (Nat.lt_of_lt_of_le (Heap.lt_size e) z) (Nat.lt_irrefl _)
  have cellK : ∀ x c, X.env.cells.lookup x = some c → ∀ v, s.heap.IsCell c v → h'.IsCell c v := fun x c e v ⟨o, ho, hd⟩ => by
    have nch : c ∉ ch := fun z => (hch c z).2.2.1 x c e rfl
    by_cases hc : c ∈ X.fs
    · obtain ⟨sl, q⟩ := slot c o (I.cne x c e) hc nch ho (I.freeC x c e)
      exact ⟨_, q, hd⟩
    · exact ⟨o, keep c o (I.cne x c e) hc nch ho (I.freeC x c e), hd⟩
  refine ⟨I.ok, I.os, hg, ⟨fun b o e n hb hx => ?_, fun b o e n hb hx => ?_, fun b o e n hx => ?_, fun b o e hx => ?_, fun b xs e => tups b xs (I.base.tups b xs e), fun b o xs e => frzs b o xs (I.base.frzs b o xs e), fun b ps e => ?_⟩, ?_, fun x c e => ?_, ?_, fun x c e => ?_, fun p hp => ?_, hok, I.len⟩
  · exact keep b o (neL b o e) hb (neC b o e hx) (I.base.keep b o e n hb hx) (I.base.free b o e n hx)
  · obtain ⟨sl, e1⟩ := I.base.slot b o e n hb hx
    obtain ⟨sl', e2⟩ := slot b _ (neL b o e) hb (neC b o e hx) e1 (I.base.free b o e n hx)
    exact ⟨sl', e2⟩
  · obtain ⟨o', e1⟩ := I.base.there b o e hx
    exact free b o' (neC b o e hx) e1 (I.base.free b o e n hx)
  · obtain ⟨o', e1⟩ := I.base.there b o e hx
    exact there b o' (neC b o e hx) e1
  · obtain ⟨m1, e1⟩ := I.base.tbls b ps e
    obtain ⟨m2, e2⟩ := tbls b _ e1
    exact ⟨m1 ++ m2, by rw [e2, Array.append_assoc]⟩
  · obtain ⟨m, hn, hl⟩ := I.loc
    refine ⟨m, ns m hn, fun i x v e1 e2 e3 => ?_⟩
    obtain ⟨u, r, l⟩ := hl i x v e1 e2 e3
    refine ⟨u, r, ?_⟩
    rcases l with l | ⟨k, c, e, z⟩
    · exact .inl l
    · exact .inr ⟨k, c, e, cellK x c e _ z⟩
  · obtain ⟨v, z⟩ := I.cell x c e
    exact ⟨v, cellK x c e v z⟩
  · obtain ⟨m, ⟨o, _, _, ho, _⟩, _⟩ := I.loc
    exact free _ o (fun z => (hch _ z).2.1 rfl) ho I.free
  · obtain ⟨v, o, ho, hd⟩ := I.cell x c e
    exact free c o (fun z => (hch c z).2.2.1 x c e rfl) ho (I.freeC x c e)
  · obtain ⟨e, n, ne, nf, d⟩ := I.pin p hp
    have nch : p.1 ∉ ch := fun z => (hch p.1 z).2.2.2 p hp rfl
    exact ⟨keep p.1 p.2 ne nf nch e n, free p.1 p.2 nch e n, ne, nf, d⟩
/-- .. where the frame's own object is kept too -/
theorem Inv.un {t' : Nat} (I : Inv X pins σ H s) (u : Un X.fs [] H H' s.heap h') (hok : HOk X.prog X.w H' h') : Inv X pins σ H' { s with heap := h', toks := t' } := by
  obtain ⟨m, ⟨o, es, ep, ho, r⟩, _⟩ := id I.loc
  obtain ⟨sl, hL⟩ := u.any ho I.free (by simp)
  exact I.step (g' := s.gens) (d' := s.drawn) (ch := []) (fun _ z => nomatch z) (fun b o _ hb _ e n => u.keep b o e n hb (by simp)) (fun b o _ hb _ e n => u.slot b o e n hb (by simp)) (fun b o _ e n => u.free b o e n (by simp)) (fun b o _ e => u.there b o e (by simp)) u.tups u.frzs u.tbls (fun m' hm => by
    obtain ⟨o', es', ep', ho', r'⟩ := hm
    rw [ho] at ho'; cases ho'
    exact ⟨_, es', ep', hL, r'⟩) hok I.bare
/-- behind a call (or a comprehension's block): the slots of this frame may have changed too, the records at ch may have turned -/
theorem Inv.call {g' : Array GenState} {t' : Nat} {d' : Drawn} {ch : List Addr} (I : Inv X pins σ H s) (u : Un (frs X.stack) ch H H' s.heap h') (hok : HOk X.prog X.w H' h') (hg : AllBare g')
    (hch : ∀ b ∈ ch, (b ∈ X.ex ∨ X.s₀.heap.objs.size ≤ b) ∧ b ≠ X.env.locals ∧ (∀ x c, X.env.cells.lookup x = some c → c ≠ b) ∧ ∀ p ∈ X.pn ++ pins, p.1 ≠ b) :
    Inv X pins σ H' { s with heap := h', gens := g', drawn := d', toks := t' } := by
  obtain ⟨m, ⟨o, es, ep, ho, r⟩, _⟩ := id I.loc
  obtain ⟨sl, hL⟩ := u.any ho I.free fun z => (hch _ z).2.1 rfl
  exact I.step (ch := ch) hch (fun b o hL hb hc e n => u.keep b o e n (fun z => (List.mem_cons.mp (I.stkSub b z)).elim hL hb) hc) (fun b o _ _ hc e n => u.any e n hc) (fun b o hc e n => u.free b o e n hc) (fun b o hc e => u.there b o e hc) u.tups u.frzs u.tbls (fun m' hm => by
    obtain ⟨o', es', ep', ho', r'⟩ := hm
    rw [ho] at ho'; cases ho'
    exact ⟨_, es', ep', hL, r'⟩) hok hg
/-- an untracked record of ours (an iterator) has turned -/
theorem Inv.turned {t' : Nat} {it : Addr} (I : Inv X pins σ H s) (k : ∀ b o, b ≠ it → s.heap.get? b = some o → h'.get? b = some o) (hn : H it = none) (hL : it ≠ X.env.locals)
    (h1 : it ∈ X.ex ∨ X.s₀.heap.objs.size ≤ it) (h2 : ∀ x c, X.env.cells.lookup x = some c → c ≠ it) (h3 : ∀ p ∈ X.pn ++ pins, p.1 ≠ it) : Inv X pins σ H { s with heap := h', toks := t' } := by
  have nit : ∀ b u, H b = some u → b ≠ it := fun b u e z => by rw [z, hn] at e; cases e
  refine I.step (g' := s.gens) (d' := s.drawn) (ch := [it]) (fun b hb => ?_) (fun b o _ _ hc e _ => k b o (fun z => hc (by simp [z])) e) (fun b o _ _ hc e _ => ⟨o.slots, k b o (fun z => hc (by simp [z])) e⟩) (fun _ _ _ _ n => n)
    (fun b o hc e => ⟨o, k b o (fun z => hc (by simp [z])) e⟩) (fun _ _ e => e) (fun _ _ _ e => e) (fun b ps e => ⟨#[], by rw [e]; simp⟩) (fun m hm => ?_) (fun b u e => ?_) I.bare
  · have e : b = it := by simpa using hb
    subst e
    exact ⟨h1, hL, h2, h3⟩
  · obtain ⟨o, es, ep, ho, r⟩ := hm
    exact ⟨o, es, ep, k _ o (Ne.symm hL) ho, r⟩
  · refine (I.hok b u e).stay (fun c v hc q => k c v ?_ q) (fun _ q => q) fun _ _ q => q
    rcases hc with z | z
    · rw [z]; exact nit b u e
    · exact nit c _ z
theorem Inv.tok (I : Inv X pins σ H s) (t : Nat) : Inv X pins σ H { s with toks := t } := I.un (h' := s.heap) (t' := t) Un.refl I.hok
/-- all objects kept -/
theorem Inv.kept {t' : Nat} (I : Inv X pins σ H s) (k : ∀ b u, s.heap.get? b = some u → h'.get? b = some u) : Inv X pins σ H { s with heap := h', toks := t' } := I.un (Un.kept k) (I.hok.kept k)
/-- a new object laid and tracked -/
theorem Inv.laid {a : Addr} {o : HO} {t' : Nat} (I : Inv X pins σ H s) (k : ∀ b u, s.heap.get? b = some u → h'.get? b = some u) (hp : s.heap.objs.size ≤ a) (new : ObjOk X.prog X.w (upd H a o) h' a o) :
    Inv X pins σ (upd H a o) { s with heap := h', toks := t' } := I.un (Un.laid k hp (I.hok.fresh hp)) (I.hok.laid k hp new)
/-- an object written -/
theorem Inv.write {x e : Addr} {o : HO} {t' : Nat} (I : Inv X pins σ H s) (mu : Mut (H x)) (he : e = x ∨ H e = some (.own x)) (k : ∀ b u, b ≠ e → s.heap.get? b = some u → h'.get? b = some u) (heo : ∃ u, h'.get? e = some u)
    (new : ObjOk X.prog X.w (upd H x o) h' x o) : Inv X pins σ (upd H x o) { s with heap := h', toks := t' } := I.un (Un.write mu he k heo) (I.hok.write mu he k heo new)
/-- forgetting slots, pins -/
theorem Inv.weak {σ' : List (Option V)} (I : Inv X pins σ H s) (hl : σ'.length = σ.length) (w : ∀ (i : Nat) v, σ'[i]? = some (some v) → σ[i]? = some (some v)) : Inv X pins σ' H s :=
  ⟨I.ok, I.os, I.bare, I.base, let ⟨m, hn, hl'⟩ := I.loc; ⟨m, hn, fun i x v e1 e2 e3 => hl' i x v e1 (w i v e2) e3⟩, I.cell, I.free, I.freeC, I.pin, I.hok, hl.trans I.len⟩
theorem Inv.pins_of {pins' : List (Addr × Obj)} (I : Inv X pins σ H s) (h : ∀ p ∈ pins', s.heap.get? p.1 = some p.2 ∧ H p.1 = none ∧ p.1 ≠ X.env.locals ∧ p.1 ∉ X.fs ∧ ∀ v, p.2.data ≠ .cell v) : Inv X pins' σ H s :=
  ⟨I.ok, I.os, I.bare, I.base, I.loc, I.cell, I.free, I.freeC, fun p hp => (List.mem_append.mp hp).elim (fun z => I.pin p (List.mem_append_left _ z)) (h p), I.hok, I.len⟩

theorem nodup_ix {N : List Str} (hN : N.Nodup) {i j : Nat} {x : Str} (a : N[i]? = some x) (b : N[j]? = some x) : i = j := by
  obtain ⟨h1, e1⟩ := List.getElem?_eq_some_iff.mp a
  obtain ⟨h2, e2⟩ := List.getElem?_eq_some_iff.mp b
  exact (List.getElem_inj hN).mp (e1.trans e2.symm)

/-- a name is stored; what changed -/
theorem store_ok2 {M : Model} {A : Around} {E : Value → Shared → Prop} {i : Nat} {x : Str} {v : V} {u : Value} {Q : Unit → Shared → Prop} (I : Inv X pins σ H s) (hN : X.N.Nodup) (hi : X.N[i]? = some x) (hx : Loc X.env.scope x) (r : RelV v u)
    (h : ∀ s', Inv X pins (σ.set i (some v)) H s' → (∃ a, Heap.SameBut a s.heap s'.heap ∧ (a = X.env.locals ∨ X.env.cells.lookup x = some a)) → Q () s') (hf : X.fn x = true ∨ X.env.scope.names.lookup x = some .local := by first | exact .inl rfl | exact .inr rfl | assumption) : wpAny M A (storeName X.env x u) Q E s := by
  obtain ⟨m, hn, hl⟩ := id I.loc
  have hcls : (X.env.scope.kind == .class || (X.env.scope.kind == .module && X.env.locals != X.env.globals)) = false := by rw [I.ok.kind]; rfl
  have hiσ : i < σ.length := by rw [I.len]; exact (List.getElem?_eq_some_iff.mp hi).1
  have cne := I.cne
  have tracked : ∀ {a : Addr} {h' : Heap}, (∃ o, s.heap.get? a = some o ∧ H a = none) → Heap.SameBut a s.heap h' → HOk X.prog X.w H h' := fun {a h'} ha hs b ob e => by
    obtain ⟨_, _, hfree⟩ := ha
    refine (I.hok b ob e).stay (fun c w' hc q => (hs.2 c ?_).trans q) (fun _ q => q) fun _ _ q => q
    rintro rfl
    rcases hc with rfl | hc
    · rw [hfree] at e; cases e
    · rw [hfree] at hc; cases hc
  rcases hx with hk | hk
  · refine wpAny_storeName_local hk hn (fun h' hn' hs => ?_) hcls
    obtain ⟨oL, _, _, hoL, _⟩ := id hn
    refine h _ ⟨I.ok, I.os, I.bare, ⟨fun b o e n hb hx => ?_, fun b o e n hb hx => ?_, I.base.free, fun b o e hx => ?_, I.base.tups, I.base.frzs, I.base.tbls⟩, ⟨_, hn', fun j y v' e1 e2 e3 => ?_⟩, fun y c e => ?_, I.free, I.freeC, fun p hp => ?_, tracked ⟨oL, hoL, I.free⟩ hs, by simpa using I.len⟩ ⟨_, hs, .inl rfl⟩
    · exact (hs.2 b (Nat.ne_of_lt (Nat.lt_of_lt_of_le (Heap.lt_size e) I.ok.above))).trans (I.base.keep b o e n hb hx)
    · obtain ⟨sl, e1⟩ := I.base.slot b o e n hb hx
      exact ⟨sl, (hs.2 b (Nat.ne_of_lt (Nat.lt_of_lt_of_le (Heap.lt_size e) I.ok.above))).trans e1⟩
    · obtain ⟨o', e1⟩ := I.base.there b o e hx
      exact ⟨o', (hs.2 b (Nat.ne_of_lt (Nat.lt_of_lt_of_le (Heap.lt_size e) I.ok.above))).trans e1⟩
    · by_cases hj : j = i
      · subst hj
        rw [hi] at e1; cases e1
        rw [List.getElem?_set_self hiσ] at e2
        cases e2
        exact ⟨u, r, .inl ⟨hk, by simp⟩⟩
      · rw [List.getElem?_set_ne (Ne.symm hj)] at e2
        obtain ⟨u', r', q⟩ := hl j y v' e1 e2 e3
        refine ⟨u', r', ?_⟩
        rcases q with ⟨k, e⟩ | ⟨k, c, e, z⟩
        · refine .inl ⟨k, ?_⟩
          have : y ≠ x := fun e => hj (nodup_ix hN e1 (e ▸ hi))
          simp [this, e]
        · exact .inr ⟨k, c, e, z.sameBut hs (cne y c e)⟩
    · obtain ⟨w', z⟩ := I.cell y c e
      exact ⟨w', z.sameBut hs (cne y c e)⟩
    · obtain ⟨e, n, ne, nf, d⟩ := I.pin p hp
      exact ⟨(hs.2 p.1 ne).trans e, n, ne, nf, d⟩
  · have hfn : X.fn x = true := by
      rcases hf with z | z
      · exact z
      · rw [z] at hk; cases hk
    obtain ⟨c, hc⟩ := I.ok.has x (.inl hk)
    obtain ⟨w', z⟩ := I.cell x c hc
    refine wpAny_storeName_cell I.ok.kind hk hc z (fun h' hc' hs => ?_)
    obtain ⟨oc, hoc, hocd⟩ := id z
    refine h { s with heap := h' } ⟨I.ok, I.os, I.bare, ⟨fun b o e n hb hx => ?_, fun b o e n hb hx => ?_, I.base.free, fun b o e hx => ?_, I.base.tups, I.base.frzs, I.base.tbls⟩, ⟨m, hn.sameBut hs (Ne.symm (cne x c hc)), fun j y v' e1 e2 e3 => ?_⟩, fun y c' e => ?_, I.free, I.freeC, fun p hp => ?_, tracked ⟨oc, hoc, I.freeC x c hc⟩ hs, by simpa using I.len⟩ ⟨c, hs, .inr hc⟩
    · exact (hs.2 b (Nat.ne_of_lt (Nat.lt_of_lt_of_le (Heap.lt_size e) (I.ok.cab x c hfn hc)))).trans (I.base.keep b o e n hb hx)
    · obtain ⟨sl, e1⟩ := I.base.slot b o e n hb hx
      exact ⟨sl, (hs.2 b (Nat.ne_of_lt (Nat.lt_of_lt_of_le (Heap.lt_size e) (I.ok.cab x c hfn hc)))).trans e1⟩
    · obtain ⟨o', e1⟩ := I.base.there b o e hx
      exact ⟨o', (hs.2 b (Nat.ne_of_lt (Nat.lt_of_lt_of_le (Heap.lt_size e) (I.ok.cab x c hfn hc)))).trans e1⟩
    · by_cases hj : j = i
      · subst hj
        rw [hi] at e1; cases e1
        rw [List.getElem?_set_self hiσ] at e2
        cases e2
        exact ⟨u, r, .inr ⟨.inl hk, c, hc, hc'⟩⟩
      · rw [List.getElem?_set_ne (Ne.symm hj)] at e2
        obtain ⟨u', r', q⟩ := hl j y v' e1 e2 e3
        refine ⟨u', r', ?_⟩
        rcases q with q | ⟨k, c', e, z'⟩
        · exact .inl q
        · refine .inr ⟨k, c', e, z'.sameBut hs ?_⟩
          rintro rfl
          exact hj (nodup_ix hN e1 (I.ok.inj _ _ _ e hc ▸ hi))
    · by_cases hcc : c' = c
      · subst hcc; exact ⟨_, hc'⟩
      · obtain ⟨w2, z2⟩ := I.cell y c' e
        exact ⟨w2, z2.sameBut hs hcc⟩
    · obtain ⟨e, n, ne, nf, d⟩ := I.pin p hp
      refine ⟨(hs.2 p.1 ?_).trans e, n, ne, nf, d⟩
      intro q
      rw [q, hoc] at e
      have q' : oc = p.2 := Option.some.inj e
      exact d w' (by rw [← q']; exact hocd)
theorem store_ok {M : Model} {A : Around} {E : Value → Shared → Prop} {i : Nat} {x : Str} {v : V} {u : Value} {Q : Unit → Shared → Prop} (I : Inv X pins σ H s) (hN : X.N.Nodup) (hi : X.N[i]? = some x) (hx : Loc X.env.scope x) (r : RelV v u)
    (h : ∀ s', Inv X pins (σ.set i (some v)) H s' → Q () s') (hf : X.fn x = true ∨ X.env.scope.names.lookup x = some .local := by first | exact .inl rfl | exact .inr rfl | assumption) : wpAny M A (storeName X.env x u) Q E s :=
  store_ok2 I hN hi hx r (fun s' I' _ => h s' I') hf
/-- behind a call or a block, the state as it is -/
theorem Inv.call' {s' : Shared} {ch : List Addr} (I : Inv X pins σ H s) (ho : s'.os = s.os) (u : Un (frs X.stack) ch H H' s.heap s'.heap) (hok : HOk X.prog X.w H' s'.heap) (hg : AllBare s'.gens)
    (hch : ∀ b ∈ ch, (b ∈ X.ex ∨ X.s₀.heap.objs.size ≤ b) ∧ b ≠ X.env.locals ∧ (∀ x c, X.env.cells.lookup x = some c → c ≠ b) ∧ ∀ p ∈ X.pn ++ pins, p.1 ≠ b) : Inv X pins σ H' s' := by
  obtain ⟨h', g', d', t', o'⟩ := s'
  have e : o' = s.os := ho
  subst e
  exact I.call (g' := g') (t' := t') (d' := d') u hok hg hch
end

/-! ### the judgements -/
/-- an exception: its class, its own dict's address (where it has one), the abstract heap behind it -/
abbrev XK := Value → Option Addr → Hp → Prop
abbrev St := List (Option V)
abbrev VK := V → Hp → Prop
/-- an expression's reading; a test's; an argument list's -/
abbrev TE := St → Hp → VK → Prop
abbrev TT := St → Hp → (Bool → Hp → Prop) → Prop
abbrev TA := St → Hp → (List V → Hp → Prop) → Prop
/-- what is wanted behind a statement -/
structure Ends where
  nx : St → Hp → Prop
  rt : VK
  bk : St → Hp → Prop := fun _ _ => False
  ct : St → Hp → Prop := fun _ _ => False
abbrev TS := Ends → St → Hp → Prop

def EP (X : Cx) (pins : List (Addr × Obj)) (σ : St) (Q : VK) (u : Value) (s' : Shared) : Prop := ∃ v H', Inv X pins σ H' s' ∧ RelV v u ∧ Q v H'
def TP (X : Cx) (pins : List (Addr × Obj)) (σ : St) (Q : Bool → Hp → Prop) (b : Bool) (s' : Shared) : Prop := ∃ H', Inv X pins σ H' s' ∧ Q b H'
def AP (X : Cx) (pins : List (Addr × Obj)) (σ : St) (Q : List V → Hp → Prop) (us : List Value) (s' : Shared) : Prop := ∃ vs H', Inv X pins σ H' s' ∧ Vals vs us ∧ Q vs H'
def SP (X : Cx) (pins : List (Addr × Obj)) (D : Ends) (f : Flow) (s' : Shared) : Prop :=
  match f with
  | .next => ∃ σ' H', Inv X pins σ' H' s' ∧ D.nx σ' H'
  | .brk => ∃ σ' H', Inv X pins σ' H' s' ∧ D.bk σ' H'
  | .cont => ∃ σ' H', Inv X pins σ' H' s' ∧ D.ct σ' H'
  | .ret u => ∃ v σ' H', Inv X pins σ' H' s' ∧ RelV v u ∧ D.rt v H'

def PE (X : Cx) (e : Expr) (t : TE) : Prop :=
  ∀ (pins : List (Addr × Obj)) (s : Shared) (σ : St) (H : Hp) (Q : VK), Inv X pins σ H s → t σ H Q → wpAny (model X.prog X.w) X.A (eval e X.env) (EP X pins σ Q) X.xe s
def PT (X : Cx) (e : Expr) (t : TT) : Prop :=
  ∀ (pins : List (Addr × Obj)) (s : Shared) (σ : St) (H : Hp) (Q : Bool → Hp → Prop), Inv X pins σ H s → t σ H Q → wpAny (model X.prog X.w) X.A (isTrue e X.env (eval e X.env)) (TP X pins σ Q) X.xe s
/-- a test whatever its 'whole' is (and, or) -/
def PW (X : Cx) (e : Expr) (t : TT) : Prop :=
  ∀ (whole : Sem Value) (pins : List (Addr × Obj)) (s : Shared) (σ : St) (H : Hp) (Q : Bool → Hp → Prop), Inv X pins σ H s → t σ H Q → wpAny (model X.prog X.w) X.A (isTrue e X.env whole) (TP X pins σ Q) X.xe s
theorem PW.pt {X : Cx} {e : Expr} {t : TT} (h : PW X e t) : PT X e t := h _
/-- an argument list (no star), from the left -/
def PA (X : Cx) (es : List Expr) (t : TA) : Prop :=
  ∀ (pos : Pos) (pins : List (Addr × Obj)) (s : Shared) (σ : St) (H : Hp) (Q : List V → Hp → Prop), Inv X pins σ H s → t σ H Q → wpAny (model X.prog X.w) X.A (spliced (backTo pos (starEach es X.env))) (AP X pins σ Q) X.xe s
def PS (X : Cx) (st : Stmt) (t : TS) : Prop :=
  ∀ (pins : List (Addr × Obj)) (s : Shared) (σ : St) (H : Hp) (D : Ends), Inv X pins σ H s → t D σ H → wpAny (model X.prog X.w) X.A (exec st X.env) (SP X pins D) X.xe s
def PSs (X : Cx) (st : List Stmt) (t : TS) : Prop :=
  ∀ (pins : List (Addr × Obj)) (s : Shared) (σ : St) (H : Hp) (D : Ends), Inv X pins σ H s → t D σ H → wpAny (model X.prog X.w) X.A (execs st X.env) (SP X pins D) X.xe s
/-- weaken the end -/
theorem thn {α : Type} {t : Sem α} {Q Q' : α → Shared → Prop} {M : Model} {A : Around} {E : Value → Shared → Prop} {s : Shared} (h : wpAny M A t Q E s) (hQ : ∀ a s, Q a s → Q' a s) : wpAny M A t Q' E s := wpAny_mono h hQ fun _ _ x => x
end L2

namespace L2
open PySem PySem.Spec PyProof.Rows
section
variable {X : Cx}


/-! ### names and constants -/
def tVar (i : Nat) : TE := fun σ H Q => ∃ v, σ[i]? = some (some v) ∧ Q v H
def tC (v : V) : TE := fun _ H Q => Q v H
theorem pe_var {i : Nat} {x : Str} {pos : Pos} (hN : X.N[i]? = some x) (hv : Vis X.env.scope x) (hd : (x == ("__debug__" : Str)) = false := by decide) (hcd : (x == ("__classdict__" : Str)) = false := by decide) : PE X (.Name x pos) (tVar i) := by
  intro pins s σ H Q I h
  obtain ⟨v, e, h⟩ := h
  obtain ⟨m, hn, hl⟩ := I.loc
  obtain ⟨u, r, l⟩ := hl i x v hN e hv
  have fin : EP X pins σ Q u s := ⟨v, H, I, r, h⟩
  rcases l with ⟨hk, hm⟩ | ⟨hk, c, hc, hcell⟩
  · exact wpAny_Name (wpAny_loadName_local I.ok.kind hk hn hm fin) hd
  · rcases hk with hk | hk
    · exact wpAny_Name (wpAny_loadName_cell I.ok.kind hk hc hcell fin) hd
    · exact wpAny_Name (wpAny_loadName_free I.ok.kind hk hc hcell fin hcd) hd
theorem pe_int {i j pos} : PE X (.Constant (.int i) j pos) (tC (.int i)) := fun _ _ _ H _ I h => wpAny_Constant_int ⟨.int i, H, I.tok _, ⟨_, rfl⟩, h⟩
theorem pe_bl {b j pos} : PE X (.Constant (.bool b) j pos) (tC (.bl b)) := fun _ _ _ H _ I h => Constant_bool ⟨.bl b, H, I, rfl, h⟩
theorem pe_non {j pos} : PE X (.Constant .none j pos) (tC .non) := fun _ _ _ H _ I h => Constant_none ⟨.non, H, I, rfl, h⟩
theorem pe_str {x j pos} : PE X (.Constant (.str x) j pos) (tC (.str x)) := fun _ _ _ H _ I h => Calls.Constant_str ⟨.str x, H, I.tok _, ⟨_, rfl⟩, h⟩

/-- a global name of the def -/
def Gl (X : Cx) (x : Str) : Prop := X.env.kindOf x = some .globalImplicit
theorem ld_glob {E : Value → Shared → Prop} {pins : List (Addr × Obj)} {s : Shared} {σ : St} {H : Hp} {x : Str} {u : Value} {pos : Pos} {Q : Value → Shared → Prop} (I : Inv X pins σ H s) (hg : Gl X x) (hm : X.mg x = some u) (h : Q u s)
    (hd : (x == ("__debug__" : Str)) = false := by decide) : wpAny (model X.prog X.w) X.A (eval (.Name x pos) X.env) Q E s :=
  Calls.Name_function_global I.ok.kind hg (Calls.loadGlobal_global (by rw [I.ok.glob]; exact I.mod.glob.keeps I.bk) hm h) hd
theorem ld_blt {E : Value → Shared → Prop} {pins : List (Addr × Obj)} {s : Shared} {σ : St} {H : Hp} {x : Str} {u : Value} {pos : Pos} {Q : Value → Shared → Prop} (I : Inv X pins σ H s) (hg : Gl X x) (hm : X.mg x = none) (hv : bootBuiltins x = some u) (h : Q u s)
    (hn : x ≠ "__name__" := by decide) (hd : (x == ("__debug__" : Str)) = false := by decide) : wpAny (model X.prog X.w) X.A (eval (.Name x pos) X.env) Q E s := by
  obtain ⟨mb, h1, h2⟩ := I.mod.blt
  exact Calls.Name_function_global I.ok.kind hg (Calls.loadGlobal_builtin (by rw [I.ok.glob]; exact I.mod.glob.keeps I.bk) hm (by rw [I.ok.blt]; exact h1.keeps I.bk) ((h2 x hn).trans hv) h) hd
/-- a module's constant, a class, a function, as a value -/
theorem pe_glob {x : Str} {v : V} {u : Value} {pos : Pos} (hg : Gl X x) (hm : X.mg x = some u) (r : RelV v u) (hd : (x == ("__debug__" : Str)) = false := by decide) : PE X (.Name x pos) (tC v) :=
  fun _ _ _ H _ I h => ld_glob I hg hm ⟨v, H, I, r, h⟩ hd
theorem pe_bltn {x : Str} {v : V} {u : Value} {pos : Pos} (hg : Gl X x) (hm : X.mg x = none) (hv : bootBuiltins x = some u) (r : RelV v u) (hn : x ≠ "__name__" := by decide) (hd : (x == ("__debug__" : Str)) = false := by decide) : PE X (.Name x pos) (tC v) :=
  fun _ _ _ H _ I h => ld_blt I hg hm hv ⟨v, H, I, r, h⟩ hn hd

/-! ### arithmetic -/
/-- two ints -/
def t2I (ta tb : TE) (k : Int → Int → Hp → Prop) : St → Hp → Prop := fun σ H => ta σ H fun x H1 => tb σ H1 fun y H2 => ∃ i j, x = .int i ∧ y = .int j ∧ k i j H2
def tAdd (ta tb : TE) : TE := fun σ H Q => t2I ta tb (fun i j H2 => Q (.int (i + j)) H2) σ H
def tSub (ta tb : TE) : TE := fun σ H Q => t2I ta tb (fun i j H2 => Q (.int (i - j)) H2) σ H
/-- the left factor below 2^64 -/
def tMul (ta tb : TE) : TE := fun σ H Q => t2I ta tb (fun i j H2 => (-(2 ^ 64) < i ∧ i < 2 ^ 64) ∧ Q (.int (i * j)) H2) σ H
variable {a b : Expr} {ta tb : TE} {pos : Pos}

/-! ### comparisons -/
def PC (X : Cx) (op : CmpOp) (a b : Expr) (t : TE) : Prop :=
  ∀ (pins : List (Addr × Obj)) (s : Shared) (σ : St) (H : Hp) (Q : VK), Inv X pins σ H s → t σ H Q →
    wpAny (model X.prog X.w) X.A (eval a X.env) (fun v s₁ => wpAny (model X.prog X.w) X.A (eval b X.env) (fun u s₂ => wpAny (model X.prog X.w) X.A (compareOp op v u) (EP X pins σ Q) X.xe s₂) X.xe s₁) X.xe s
def tCmp (p : Int → Int → Bool) (ta tb : TE) : TE := fun σ H Q => t2I ta tb (fun i j H2 => Q (.bl (p i j)) H2) σ H
abbrev tLt : TE → TE → TE := tCmp fun i j => decide (i < j)
abbrev tLe : TE → TE → TE := tCmp fun i j => decide (i ≤ j)
abbrev tGt : TE → TE → TE := tCmp fun i j => decide (j < i)
abbrev tGe : TE → TE → TE := tCmp fun i j => decide (j ≤ i)
abbrev tEqI : TE → TE → TE := tCmp fun i j => decide (i = j)
abbrev tNeI : TE → TE → TE := tCmp fun i j => !decide (i = j)
/-- is None -/
def tIsN (ta : TE) : TE := fun σ H Q => ta σ H fun x H1 => Q (.bl (decide (x = .non))) H1
def tNotN (ta : TE) : TE := fun σ H Q => ta σ H fun x H1 => Q (.bl (!decide (x = .non))) H1
/-- a comparison as a value, as a test -/
def tB (t : TE) : TT := fun σ H Q => t σ H fun x H1 => ∃ c, x = .bl c ∧ Q c H1
/-- an expression whose value is a bool, as a test -/
theorem pt_val {e : Expr} {t : TE} (h : PE X e t) (he : ∀ whole, isTrue e X.env whole = (do let v ← whole; standAt e.pos; holding [v] (truthy v)) := by intro _; rfl) : PT X e (tB t) := by
  intro pins s σ H Q I hw
  refine isTrue_plain (thn (h pins s σ H _ I hw) fun v s1 ⟨x, H1, I1, r1, q1⟩ => ?_) (he _)
  obtain ⟨d, rfl, q⟩ := q1
  cases r1
  exact wpAny_truthy_bool ⟨H1, I1, q⟩

/-! ### and, or, not -/
variable {tA tB' : TT} {rest : List Expr}
def tAnd (t u : TT) : TT := fun σ H Q => t σ H fun c H1 => if c = true then u σ H1 Q else Q false H1
def tOr (t u : TT) : TT := fun σ H Q => t σ H fun c H1 => if c = true then Q true H1 else u σ H1 Q
def tNot (t : TT) : TT := fun σ H Q => t σ H fun c H1 => Q (!c) H1
theorem pw_and1 (ha : PT X a tA) : PW X (.BoolOp .And [a] pos) tA := by
  intro wh pins s σ H Q I h
  refine isTrue_and (thn (ha pins s σ H Q I h) fun c s1 e => ?_)
  cases c with
  | true => exact isTrue_and_nil e
  | false => exact e
theorem pw_or1 (ha : PT X a tA) : PW X (.BoolOp .Or [a] pos) tA := by
  intro wh pins s σ H Q I h
  refine isTrue_or (thn (ha pins s σ H Q I h) fun c s1 e => ?_)
  cases c with
  | false => exact isTrue_or_nil e
  | true => exact e
theorem pw_and (ha : PT X a tA) (hb : PW X (.BoolOp .And (b :: rest) pos) tB') : PW X (.BoolOp .And (a :: b :: rest) pos) (tAnd tA tB') := by
  intro wh pins s σ H Q I h
  refine isTrue_and (thn (ha pins s σ H _ I h) fun c s1 ⟨H1, I1, q1⟩ => ?_)
  cases c with
  | true => exact hb wh pins s1 σ H1 Q I1 q1
  | false => exact ⟨H1, I1, q1⟩
theorem pw_or (ha : PT X a tA) (hb : PW X (.BoolOp .Or (b :: rest) pos) tB') : PW X (.BoolOp .Or (a :: b :: rest) pos) (tOr tA tB') := by
  intro wh pins s σ H Q I h
  refine isTrue_or (thn (ha pins s σ H _ I h) fun c s1 ⟨H1, I1, q1⟩ => ?_)
  cases c with
  | true => exact ⟨H1, I1, q1⟩
  | false => exact hb wh pins s1 σ H1 Q I1 q1
theorem pt_not (ha : PT X a tA) : PT X (.UnaryOp .Not a pos) (tNot tA) := by
  intro pins s σ H Q I h
  exact isTrue_not (ha pins s σ H (fun c H1 => Q (!c) H1) I h)
/-- .. as values (bools) -/
def tAndV (ta tb : TE) : TE := fun σ H Q => ta σ H fun x H1 => ∃ c, x = .bl c ∧ if c = true then tb σ H1 Q else Q (.bl false) H1
def tOrV (ta tb : TE) : TE := fun σ H Q => ta σ H fun x H1 => ∃ c, x = .bl c ∧ if c = true then Q (.bl true) H1 else tb σ H1 Q
def tNotV (ta : TE) : TE := fun σ H Q => ta σ H fun x H1 => ∃ c, x = .bl c ∧ Q (.bl (!c)) H1
theorem pe_one {op} {t : TE} (h : PE X a t) : PE X (.BoolOp op [a] pos) t := fun pins s σ H Q I hw => BoolOp_one (h pins s σ H Q I hw)
theorem pe_and (ha : PE X a ta) (hb : PE X (.BoolOp .And (b :: rest) pos) tb) : PE X (.BoolOp .And (a :: b :: rest) pos) (tAndV ta tb) := by
  intro pins s σ H Q I h
  refine BoolOp_and (thn (ha pins s σ H _ I h) fun v s1 ⟨x, H1, I1, r1, q1⟩ => ?_)
  obtain ⟨c, rfl, q1⟩ := q1
  cases r1
  refine wpAny_truthy_bool ?_
  cases c with
  | true => exact hb pins s1 σ H1 Q I1 q1
  | false => exact ⟨.bl false, H1, I1, rfl, q1⟩
theorem pe_not (ha : PE X a ta) : PE X (.UnaryOp .Not a pos) (tNotV ta) := by
  intro pins s σ H Q I h
  refine UnaryOp_ (thn (ha pins s σ H _ I h) fun v s1 ⟨x, H1, I1, r1, q1⟩ => ?_)
  obtain ⟨c, rfl, q1⟩ := q1
  cases r1
  exact not_of (wpAny_truthy_bool ⟨.bl (!c), H1, I1, rfl, q1⟩)
/-- a if t else b -/
def tIf (t : TT) (ta tb : TE) : TE := fun σ H Q => t σ H fun c H1 => if c = true then ta σ H1 Q else tb σ H1 Q
end
end L2

namespace L2
open PySem PySem.Spec PyProof.Rows

/-! ### a list, a tuple that is read: tracked, frozen, or an object of the module -/
def SqL (K : PySem.W.Frag) (H : Hp) (a : Addr) (xs : List V) : Prop :=
  Rd H a (.lst xs) ∨
    ∃ (o : Obj) (its : Array Value) (n : Nat), K.lookup a = some o ∧ o.cls = .type "list" ∧ o.dict = none ∧ o.data = .seq its n ∧ its.size ≤ sizeLine ∧ Vals xs its.toList
def SqT (K : PySem.W.Frag) (H : Hp) (a : Addr) (xs : List V) : Prop :=
  Rd H a (.tup xs) ∨
    ∃ (o : Obj) (its : Array Value) (n : Nat), K.lookup a = some o ∧ o.cls = .type "tuple" ∧ o.data = .seq its n ∧ its.size ≤ sizeLine ∧ Vals xs its.toList
def absV : Value → Option V
  | .none => some .non
  | .bool b => some (.bl b)
  | .int i _ => some (.int i)
  | .str x _ => some (.str x)
  | .bytes b _ => some (.byt b)
  | .float b _ => some (.flt b)
  | .ref a => some (.ref a)
  | .type n => some (.ty n)
  | _ => none
theorem RelV.abs {x : V} {u : Value} (r : RelV x u) : absV u = some x := by
  cases x with
  | non => cases r; rfl
  | bl _ => cases r; rfl
  | int _ => obtain ⟨t, rfl⟩ := r; rfl
  | str _ => obtain ⟨t, rfl⟩ := r; rfl
  | byt _ => obtain ⟨t, rfl⟩ := r; rfl
  | flt _ => obtain ⟨t, rfl⟩ := r; rfl
  | ref _ => cases r; rfl
  | ty _ => cases r; rfl
theorem RelV.inj {x y : V} {u : Value} (r : RelV x u) (q : RelV y u) : x = y := Option.some.inj (r.abs.symm.trans q.abs)
theorem Vals.inj : ∀ {xs ys : List V} {us : List Value}, Vals xs us → Vals ys us → xs = ys
  | _, _, _, .nil, .nil => rfl
  | _, _, _, .cons r t, .cons r' t' => by rw [r.inj r', Vals.inj t t']
section
variable {X : Cx} {pins : List (Addr × Obj)} {σ : St} {H : Hp} {s : Shared} {a : Addr} {xs ys : List V}
theorem SqL.of {K : PySem.W.Frag} (h : H a = some (.lst xs)) : SqL K H a xs := .inl (.inl h)
theorem SqT.of {K : PySem.W.Frag} (h : H a = some (.tup xs)) : SqT K H a xs := .inl (.inl h)
theorem Inv.list (I : Inv X pins σ H s) (h : SqL X.K H a xs) : ∃ its : List Value, Vals xs its ∧ PlainL s.heap a its.toArray ∧ xs.length ≤ sizeLine := by
  rcases h with h | ⟨o, its, n, hk, hc, hd, hs, hz, r⟩
  · obtain ⟨z, its, n, r, e⟩ := h.ok I.hok
    exact ⟨its, r, ⟨_, n, e, rfl, rfl, rfl⟩, z⟩
  · refine ⟨its.toList, r, ⟨o, n, I.kIn a o hk, hc, hd, by simpa using hs⟩, ?_⟩
    have e := r.length
    simp only [Array.length_toList] at e
    omega
theorem Inv.tuple (I : Inv X pins σ H s) (h : SqT X.K H a xs) : ∃ its : List Value, Vals xs its ∧ IsTup s.heap a its.toArray ∧ xs.length ≤ sizeLine := by
  rcases h with h | ⟨o, its, n, hk, hc, hs, hz, r⟩
  · obtain ⟨z, its, r, p⟩ := h.ok I.hok
    exact ⟨its, r, p.tup, z⟩
  · refine ⟨its.toList, r, ⟨o, I.kIn a o hk, hc, n, by simpa using hs⟩, ?_⟩
    have e := r.length
    simp only [Array.length_toList] at e
    omega
theorem Inv.list_inj (I : Inv X pins σ H s) (h : SqL X.K H a xs) (h' : SqL X.K H a ys) : xs = ys := by
  obtain ⟨its, r, ⟨o, n, e, _, _, d⟩, _⟩ := I.list h
  obtain ⟨its', r', ⟨o', n', e', _, _, d'⟩, _⟩ := I.list h'
  rw [e] at e'; cases e'
  rw [d] at d'
  injection d' with d1 _
  have : its = its' := by simpa using congrArg Array.toList d1
  subst this
  exact r.inj r'
theorem Inv.tuple_inj (I : Inv X pins σ H s) (h : SqT X.K H a xs) (h' : SqT X.K H a ys) : xs = ys := by
  obtain ⟨its, r, ⟨o, e, _, n, d⟩, _⟩ := I.tuple h
  obtain ⟨its', r', ⟨o', e', _, n', d'⟩, _⟩ := I.tuple h'
  rw [e] at e'; cases e'
  rw [d] at d'
  injection d' with d1 _
  have : its = its' := by simpa using congrArg Array.toList d1
  subst this
  exact r.inj r'
end

/-! ### another wish about exceptions -/
abbrev Cx.wish (X : Cx) (E : Value → Shared → Prop) : Cx := { X with xe := E }
/-- no exception leaves -/
abbrev Cx.nox (X : Cx) : Cx := X.wish fun _ _ => False
theorem Cx.Ok.wish {X : Cx} (ok : X.Ok) (E : Value → Shared → Prop) : (X.wish E).Ok :=
  ⟨ok.mod, ok.kind, ok.glob, ok.blt, ok.above, ok.inj, ok.has, ok.cab, ok.hd, ok.frames, ok.stk, ok.exf, ok.bs, ok.bsz, ok.noex, ok.exfs, ok.funs, ok.frf⟩
theorem Cx.Ok.unwish {X : Cx} {E : Value → Shared → Prop} (ok : (X.wish E).Ok) : X.Ok :=
  ⟨ok.mod, ok.kind, ok.glob, ok.blt, ok.above, ok.inj, ok.has, ok.cab, ok.hd, ok.frames, ok.stk, ok.exf, ok.bs, ok.bsz, ok.noex, ok.exfs, ok.funs, ok.frf⟩
section
variable {X : Cx} {pins : List (Addr × Obj)} {σ : St} {H : Hp} {s : Shared} {E : Value → Shared → Prop}
theorem Inv.wish (I : Inv X pins σ H s) (E : Value → Shared → Prop) : Inv (X.wish E) pins σ H s := ⟨I.ok.wish E, I.os, I.bare, I.base, I.loc, I.cell, I.free, I.freeC, I.pin, I.hok, I.len⟩
theorem Inv.unwish (I : Inv (X.wish E) pins σ H s) : Inv X pins σ H s := ⟨I.ok.unwish, I.os, I.bare, I.base, I.loc, I.cell, I.free, I.freeC, I.pin, I.hok, I.len⟩
theorem SP.unwish {D : Ends} {f : Flow} {s' : Shared} (h : SP (X.wish E) pins D f s') : SP X pins D f s' := by
  cases f with
  | next => obtain ⟨σ', H', I, q⟩ := h; exact ⟨σ', H', I.unwish, q⟩
  | brk => obtain ⟨σ', H', I, q⟩ := h; exact ⟨σ', H', I.unwish, q⟩
  | cont => obtain ⟨σ', H', I, q⟩ := h; exact ⟨σ', H', I.unwish, q⟩
  | ret u => obtain ⟨v, σ', H', I, r, q⟩ := h; exact ⟨v, σ', H', I.unwish, r, q⟩
theorem PE.nox {e : Expr} {t : TE} (h : PE X.nox e t) : PE X e t := fun pins s σ H Q I hw =>
  wpAny_mono (h pins s σ H Q (I.wish _) hw) (fun _ _ ⟨v, H', I', r, q⟩ => ⟨v, H', I'.unwish, r, q⟩) fun _ _ z => False.elim z
theorem PT.nox {e : Expr} {t : TT} (h : PT X.nox e t) : PT X e t := fun pins s σ H Q I hw =>
  wpAny_mono (h pins s σ H Q (I.wish _) hw) (fun _ _ ⟨H', I', q⟩ => ⟨H', I'.unwish, q⟩) fun _ _ z => False.elim z
theorem PSs.nox {st : List Stmt} {t : TS} (h : PSs X.nox st t) : PSs X st t := fun pins s σ H D I hw =>
  wpAny_mono (h pins s σ H D (I.wish _) hw) (fun _ _ q => q.unwish) fun _ _ z => False.elim z
end

/-! ### blocks and small statements -/
section
variable {X : Cx} {st : Stmt} {rest : List Stmt} {t u : TS} {e : Expr} {te : TE} {pos : Pos}
def tNext : TS := fun D σ H => D.nx σ H
def tSeq (t u : TS) : TS := fun D σ H => t { D with nx := u D } σ H
theorem pss_nil : PSs X [] tNext := fun _ _ σ H _ I h => wpAny_execs_nil ⟨σ, H, I, h⟩
theorem pss_cons (h1 : PS X st t) (h2 : PSs X rest u) : PSs X (st :: rest) (tSeq t u) := by
  intro pins s σ H D I h
  refine wpAny_execs_cons (thn (h1 pins s σ H { D with nx := u D } I h) fun f s1 q => ?_)
  cases f with
  | next =>
    obtain ⟨σ', H', I', q⟩ := q
    exact h2 pins s1 σ' H' D I' q
  | ret v => exact q
  | brk => exact q
  | cont => exact q
theorem pss_one (h1 : PS X st t) : PSs X [st] t := by
  intro pins s σ H D I h
  refine wpAny_execs_cons (thn (h1 pins s σ H D I h) fun f s1 q => ?_)
  cases f with
  | next => exact wpAny_execs_nil q
  | ret v => exact q
  | brk => exact q
  | cont => exact q
def tBreak : TS := fun D σ H => D.bk σ H
def tCont : TS := fun D σ H => D.ct σ H
/-- an expression whose value is dropped -/
def tDrop (te : TE) : TS := fun D σ H => te σ H fun _ H1 => D.nx σ H1
def tRet (te : TE) : TS := fun D σ H => te σ H D.rt
theorem ps_ret (he : PE X e te) : PS X (.Return (some e) pos) (tRet te) := by
  intro pins s σ H D I h
  exact wpAny_Return_some (thn (he pins s σ H _ I h) fun v s1 ⟨x, H1, I1, r1, q1⟩ => ⟨x, σ, H1, I1, r1, q1⟩)
def tRetN : TS := fun D _ H => D.rt .non H
def tIfS (c : TT) (t u : TS) : TS := fun D σ H => c σ H fun b H1 => if b = true then t D σ H1 else u D σ H1
theorem ps_if {c : Expr} {a b : List Stmt} {tc : TT} (hc : PT X c tc) (ha : PSs X a t) (hb : PSs X b u) : PS X (.If c a b pos) (tIfS tc t u) := by
  intro pins s σ H D I h
  refine wpAny_If (thn (hc pins s σ H _ I h) fun d s1 ⟨H1, I1, q1⟩ => ?_)
  cases d with
  | true => exact ha pins s1 σ H1 D I1 q1
  | false => exact hb pins s1 σ H1 D I1 q1
/-- code that the proof never comes to -/
def tNever : TS := fun _ _ _ => False
end

/-! ### targets -/
abbrev TG := V → St → Hp → (St → Hp → Prop) → Prop
abbrev TGs := List V → St → Hp → (St → Hp → Prop) → Prop
def PG (X : Cx) (target : Expr) (t : TG) : Prop :=
  ∀ (pins : List (Addr × Obj)) (s : Shared) (σ : St) (H : Hp) (v : V) (u : Value) (Q : St → Hp → Prop), Inv X pins σ H s → RelV v u → t v σ H Q →
    wpAny (model X.prog X.w) X.A (assign target X.env u) (fun _ s' => ∃ σ' H', Inv X pins σ' H' s' ∧ Q σ' H') X.xe s
/-- several targets, one after another -/
def PGs (X : Cx) (ts : List Expr) (t : TGs) : Prop :=
  ∀ (pins : List (Addr × Obj)) (s : Shared) (σ : St) (H : Hp) (vs : List V) (us : List Value) (Q : St → Hp → Prop), Inv X pins σ H s → Vals vs us → t vs σ H Q →
    wpAny (model X.prog X.w) X.A (assignInOrder ((assignEach ts X.env).map (·.2)) us) (fun _ s' => ∃ σ' H', Inv X pins σ' H' s' ∧ Q σ' H') X.xe s
/-- o[i] = v, by values -/
abbrev TSet := V → V → V → Hp → (Hp → Prop) → Prop
def PSet (X : Cx) (t : TSet) : Prop :=
  ∀ (pins : List (Addr × Obj)) (s : Shared) (σ : St) (H : Hp) (o i v : V) (ov iv u : Value) (Q : Hp → Prop), Inv X pins σ H s → RelV o ov → RelV i iv → RelV v u → t o i v H Q →
    wpAny (model X.prog X.w) X.A (setItem ov iv u) (fun _ s' => ∃ H', Inv X pins σ H' s' ∧ Q H') X.xe s
/-- a op= b, by values -/
abbrev TIp := V → V → Hp → VK → Prop
def PIp (X : Cx) (op : Operator) (t : TIp) : Prop :=
  ∀ (pins : List (Addr × Obj)) (s : Shared) (σ : St) (H : Hp) (x y : V) (v u : Value) (Q : VK), Inv X pins σ H s → RelV x v → RelV y u → t x y H Q →
    wpAny (model X.prog X.w) X.A (inplaceOp op v u) (EP X pins σ Q) X.xe s
section
variable {X : Cx} {pos : Pos}
def gName (i : Nat) : TG := fun v σ H Q => Q (σ.set i (some v)) H
theorem pg_name {i : Nat} {x : Str} (hN : X.N.Nodup) (hi : X.N[i]? = some x) (hx : Loc X.env.scope x) (hf : X.fn x = true ∨ X.env.scope.names.lookup x = some .local := by first | exact .inl rfl | exact .inr rfl | assumption) : PG X (.Name x pos) (gName i) := by
  intro pins s σ H v u Q I r h
  exact wpAny_assign_Name (store_ok I hN hi hx r (fun s' I' => ⟨_, H, I', h⟩) hf)
def gNil : TGs := fun vs σ H Q => vs = [] ∧ Q σ H
def gCons (t : TG) (u : TGs) : TGs := fun vs σ H Q => ∃ v r, vs = v :: r ∧ t v σ H fun σ' H' => u r σ' H' Q
theorem pgs_nil : PGs X [] gNil := by
  intro pins s σ H vs us Q I r h
  obtain ⟨e, h⟩ := h
  subst e
  cases r
  exact assignInOrder_nil ⟨σ, H, I, h⟩
theorem pgs_cons {e : Expr} {es : List Expr} {t : TG} {u : TGs} (h1 : PG X e t) (h2 : PGs X es u)
    (hs : (assignEach (e :: es) X.env).map (·.2) = assign e X.env :: (assignEach es X.env).map (·.2) := by rfl) : PGs X (e :: es) (gCons t u) := by
  intro pins s σ H vs us Q I r h
  obtain ⟨v, vr, e1, h⟩ := h
  subst e1
  cases r with
  | cons r rr =>
    rw [hs]
    refine assignInOrder_cons (thn (h1 pins s σ H _ _ _ I r h) fun _ s1 ⟨σ1, H1, I1, q1⟩ => ?_)
    exact h2 pins s1 σ1 H1 _ _ Q I1 rr q1
/-- (a, b, ..) = a tuple of that length -/
def gTup (K : PySem.W.Frag) (n : Nat) (t : TGs) : TG := fun v σ H Q => ∃ a xs, v = .ref a ∧ SqT K H a xs ∧ xs.length = n ∧ t xs σ H Q
theorem pg_tup {es : List Expr} {k : Nat} {t : TGs} {n : Nat} (hc : X.calm = true) (h : PGs X es t)
    (hn : (assignEach es X.env).length = n := by rfl) (hst : (assignEach es X.env).findIdx? (·.1) = none := by rfl) : PG X (.Tuple es k pos) (gTup X.K n t) := by
  intro pins s σ H v u Q I r hw
  obtain ⟨a, xs, e1, hq, hl, hw⟩ := hw
  subst e1
  cases r
  obtain ⟨its, rv, ht, hz⟩ := I.tuple hq
  refine assign_Tuple_tuple (I.ok.hd hc) ht (by simp [hn, ← hl, rv.length]) hst fun h' hx => ?_
  have I1 : Inv X pins σ H { s with heap := h' } := I.kept (t' := s.toks) fun b o e => hx b o (Nat.ne_of_lt (Heap.lt_size e)) e
  exact h pins _ σ H xs _ Q I1 (by simpa using rv) hw
/-- o[i] = .. -/
def gSub (to ti : TE) (t : TSet) : TG := fun v σ H Q => to σ H fun o H1 => ti σ H1 fun i H2 => t o i v H2 fun H3 => Q σ H3
theorem pg_sub {o i : Expr} {to ti : TE} {t : TSet} (ho : PE X o to) (hi : PE X i ti) (hs : PSet X t)
    (ha : ∀ v, assign (.Subscript o i pos) X.env v = (do
      let ov ← holding [v] (eval o X.env)
      let iv ← holding [v, ov] (eval i X.env)
      standAt pos
      holding [v, ov, iv] (setItem ov iv v)
      release [v, ov, iv] []) := by intro _; rfl) : PG X (.Subscript o i pos) (gSub to ti t) := by
  intro pins s σ H v u Q I r h
  rw [ha]
  refine wpAny_bind (wpAny_holding (thn (ho pins s σ H _ I h) fun ov s1 ⟨x, H1, I1, r1, q1⟩ => ?_))
  refine wpAny_bind (wpAny_holding (thn (hi pins s1 σ H1 _ I1 q1) fun iv s2 ⟨y, H2, I2, r2, q2⟩ => ?_))
  refine wpAny_bind (wpAny_standAt (wpAny_bind (wpAny_holding (thn (hs pins s2 σ H2 x y v ov iv u _ I2 r1 r2 r q2) fun _ s3 ⟨H3, I3, q3⟩ => ?_))))
  exact wpAny_release ⟨σ, H3, I3, q3⟩
/-- target = value -/
def tAsg (te : TE) (g : TG) : TS := fun D σ H => te σ H fun x H1 => g x σ H1 D.nx
theorem ps_asg {tg e : Expr} {te : TE} {g : TG} (he : PE X e te) (hg : PG X tg g) (hs : swapsWithSole [tg] e pos.line X.env = pure false := by rfl) (hw : swappedStores [tg] e X.env = pure none := by rfl)
    (h1 : (assignEach [tg] X.env).map (·.2) = [assign tg X.env] := by rfl) : PS X (.Assign [tg] e pos) (tAsg te g) := by
  intro pins s σ H D I h
  refine wpAny_Assign_stores (thn (he pins s σ H _ I h) fun v s1 ⟨x, H1, I1, r1, q1⟩ => ?_) hs hw
  rw [h1]
  exact thn (hg pins s1 σ H1 x v _ I1 r1 q1) fun _ s2 q => q
/-- name = value -/
theorem ps_set {i : Nat} {x : Str} {e : Expr} {te : TE} {pos' : Pos} (hN : X.N.Nodup) (hi : X.N[i]? = some x) (hx : Loc X.env.scope x) (he : PE X e te) (hs : swapsWith e (some (.Name x pos')) pos.line X.env = pure false := by rfl) (hf : X.fn x = true ∨ X.env.scope.names.lookup x = some .local := by first | exact .inl rfl | exact .inr rfl | assumption) :
    PS X (.Assign [.Name x pos'] e pos) (tAsg te (gName i)) := by
  intro pins s σ H D I h
  refine wpAny_Assign_Name (thn (he pins s σ H _ I h) fun v s1 ⟨y, H1, I1, r1, q1⟩ => ?_) hs
  exact store_ok I1 hN hi hx r1 (fun s2 I2 => ⟨_, H1, I2, q1⟩) hf
/-- a, b = x, y with plain local names: stored from the right; the pair itself is not tracked (the opening rows as in PyProof/Rows/TupAssign.lean:23) -/
def tPar (i j : Nat) (ta : TA) : TS := fun D σ H => ta σ H fun vs H1 => ∃ v w, vs = [v, w] ∧ D.nx ((σ.set i (some v)).set j (some w)) H1
/-- name op= e -/
def tAug (i : Nat) (te : TE) (ti : TIp) : TS := fun D σ H => ∃ x, σ[i]? = some (some x) ∧ te σ H fun y H1 => ti x y H1 fun z H2 => D.nx (σ.set i (some z)) H2
/-- o[i] op= e -/
def tAugS (to ti te : TE) (tget : V → V → Hp → VK → Prop) (tip : TIp) (tset : TSet) : TS := fun D σ H => to σ H fun o H1 => ti σ H1 fun i H2 => tget o i H2 fun x H3 => te σ H3 fun y H4 => tip x y H4 fun z H5 => tset o i z H5 fun H6 => D.nx σ H6
/-- o[i], by values -/
def PGet (X : Cx) (t : V → V → Hp → VK → Prop) : Prop :=
  ∀ (pins : List (Addr × Obj)) (s : Shared) (σ : St) (H : Hp) (o i : V) (ov iv : Value) (Q : VK), Inv X pins σ H s → RelV o ov → RelV i iv → t o i H Q →
    wpAny (model X.prog X.w) X.A (getItem ov iv) (EP X pins σ Q) X.xe s
/-- ints -/
def ipI (f : Int → Int → Int) : TIp := fun x y H Q => ∃ i j, x = .int i ∧ y = .int j ∧ Q (.int (f i j)) H
end

/-! ### while -/
section
variable {X : Cx} {pos : Pos}
/-- the invariant W with its measure -/
def tWhile (c : TT) (tb : TS) : TS := fun D σ H => ∃ W : Nat → St → Hp → Prop, (∃ m, W m σ H) ∧ ∀ m σ H, W m σ H →
  c σ H fun b H1 => if b = true then ∃ N : St → Hp → Prop, (∀ σ' H', N σ' H' → ∃ m', m' < m ∧ W m' σ' H') ∧ tb { D with nx := N, ct := N, bk := D.nx } σ H1 else D.nx σ H1
end

/-! ### what a loop or a comprehension walks -/
/-- at turn i: it yields x (the heap may grow), or it stops -/
structure It where
  go : Nat → Hp → Prop
  yld : Nat → Hp → V → Hp → Prop
  stop : Nat → Hp → Prop
/-- the iterator's own objects may turn: they are not the frame's, not pinned, younger than the entry (or a comprehension's own) -/
def FpOk (X : Cx) (pins : List (Addr × Obj)) (H : Hp) (b : Addr) : Prop :=
  H b = none ∧ b ≠ X.env.locals ∧ b ∉ X.fs ∧ (b ∈ X.ex ∨ X.s₀.heap.objs.size ≤ b) ∧ (∀ x c, X.env.cells.lookup x = some c → c ≠ b) ∧ ∀ p ∈ X.pn ++ pins, p.1 ≠ b
theorem Inv.fpOk {X : Cx} {pins : List (Addr × Obj)} {σ : St} {H H' : Hp} {s : Shared} {b : Addr} (I : Inv X pins σ H s) (hb : s.heap.objs.size ≤ b) (hn : H' b = none) : FpOk X pins H' b := by
  refine ⟨hn, Nat.ne_of_gt (Nat.lt_of_lt_of_le I.lt hb), I.nofs hb, .inr (Nat.le_trans I.sz hb), fun x c e z => ?_, fun p hp z => ?_⟩
  · obtain ⟨v, q⟩ := I.cell x c e
    exact absurd (Nat.lt_of_lt_of_le q.lt (by rw [z]; exact hb)) (Nat.lt_irrefl _)
  · exact absurd (Nat.lt_of_lt_of_le (Heap.lt_size (I.pin p hp).1) (by rw [z]; exact hb)) (Nat.lt_irrefl _)
structure Turn (P : Program) (w : World) (K : PySem.W.Frag) (tg : Expr) (J : It) (fp : List Addr) (it : Addr) (tn : Nat → Heap → Prop) : Prop where
  mem : it ∈ fp
  obj : ∀ i h, tn i h → ∀ b ∈ fp, ∃ o, h.get? b = some o ∧ ∀ v, o.data ≠ .cell v
  keep : ∀ i h h', tn i h → (∀ b ∈ fp, ∀ o, h.get? b = some o → h'.get? b = some o) → tn i h'
  item : ∀ (X : Cx), X.prog = P → X.w = w → X.K = K → X.calm = true → ∀ (i : Nat) (pins : List (Addr × Obj)) (s : Shared) (σ : St) (H : Hp) (E : Value → Shared → Prop), Inv X pins σ H s → (∀ b ∈ fp, FpOk X pins H b) → tn i s.heap → J.go i H →
    wpAny (model P w) X.A (pyNext (.ref it)) (fun r s1 => ∃ u, r = some u ∧
      wpAny (model P w) X.A (letOwnedTupleGo tg (.ref it) u) (fun _ s2 => ∃ x H', Inv X pins σ H' s2 ∧ RelV x u ∧ J.yld i H x H' ∧ tn (i + 1) s2.heap ∧ ∀ b ∈ fp, H' b = none) E s1) E s
  done : ∀ (X : Cx), X.prog = P → X.w = w → X.K = K → X.calm = true → ∀ (i : Nat) (pins : List (Addr × Obj)) (s : Shared) (σ : St) (H : Hp) (E : Value → Shared → Prop), Inv X pins σ H s → (∀ b ∈ fp, FpOk X pins H b) → tn i s.heap → J.stop i H →
    wpAny (model P w) X.A (pyNext (.ref it)) (fun r s1 => r = none ∧ Inv X pins σ H s1) E s
  self : ∀ (A : Around) (i : Nat) (s : Shared) (Q : Value → Shared → Prop) (E : Value → Shared → Prop), tn i s.heap → Q (.ref it) s → wpAny (model P w) A (pyIter (.ref it)) Q E s
abbrev TI := St → Hp → (It → Hp → Prop) → Prop
/-- an iterator has come -/
def PIE (X : Cx) (pins : List (Addr × Obj)) (σ : St) (tg : Expr) (R : It → Hp → Prop) (itv : Value) (s2 : Shared) : Prop :=
  ∃ (it : Addr) (fp : List Addr) (tn : Nat → Heap → Prop) (J : It) (H' : Hp), itv = .ref it ∧ Inv X pins σ H' s2 ∧ Turn X.prog X.w X.K tg J fp it tn ∧ tn 0 s2.heap ∧ (∀ b ∈ fp, FpOk X pins H' b) ∧ R J H'
def PI (X : Cx) (tg iter : Expr) (wi : TI) : Prop :=
  ∀ (pins : List (Addr × Obj)) (s : Shared) (σ : St) (H : Hp) (R : It → Hp → Prop), Inv X pins σ H s → wi σ H R →
    wpAny (model X.prog X.w) X.A (eval iter X.env) (fun v s1 => wpAny (model X.prog X.w) X.A (pyIter v) (PIE X pins σ tg R) X.xe s1) X.xe s

/-- the step ahead of the store is nothing for an iterator that keeps no tuple -/
theorem go_of {M : Model} {A : Around} {E : Value → Shared → Prop} {s : Shared} {tg : Expr} {it : Addr} {u : Value} {o : Obj} {n : String} {vs : Array Value} {Q : Unit → Shared → Prop} (ho : s.heap.get? it = some o) (hc : o.cls = .type n) (hd : o.data = .fields vs)
    (hn : ["enumerate", "zip", "dict_itemiterator", "dict_reverseitemiterator", "odict_iterator", "itertools.zip_longest", "itertools.pairwise"].contains n = false) (hQ : Q () s) : wpAny M A (letOwnedTupleGo tg (.ref it) u) Q E s := by
  unfold letOwnedTupleGo
  cases tg <;> first
    | exact wpAny_pure hQ
    | (cases u <;> first
        | exact wpAny_pure hQ
        | (refine wpAny_bind (wpAny_load ho ?_)
           rw [hc, hd]
           show wpAny M A (if (["enumerate", "zip", "dict_itemiterator", "dict_reverseitemiterator", "odict_iterator", "itertools.zip_longest", "itertools.pairwise"].contains n && vs[0]? == some (rawInt _)) = true then _ else _) Q E s
           rw [if_neg (by intro h; rw [hn, Bool.false_and] at h; cases h)]
           exact wpAny_pure hQ))

/-- the list at a, as it stands at each turn (a loop may append to it) -/
def Itl (K : PySem.W.Frag) (a : Addr) : It :=
  ⟨fun i H => ∃ xs x, SqL K H a xs ∧ xs[i]? = some x, fun i H x H' => H' = H ∧ ∀ xs, SqL K H a xs → xs[i]? = some x, fun i H => ∃ xs, SqL K H a xs ∧ xs.length ≤ i⟩
def Itt (K : PySem.W.Frag) (a : Addr) : It :=
  ⟨fun i H => ∃ xs x, SqT K H a xs ∧ xs[i]? = some x, fun i H x H' => H' = H ∧ ∀ xs, SqT K H a xs → xs[i]? = some x, fun i H => ∃ xs, SqT K H a xs ∧ xs.length ≤ i⟩
/-- lo, lo + 1, .. (n of them) -/
def Itr (lo : Int) (n : Nat) : It := ⟨fun i _ => i < n, fun i H x H' => H' = H ∧ x = .int (lo + i), fun i _ => n ≤ i⟩
theorem turn_list {P : Program} {w : World} {K : PySem.W.Frag} {tg : Expr} (a it : Addr) : Turn P w K tg (Itl K a) [it] it (fun i h => h.IsListIter it a i) where
  mem := by simp
  obj := fun i h st b hb => by
    have e : b = it := by simpa using hb
    subst e
    obtain ⟨o, e, c, d⟩ := st
    exact ⟨o, e, fun v z => by rw [d] at z; cases z⟩
  keep := fun i h h' st k => st.at fun o e => k it (by simp) o e
  item := by
    intro X hP hw hK hc i pins s σ H E I hf st hg
    subst hP hw hK
    obtain ⟨xs, x, hq, hx⟩ := hg
    obtain ⟨its, rv, p, hz⟩ := I.list hq
    obtain ⟨u, hu, ru⟩ := rv.get hx
    obtain ⟨f0, f1, f2, f3, f4, f5⟩ := hf it (by simp)
    refine wpAny_pyNext_list_item st p.isList (x := u) (by simpa using hu) fun h' st' sb => ?_
    have I1 : Inv X pins σ H { s with heap := h' } := I.turned (t' := s.toks) (fun b o hb e => (sb.2 b hb).trans e) f0 f1 f3 f4 f5
    obtain ⟨o, e, c, d⟩ := id st'
    exact ⟨u, rfl, go_of (s := { s with heap := h' }) e c d (by decide) ⟨x, H, I1, ru, ⟨rfl, fun ys hy => by rw [I.list_inj hy hq]; exact hx⟩, st', fun b hb => (hf b hb).1⟩⟩
  done := by
    intro X hP hw hK hc i pins s σ H E I hf st hg
    subst hP hw hK
    obtain ⟨xs, hq, hx⟩ := hg
    obtain ⟨its, rv, p, hz⟩ := I.list hq
    obtain ⟨f0, f1, f2, f3, f4, f5⟩ := hf it (by simp)
    have hl := rv.length
    exact wpAny_pyNext_list_end (I.ok.hd hc) st p.isList (by simp; omega) fun h' eb => ⟨rfl, I.turned (t' := s.toks) (fun b o hb e => eb b o hb e) f0 f1 f3 f4 f5⟩
  self := fun _ _ _ _ _ st h => wpAny_pyIter_listiter st h
theorem turn_tuple {P : Program} {w : World} {K : PySem.W.Frag} {tg : Expr} (a it : Addr) : Turn P w K tg (Itt K a) [it] it (fun i h => h.IsTupleIter it a i) where
  mem := by simp
  obj := fun i h st b hb => by
    have e : b = it := by simpa using hb
    subst e
    obtain ⟨o, e, c, d⟩ := st
    exact ⟨o, e, fun v z => by rw [d] at z; cases z⟩
  keep := fun i h h' st k => st.at fun o e => k it (by simp) o e
  item := by
    intro X hP hw hK hc i pins s σ H E I hf st hg
    subst hP hw hK
    obtain ⟨xs, x, hq, hx⟩ := hg
    obtain ⟨its, rv, p, hz⟩ := I.tuple hq
    obtain ⟨u, hu, ru⟩ := rv.get hx
    obtain ⟨f0, f1, f2, f3, f4, f5⟩ := hf it (by simp)
    refine wpAny_pyNext_tuple_item st (show s.heap.IsTuple a its.toArray from p) (x := u) (by simpa using hu) fun h' st' sb => ?_
    have I1 : Inv X pins σ H { s with heap := h' } := I.turned (t' := s.toks) (fun b o hb e => (sb.2 b hb).trans e) f0 f1 f3 f4 f5
    obtain ⟨o, e, c, d⟩ := id st'
    exact ⟨u, rfl, go_of (s := { s with heap := h' }) e c d (by decide) ⟨x, H, I1, ru, ⟨rfl, fun ys hy => by rw [I.tuple_inj hy hq]; exact hx⟩, st', fun b hb => (hf b hb).1⟩⟩
  done := by
    intro X hP hw hK hc i pins s σ H E I hf st hg
    subst hP hw hK
    obtain ⟨xs, hq, hx⟩ := hg
    obtain ⟨its, rv, p, hz⟩ := I.tuple hq
    obtain ⟨f0, f1, f2, f3, f4, f5⟩ := hf it (by simp)
    have hl := rv.length
    exact wpAny_pyNext_tuple_end (I.ok.hd hc) st (show s.heap.IsTuple a its.toArray from p) (by simp; omega) fun h' eb => ⟨rfl, I.turned (t' := s.toks) (fun b o hb e => eb b o hb e) f0 f1 f3 f4 f5⟩
  self := fun _ _ _ _ _ st h => wpAny_pyIter_tupleiter st h
theorem turn_range {P : Program} {w : World} {K : PySem.W.Frag} {tg : Expr} (it : Addr) (lo : Int) (n : Nat) : Turn P w K tg (Itr lo n) [it] it (fun i h => IsRangeIter h it (lo + (i : Nat) * 1) ((n : Int) - (i : Nat)) 1) where
  mem := by simp
  obj := fun i h st b hb => by
    have e : b = it := by simpa using hb
    subst e
    exact ⟨_, st, fun v z => by
      have z' : Data.fields _ = Data.cell v := z
      cases z'⟩
  keep := fun i h h' st k => k it (by simp) _ st
  item := by
    intro X hP hw hK hc i pins s σ H E I hf st hg
    subst hP hw hK
    obtain ⟨f0, f1, f2, f3, f4, f5⟩ := hf it (by simp)
    have W := Walks.range (prog := X.prog) (w := X.w) (I.ok.hd hc) it lo 1 n
    refine W.item i s _ _ hg st fun v h' tk hv st' kk => ?_
    obtain ⟨t, rfl⟩ := hv
    have I1 : Inv X pins σ H { s with heap := h', toks := tk } := I.turned (fun b o hb e => kk b o (by simpa using hb) e) f0 f1 f3 f4 f5
    refine ⟨_, rfl, go_of (s := { s with heap := h', toks := tk }) (n := "range_iterator") st' rfl rfl (by decide) ⟨.int (lo + i), H, I1, ⟨t, ?_⟩, ⟨rfl, rfl⟩, st', fun b hb => (hf b hb).1⟩⟩
    rw [Int.mul_one]
  done := by
    intro X hP hw hK hc i pins s σ H E I hf st hg
    subst hP hw hK
    obtain ⟨f0, f1, f2, f3, f4, f5⟩ := hf it (by simp)
    exact wpAny_pyNext_range_end (I.ok.hd hc) st (by have : n ≤ i := hg; omega) fun h' eb => ⟨rfl, I.turned (t' := s.toks) (fun b o hb e => eb b o hb e) f0 f1 f3 f4 f5⟩
  self := fun _ _ _ _ _ st h => wpAny_pyIter_rangeiter st h
end L2

namespace L2
open PySem PySem.Spec PyProof.Rows
section
variable {X : Cx} {tg : Expr}
def iList (K : PySem.W.Frag) (tl : TE) : TI := fun σ H R => tl σ H fun x H1 => ∃ a, x = .ref a ∧ (∃ xs, SqL K H1 a xs) ∧ R (Itl K a) H1
def iTup (K : PySem.W.Frag) (tl : TE) : TI := fun σ H R => tl σ H fun x H1 => ∃ a, x = .ref a ∧ (∃ xs, SqT K H1 a xs) ∧ R (Itt K a) H1
theorem pi_list {l : Expr} {tl : TE} (hl : PE X l tl) : PI X tg l (iList X.K tl) := by
  intro pins s σ H R I h
  refine thn (hl pins s σ H _ I h) fun v s1 ⟨x, H1, I1, r1, q1⟩ => ?_
  obtain ⟨a, e, ⟨xs, hq⟩, q⟩ := q1
  subst e
  cases r1
  obtain ⟨its, rv, p, hz⟩ := I1.list hq
  refine wpAny_pyIter_list p.isList ?_
  refine ⟨s1.heap.objs.size, [s1.heap.objs.size], _, _, H1, rfl, I1.kept (t' := s1.toks) fun b o e => Heap.get?_push_of_some _ e, turn_list a _, ⟨_, Heap.get?_push_size _ rfl, rfl, rfl⟩, fun b hb => ?_, q⟩
  have e : b = s1.heap.objs.size := by simpa using hb
  subst e
  exact I1.fpOk (Nat.le_refl _) (I1.hok.fresh (Nat.le_refl _))
theorem pi_tup {l : Expr} {tl : TE} (hl : PE X l tl) : PI X tg l (iTup X.K tl) := by
  intro pins s σ H R I h
  refine thn (hl pins s σ H _ I h) fun v s1 ⟨x, H1, I1, r1, q1⟩ => ?_
  obtain ⟨a, e, ⟨xs, hq⟩, q⟩ := q1
  subst e
  cases r1
  obtain ⟨its, rv, p, hz⟩ := I1.tuple hq
  refine wpAny_pyIter_tuple (show s1.heap.IsTuple a its.toArray from p) ?_
  refine ⟨s1.heap.objs.size, [s1.heap.objs.size], _, _, H1, rfl, I1.kept (t' := s1.toks) fun b o e => Heap.get?_push_of_some _ e, turn_tuple a _, ⟨_, Heap.get?_push_size _ rfl, rfl, rfl⟩, fun b hb => ?_, q⟩
  have e : b = s1.heap.objs.size := by simpa using hb
  subst e
  exact I1.fpOk (Nat.le_refl _) (I1.hok.fresh (Nat.le_refl _))
/-- a range object just made, walked -/
theorem range_it {pins : List (Addr × Obj)} {σ : St} {H : Hp} {s : Shared} {R : It → Hp → Prop} {E : Value → Shared → Prop} {lo hi : Int} {t u v : Tok} {tk : Nat} (I : Inv X pins σ H s) (h1 : -(2 ^ 62) ≤ lo) (h2 : lo < 2 ^ 62) (h3 : -(2 ^ 62) ≤ hi) (h4 : hi < 2 ^ 62)
    (q : R (Itr lo (hi - lo).toNat) H) : wpAny (model X.prog X.w) X.A (pyIter (.ref s.heap.objs.size)) (PIE X pins σ tg R) E { s with heap := s.heap.push { cls := .type "range", data := .fields #[.int lo t, .int hi u, .int 1 v] }, toks := tk } := by
  refine wpAny_pyIter_range (IsRange.new ..) (small_one h1 h2 h3 h4) ?_
  have I1 : Inv X pins σ H { s with heap := s.heap.push { cls := .type "range", data := .fields #[.int lo t, .int hi u, .int 1 v] }, toks := tk } := I.kept fun b o e => Heap.get?_push_of_some _ e
  refine ⟨(s.heap.push { cls := .type "range", data := .fields #[.int lo t, .int hi u, .int 1 v] }).objs.size, [(s.heap.push { cls := .type "range", data := .fields #[.int lo t, .int hi u, .int 1 v] }).objs.size], _, _, H, rfl,
    I1.kept (t' := tk) fun b o e => Heap.get?_push_of_some _ e, turn_range _ lo (hi - lo).toNat, ?_, fun b hb => ?_, q⟩
  · have e1 : lo + ((0 : Nat) : Int) * 1 = lo := by simp
    have e2 : (((hi - lo).toNat : Nat) : Int) - ((0 : Nat) : Int) = Builtin.Range.rangeSize lo hi 1 := by rw [rangeSize_one]; split <;> omega
    show IsRangeIter _ _ (lo + ((0 : Nat) : Int) * 1) ((((hi - lo).toNat : Nat) : Int) - ((0 : Nat) : Int)) 1
    rw [e1, e2]
    exact Heap.get?_push_size _ rfl
  · have e : b = (s.heap.push { cls := .type "range", data := .fields #[.int lo t, .int hi u, .int 1 v] }).objs.size := by simpa using hb
    subst e
    exact I1.fpOk (Nat.le_refl _) (I1.hok.fresh (Nat.le_refl _))
def iRng1 (ta : TA) : TI := fun σ H R => ta σ H fun vs H1 => ∃ j : Int, vs = [.int j] ∧ -(2 ^ 62) ≤ j ∧ j < 2 ^ 62 ∧ R (Itr 0 j.toNat) H1
def iRng2 (ta : TA) : TI := fun σ H R => ta σ H fun vs H1 => ∃ i j : Int, vs = [.int i, .int j] ∧ (-(2 ^ 62) ≤ i ∧ i < 2 ^ 62 ∧ -(2 ^ 62) ≤ j ∧ j < 2 ^ 62) ∧ R (Itr i (j - i).toNat) H1
theorem pi_range1 {a : Expr} {ta : TA} {p pos : Pos} (hg : Gl X "range") (hm : X.mg "range" = none) (ha : PA X [a] ta) (hs : starEach [a] X.env = [(false, eval a X.env)] := by rfl) : PI X tg (.Call (.Name "range" p) [a] [] pos) (iRng1 ta) := by
  intro pins s σ H R I h
  refine Call_ (ld_blt I hg hm boot_range (PyProof.Rows.callWith_type1 (thn (ha pos pins s σ H _ I h) fun us s1 ⟨vs, H1, I1, r1, q1⟩ => ?_) hs rfl))
  obtain ⟨j, e, q1, q2, q⟩ := q1
  subst e
  cases r1 with
  | cons r rr =>
    cases rr
    obtain ⟨t, rfl⟩ := r
    exact call_range_1 (range_it I1 (by omega) (by omega) q1 q2 (by simpa using q))

/-! ### for -/
/-- W: the invariant by the turn and a measure; N: what the body is to reach -/
def tFor (wi : TI) (g : TG) (tb : TS) : TS := fun D σ H => wi σ H fun J H1 => ∃ W : Nat → Nat → St → Hp → Prop, (∃ m, W 0 m σ H1) ∧ ∀ i m σ H, W i m σ H →
  (J.stop i H ∧ D.nx σ H) ∨ (J.go i H ∧ ∃ N : St → Hp → Prop, (∀ σ' H', N σ' H' → ∃ m', m' < m ∧ W (i + 1) m' σ' H') ∧ ∀ x H', J.yld i H x H' → g x σ H' fun σ2 H2 => tb { D with nx := N, ct := N, bk := D.nx } σ2 H2)
/-- the records at fp as they stand -/
def pinsAt (fp : List Addr) (h : Heap) : List (Addr × Obj) := fp.filterMap fun b => (h.get? b).map fun o => (b, o)
theorem mem_pinsAt {fp : List Addr} {h : Heap} {b : Addr} {o : Obj} (hb : b ∈ fp) (e : h.get? b = some o) : (b, o) ∈ pinsAt fp h := List.mem_filterMap.mpr ⟨b, hb, by rw [e]; rfl⟩
theorem of_pinsAt {fp : List Addr} {h : Heap} {p : Addr × Obj} (hp : p ∈ pinsAt fp h) : p.1 ∈ fp ∧ h.get? p.1 = some p.2 := by
  obtain ⟨b, hb, e⟩ := List.mem_filterMap.mp hp
  cases q : h.get? b with
  | none => rw [q] at e; cases e
  | some o =>
    rw [q] at e
    have e' : (b, o) = p := Option.some.inj e
    subst e'
    exact ⟨hb, q⟩
theorem Inv.pinned {pins : List (Addr × Obj)} {σ : St} {H : Hp} {s : Shared} {fp : List Addr} (I : Inv X pins σ H s) (hf : ∀ b ∈ fp, FpOk X pins H b) (ho : ∀ b ∈ fp, ∃ o, s.heap.get? b = some o ∧ ∀ v, o.data ≠ .cell v) : Inv X (pins ++ pinsAt fp s.heap) σ H s :=
  I.pins_of fun p hp => (List.mem_append.mp hp).elim (fun z => I.pin p (List.mem_append_right _ z)) fun z => by
    obtain ⟨hb, e⟩ := of_pinsAt z
    obtain ⟨f0, f1, f2, _⟩ := hf p.1 hb
    obtain ⟨o, e', d⟩ := ho p.1 hb
    rw [e] at e'; cases e'
    exact ⟨e, f0, f1, f2, d⟩
theorem Inv.unpinned {pins pl : List (Addr × Obj)} {σ : St} {H : Hp} {s : Shared} (I : Inv X (pins ++ pl) σ H s) : Inv X pins σ H s := I.pins_of fun p hp => I.pin p (List.mem_append_right _ (List.mem_append_left _ hp))
theorem ps_for {iter : Expr} {body : List Stmt} {wi : TI} {g : TG} {tb : TS} {pos : Pos} (hp : PassesOwn (model X.prog X.w) X.A X.env X.xe) (hc : X.calm = true) (hi : PI X tg iter wi) (hg : PG X tg g) (hb : PSs X body tb)
    (hs : ∀ x, foldedSetIterable iter X.env x = pure x := by intro _; rfl) : PS X (.For tg iter body [] pos) (tFor wi g tb) := by
  intro pins s σ H D I h
  refine wpAny_For (thn (hi pins s σ H _ I h) fun v s1 h1 => thn h1 fun itv s2 h2 => ?_) hs
  obtain ⟨it, fp, tn, J, H2, e, I2, T, st2, f2, W, ⟨m0, w0⟩, turn⟩ := h2
  subst e
  -- what stays true of the iterator's objects through the loop
  have stat : ∀ {H' : Hp}, (∀ b ∈ fp, H' b = none) → ∀ b ∈ fp, FpOk X pins H' b := fun hn b hb => ⟨hn b hb, (f2 b hb).2⟩
  refine codeAny_forLoop_any (fun n s' => ∃ i σ' H', Inv X pins σ' H' s' ∧ tn i s'.heap ∧ (∀ b ∈ fp, H' b = none) ∧ W i n σ' H') ?_ m0 ⟨0, σ, H2, I2, st2, fun b hb => (f2 b hb).1, w0⟩
  rintro n s3 ⟨i, σ3, H3, I3, st3, fr3, w3⟩
  rcases turn i n σ3 H3 w3 with ⟨stop, qn⟩ | ⟨go, N, hN, step⟩
  · refine wpAny_passesOwn hp (thn (T.done X rfl rfl rfl hc i pins s3 σ3 H3 X.xe I3 (stat fr3) st3 stop) fun r s4 ⟨hr, I4⟩ => ?_)
    subst hr
    exact wpAny_execs_nil ⟨σ3, H3, I4, qn⟩
  · refine wpAny_passesOwn hp (thn (T.item X rfl rfl rfl hc i pins s3 σ3 H3 X.xe I3 (stat fr3) st3 go) fun r s4 ⟨u, hr, h4⟩ => ?_)
    subst hr
    refine wpAny_passesOwn hp (thn h4 fun _ s5 ⟨x, H5, I5, r5, y5, st5, fr5⟩ => ?_)
    have I5' := I5.pinned (stat fr5) (T.obj _ _ st5)
    refine wpAny_passesOwn hp (thn (hg _ s5 σ3 H5 x u _ I5' r5 (step x H5 y5)) fun _ s6 ⟨σ6, H6, I6, q6⟩ => ?_)
    refine wpAny_passesOwn hp (thn (hb _ s6 σ6 H6 _ I6 q6) fun f s7 q7 => ?_)
    have again : ∀ {σ7 : St} {H7 : Hp}, Inv X (pins ++ pinsAt fp s5.heap) σ7 H7 s7 → N σ7 H7 → ∃ m, m < n ∧ ∃ i σ' H', Inv X pins σ' H' s7 ∧ tn i s7.heap ∧ (∀ b ∈ fp, H' b = none) ∧ W i m σ' H' := fun {σ7 H7} I7 n7 => by
      obtain ⟨m', hm, w7⟩ := hN σ7 H7 n7
      refine ⟨m', hm, i + 1, σ7, H7, I7.unpinned, T.keep _ _ _ st5 fun b hb o e => (I7.pin (b, o) (List.mem_append_right _ (List.mem_append_right _ (mem_pinsAt hb e)))).1, fun b hb => ?_, w7⟩
      obtain ⟨o, e, d⟩ := T.obj _ _ st5 b hb
      exact (I7.pin (b, o) (List.mem_append_right _ (List.mem_append_right _ (mem_pinsAt hb e)))).2.1
    cases f with
    | next => obtain ⟨σ7, H7, I7, n7⟩ := q7; exact again I7 n7
    | cont => obtain ⟨σ7, H7, I7, n7⟩ := q7; exact again I7 n7
    | brk => obtain ⟨σ7, H7, I7, q7⟩ := q7; exact ⟨σ7, H7, I7.unpinned, q7⟩
    | ret v => obtain ⟨x7, σ7, H7, I7, r7, q7⟩ := q7; exact ⟨x7, σ7, H7, I7.unpinned, r7, q7⟩
end

/-! ### the forms one uses -/
/-- over a list that the body leaves as it is -/
theorem for_list {K : PySem.W.Frag} {a : Addr} {xs : List V} {g : TG} {tb : TS} {D : Ends} {σ : St} {H : Hp} (Pv : Nat → St → Hp → Prop) (h0 : Pv 0 σ H) (hl : ∀ i σ H, i ≤ xs.length → Pv i σ H → SqL K H a xs)
    (hs : ∀ i x σ H, xs[i]? = some x → Pv i σ H → g x σ H fun σ2 H2 => tb { D with nx := Pv (i + 1), ct := Pv (i + 1), bk := D.nx } σ2 H2) (hd : ∀ σ H, Pv xs.length σ H → D.nx σ H) :
    ∃ W : Nat → Nat → St → Hp → Prop, (∃ m, W 0 m σ H) ∧ ∀ i m σ H, W i m σ H →
      ((Itl K a).stop i H ∧ D.nx σ H) ∨ ((Itl K a).go i H ∧ ∃ N : St → Hp → Prop, (∀ σ' H', N σ' H' → ∃ m', m' < m ∧ W (i + 1) m' σ' H') ∧ ∀ x H', (Itl K a).yld i H x H' → g x σ H' fun σ2 H2 => tb { D with nx := N, ct := N, bk := D.nx } σ2 H2) := by
  refine ⟨fun i m σ H => m = xs.length - i ∧ i ≤ xs.length ∧ Pv i σ H, ⟨xs.length, by simp, Nat.zero_le _, h0⟩, ?_⟩
  rintro i m σ H ⟨rfl, hi, p⟩
  have q := hl i σ H hi p
  by_cases hlt : i < xs.length
  · refine .inr ⟨⟨xs, xs[i], q, by simp [hlt]⟩, Pv (i + 1), fun σ' H' p' => ⟨xs.length - (i + 1), by omega, rfl, hlt, p'⟩, fun x H' y => ?_⟩
    obtain ⟨e, y⟩ := y
    subst e
    exact hs i x σ _ (y xs q) p
  · have e : i = xs.length := by omega
    subst e
    exact .inl ⟨⟨xs, q, Nat.le_refl _⟩, hd σ H p⟩
theorem for_range {lo : Int} {n : Nat} {g : TG} {tb : TS} {D : Ends} {σ : St} {H : Hp} (Pv : Nat → St → Hp → Prop) (h0 : Pv 0 σ H)
    (hs : ∀ i σ H, i < n → Pv i σ H → g (.int (lo + i)) σ H fun σ2 H2 => tb { D with nx := Pv (i + 1), ct := Pv (i + 1), bk := D.nx } σ2 H2) (hd : ∀ σ H, Pv n σ H → D.nx σ H) :
    ∃ W : Nat → Nat → St → Hp → Prop, (∃ m, W 0 m σ H) ∧ ∀ i m σ H, W i m σ H →
      ((Itr lo n).stop i H ∧ D.nx σ H) ∨ ((Itr lo n).go i H ∧ ∃ N : St → Hp → Prop, (∀ σ' H', N σ' H' → ∃ m', m' < m ∧ W (i + 1) m' σ' H') ∧ ∀ x H', (Itr lo n).yld i H x H' → g x σ H' fun σ2 H2 => tb { D with nx := N, ct := N, bk := D.nx } σ2 H2) := by
  refine ⟨fun i m σ H => m = n - i ∧ i ≤ n ∧ Pv i σ H, ⟨n, by simp, Nat.zero_le _, h0⟩, ?_⟩
  rintro i m σ H ⟨rfl, hi, p⟩
  by_cases hlt : i < n
  · refine .inr ⟨hlt, Pv (i + 1), fun σ' H' p' => ⟨n - (i + 1), by omega, rfl, hlt, p'⟩, fun x H' y => ?_⟩
    obtain ⟨e, y⟩ := y
    subst e y
    exact hs i σ _ hlt p
  · have e : i = n := by omega
    subst e
    exact .inl ⟨Nat.le_refl _, hd σ H p⟩
end L2

namespace L2
open PySem PySem.Spec PyProof.Rows

abbrev R2 := V → V → Hp → VK → Prop
/-- a two-place operation on values: f is binaryOp op, inplaceOp op or compareOp op -/
def OpR (X : Cx) (f : Value → Value → Sem Value) (r : R2) : Prop :=
  ∀ (pins : List (Addr × Obj)) (s : Shared) (σ : St) (H : Hp) (x y : V) (v u : Value) (Q : VK), Inv X pins σ H s → RelV x v → RelV y u → r x y H Q →
    wpAny (model X.prog X.w) X.A (f v u) (EP X pins σ Q) X.xe s
/-- a one-place operation -/
def UnR (X : Cx) (f : Value → Sem Value) (r : V → Hp → VK → Prop) : Prop :=
  ∀ (pins : List (Addr × Obj)) (s : Shared) (σ : St) (H : Hp) (x : V) (v : Value) (Q : VK), Inv X pins σ H s → RelV x v → r x H Q →
    wpAny (model X.prog X.w) X.A (f v) (EP X pins σ Q) X.xe s
/-- a call of a value that is known (a builtin, a type) with values -/
def CallR (X : Cx) (f : Value) (r : List V → Hp → VK → Prop) : Prop :=
  ∀ (pins : List (Addr × Obj)) (s : Shared) (σ : St) (H : Hp) (xs : List V) (us : List Value) (Q : VK), Inv X pins σ H s → Vals xs us → r xs H Q →
    wpAny (model X.prog X.w) X.A (call f us) (EP X pins σ Q) X.xe s
/-- a value's truth -/
def TruR (X : Cx) (r : V → Hp → (Bool → Hp → Prop) → Prop) : Prop :=
  ∀ (pins : List (Addr × Obj)) (s : Shared) (σ : St) (H : Hp) (x : V) (v : Value) (Q : Bool → Hp → Prop), Inv X pins σ H s → RelV x v → r x H Q →
    wpAny (model X.prog X.w) X.A (truthy v) (TP X pins σ Q) X.xe s

def tOp (r : R2) (ta tb : TE) : TE := fun σ H Q => ta σ H fun x H1 => tb σ H1 fun y H2 => r x y H2 Q
def tUn (r : V → Hp → VK → Prop) (ta : TE) : TE := fun σ H Q => ta σ H fun x H1 => r x H1 Q
/-- ints in, under C, and a value out -/
def rI (C : Int → Int → Prop) (g : Int → Int → V) : R2 := fun x y H Q => ∃ i j, x = .int i ∧ y = .int j ∧ C i j ∧ Q (g i j) H
def rI0 (g : Int → Int → V) : R2 := fun x y H Q => ∃ i j, x = .int i ∧ y = .int j ∧ Q (g i j) H
def rU (g : Int → V) : V → Hp → VK → Prop := fun x H Q => ∃ i, x = .int i ∧ Q (g i) H

section
variable {X : Cx} {a b c : Expr} {ta tb tc : TE} {pos : Pos}

theorem binT (ha : PE X a ta) (hb : PE X b tb) {pins : List (Addr × Obj)} {s : Shared} {σ : St} {H : Hp} {R : V → V → Hp → Prop} (I : Inv X pins σ H s)
    (h : ta σ H fun x H1 => tb σ H1 fun y H2 => R x y H2) {Q : Value → Shared → Prop} {f : Value → Value → Sem Value}
    (hf : ∀ v u s2 x y H2, Inv X pins σ H2 s2 → RelV x v → RelV y u → R x y H2 → wpAny (model X.prog X.w) X.A (f v u) Q X.xe s2) :
    wpAny (model X.prog X.w) X.A (eval a X.env) (fun v s₁ => wpAny (model X.prog X.w) X.A (eval b X.env) (fun u s₂ => wpAny (model X.prog X.w) X.A (f v u) Q X.xe s₂) X.xe s₁) X.xe s := by
  refine thn (ha pins s σ H _ I h) fun v s1 ⟨x, H1, I1, r1, q1⟩ => ?_
  refine thn (hb pins s1 σ H1 _ I1 q1) fun u s2 ⟨y, H2, I2, r2, q2⟩ => ?_
  exact hf v u s2 x y H2 I2 r1 r2 q2

theorem pe_op {op : Operator} {r : R2} (ho : OpR X (binaryOp op) r) (ha : PE X a ta) (hb : PE X b tb) : PE X (.BinOp a op b pos) (tOp r ta tb) := by
  intro pins s σ H Q I h
  exact wpAny_BinOp (binT ha hb I h fun v u s2 x y H2 I2 rx ry q => ho pins s2 σ H2 x y v u Q I2 rx ry q)
theorem pe_un {op : UnaryOp} {r : V → Hp → VK → Prop} (ho : UnR X (unaryOp op) r) (ha : PE X a ta) : PE X (.UnaryOp op a pos) (tUn r ta) := by
  intro pins s σ H Q I h
  exact UnaryOp_ (thn (ha pins s σ H _ I h) fun v s1 ⟨x, H1, I1, r1, q1⟩ => ho pins s1 σ H1 x v Q I1 r1 q1)

/-! ### ints -/
theorem opI {f : Value → Value → Sem Value} {C : Int → Int → Prop} {g : Int → Int → Int}
    (rule : ∀ (i j : Int) (t u : Tok) (s : Shared) (Q : Value → Shared → Prop) (E : Value → Shared → Prop), C i j → Q (.int (g i j) s.toks) { s with toks := s.toks + 1 } → wpAny (model X.prog X.w) X.A (f (.int i t) (.int j u)) Q E s) :
    OpR X f (rI C fun i j => .int (g i j)) := by
  intro pins s σ H x y v u Q I rx ry h
  obtain ⟨i, j, rfl, rfl, hc, q⟩ := h
  obtain ⟨t, rfl⟩ := rx
  obtain ⟨t', rfl⟩ := ry
  exact rule i j t t' s _ _ hc ⟨.int (g i j), H, I.tok _, ⟨_, rfl⟩, q⟩
theorem opI0 {f : Value → Value → Sem Value} {g : Int → Int → Int}
    (rule : ∀ (i j : Int) (t u : Tok) (s : Shared) (Q : Value → Shared → Prop) (E : Value → Shared → Prop), Q (.int (g i j) s.toks) { s with toks := s.toks + 1 } → wpAny (model X.prog X.w) X.A (f (.int i t) (.int j u)) Q E s) :
    OpR X f (rI0 fun i j => .int (g i j)) := by
  intro pins s σ H x y v u Q I rx ry h
  obtain ⟨i, j, rfl, rfl, q⟩ := h
  obtain ⟨t, rfl⟩ := rx
  obtain ⟨t', rfl⟩ := ry
  exact rule i j t t' s _ _ ⟨.int (g i j), H, I.tok _, ⟨_, rfl⟩, q⟩
theorem opB0 {f : Value → Value → Sem Value} {g : Int → Int → Bool}
    (rule : ∀ (i j : Int) (t u : Tok) (s : Shared) (Q : Value → Shared → Prop) (E : Value → Shared → Prop), Q (.bool (g i j)) s → wpAny (model X.prog X.w) X.A (f (.int i t) (.int j u)) Q E s) :
    OpR X f (rI0 fun i j => .bl (g i j)) := by
  intro pins s σ H x y v u Q I rx ry h
  obtain ⟨i, j, rfl, rfl, q⟩ := h
  obtain ⟨t, rfl⟩ := rx
  obtain ⟨t', rfl⟩ := ry
  exact rule i j t t' s _ _ ⟨.bl (g i j), H, I, rfl, q⟩

def CDiv (i j : Int) : Prop := 0 < j ∧ j < 1073741824
def CDivN (i j : Int) : Prop := j ≠ 0 ∧ j.natAbs < 1073741824
def CPow (i j : Int) : Prop := 0 ≤ j ∧ j ≤ 1000000 ∧ i.natAbs < 2 ^ 64
def CMul (i j : Int) : Prop := (-(2 ^ 64) < i ∧ i < 2 ^ 64) ∨ (-(2 ^ 64) < j ∧ j < 2 ^ 64)
theorem CMul.ok {i j : Int} (h : CMul i j) : IntMulOk i j := by
  rcases h with ⟨h1, h2⟩ | ⟨h1, h2⟩
  · exact .of_left (intBits_le_64 h1 h2)
  · exact .of_right (intBits_le_64 h1 h2)

theorem op_add : OpR X (binaryOp .Add) (rI0 fun i j => .int (i + j)) := opI0 fun _ _ _ _ _ _ _ q => add_int q
theorem op_sub : OpR X (binaryOp .Sub) (rI0 fun i j => .int (i - j)) := opI0 fun _ _ _ _ _ _ _ q => sub_int q
theorem op_mul : OpR X (binaryOp .Mult) (rI CMul fun i j => .int (i * j)) := opI fun _ _ _ _ _ _ _ hc q => mul_int q hc.ok
/-- // by a positive divisor -/
theorem op_fdiv : OpR X (binaryOp .FloorDiv) (rI CDiv fun i j => .int (i / j)) := opI fun i j _ _ _ _ _ hc q => by
  have h1 : (0 : Int) < j := hc.1
  have h2 : j < 1073741824 := hc.2
  exact floordiv_int (by omega) (by rw [Int.fdiv_eq_ediv_of_nonneg i (by omega)]; exact q) (.inl (PyProof.noPylong_small (by omega)))
/-- % by a positive divisor of any size -/
theorem op_mod : OpR X (binaryOp .Mod) (rI (fun _ j => 0 < j) fun i j => .int (i % j)) := opI fun i j _ _ _ _ _ hc q => by
  have h1 : (0 : Int) < j := hc
  exact mod_int' (by omega) (by rw [Int.fmod_eq_emod_of_nonneg i (by omega)]; exact q)
theorem op_pow : OpR X (binaryOp .Pow) (rI CPow fun i j => .int (i ^ j.toNat)) := opI fun _ _ _ _ _ _ _ hc q => pow_int_small hc.1 hc.2.1 hc.2.2 q


theorem unI {f : Value → Sem Value} {g : Int → Int}
    (rule : ∀ (i : Int) (t : Tok) (s : Shared) (Q : Value → Shared → Prop) (E : Value → Shared → Prop), Q (.int (g i) s.toks) { s with toks := s.toks + 1 } → wpAny (model X.prog X.w) X.A (f (.int i t)) Q E s) :
    UnR X f (rU fun i => .int (g i)) := by
  intro pins s σ H x v Q I rx h
  obtain ⟨i, rfl, q⟩ := h
  obtain ⟨t, rfl⟩ := rx
  exact rule i t s _ _ ⟨.int (g i), H, I.tok _, ⟨_, rfl⟩, q⟩
theorem un_neg : UnR X (unaryOp .USub) (rU fun i => .int (-i)) := unI fun _ _ _ _ _ q => neg_int q

/-! ### bools among ints: n += (a < b) -/
end

/-! ### comparisons -/
/-- the scalars that == tells apart as data does -/
def scal : V → V → Bool
  | .non, .non => true | .non, .int _ => true | .int _, .non => true | .non, .bl _ => true | .bl _, .non => true | .non, .str _ => true | .str _, .non => true
  | .int _, .int _ => true | .bl _, .bl _ => true | .str _, .str _ => true | .byt _, .byt _ => true
  | .int _, .str _ => true | .str _, .int _ => true | .bl _, .str _ => true | .str _, .bl _ => true
  | _, _ => false
def rEq : R2 := fun x y H Q => scal x y = true ∧ Q (.bl (decide (x = y))) H
def rNe : R2 := fun x y H Q => scal x y = true ∧ Q (.bl (!decide (x = y))) H

theorem dec_int {i j : Int} : decide (V.int i = V.int j) = (i == j) := by
  rw [Bool.eq_iff_iff]
  simp
theorem dec_bl {i j : Bool} : decide (V.bl i = V.bl j) = (i == j) := by
  rw [Bool.eq_iff_iff]
  simp
theorem dec_str {i j : Str} : decide (V.str i = V.str j) = (i == j) := by
  rw [Bool.eq_iff_iff]
  simp
theorem dec_byt {i j : Array UInt8} : decide (V.byt i = V.byt j) = (i.toList == j.toList) := by
  rw [Bool.eq_iff_iff]
  cases i
  cases j
  simp

section
variable {X : Cx} {a b c : Expr} {ta tb tc : TE} {pos : Pos}
theorem fin_bl {pins : List (Addr × Obj)} {σ : St} {H : Hp} {s : Shared} {Q : VK} {k k' : Bool} (I : Inv X pins σ H s) (q : Q (.bl k) H) (e : k = k') : EP X pins σ Q (.bool k') s := by
  subst e
  exact ⟨.bl k, H, I, rfl, q⟩
theorem op_eq : OpR X (compareOp .Eq) rEq := by
  intro pins s σ H x y v u Q I rx ry h
  obtain ⟨hs, q⟩ := h
  cases x with
  | non =>
    cases rx
    cases y with
    | non => cases ry; exact PySem.EqNone.eq_none_none (fin_bl I q (by simp))
    | bl j => cases ry; exact PySem.EqNone.eq_none_bool (fin_bl I q (by simp))
    | int j => obtain ⟨t', rfl⟩ := ry; exact PySem.EqNone.eq_none_int (fin_bl I q (by simp))
    | str j => obtain ⟨t', rfl⟩ := ry; exact PySem.EqNone.eq_none_str (fin_bl I q (by simp))
    | _ => exact absurd (show false = true from hs) Bool.false_ne_true
  | bl i =>
    cases rx
    cases y with
    | non => cases ry; exact PySem.EqNone.eq_bool_none (fin_bl I q (by simp))
    | bl j => cases ry; exact eq_bool (fin_bl I q dec_bl)
    | str j => obtain ⟨t', rfl⟩ := ry; exact PySem.EqMixed.eq_bool_str (fin_bl I q (by simp))
    | _ => exact absurd (show false = true from hs) Bool.false_ne_true
  | int i =>
    obtain ⟨t, rfl⟩ := rx
    cases y with
    | non => cases ry; exact PySem.EqNone.eq_int_none (fin_bl I q (by simp))
    | int j => obtain ⟨t', rfl⟩ := ry; exact eq_int (fin_bl I q dec_int)
    | str j => obtain ⟨t', rfl⟩ := ry; exact PySem.EqMixed.eq_int_str (fin_bl I q (by simp))
    | _ => exact absurd (show false = true from hs) Bool.false_ne_true
  | str i =>
    obtain ⟨t, rfl⟩ := rx
    cases y with
    | non => cases ry; exact PySem.EqNone.eq_str_none (fin_bl I q (by simp))
    | bl j => cases ry; exact PySem.EqMixed.eq_str_bool (fin_bl I q (by simp))
    | int j => obtain ⟨t', rfl⟩ := ry; exact PySem.EqMixed.eq_str_int (fin_bl I q (by simp))
    | str j => obtain ⟨t', rfl⟩ := ry; exact eq_str (fin_bl I q dec_str)
    | _ => exact absurd (show false = true from hs) Bool.false_ne_true
  | byt i =>
    obtain ⟨t, rfl⟩ := rx
    cases y with
    | byt j => obtain ⟨t', rfl⟩ := ry; exact PySem.W.eq_bytes (fin_bl I q dec_byt)
    | _ => exact absurd (show false = true from hs) Bool.false_ne_true
  | _ => cases y <;> exact absurd (show false = true from hs) Bool.false_ne_true
theorem op_ne : OpR X (compareOp .NotEq) rNe := by
  intro pins s σ H x y v u Q I rx ry h
  obtain ⟨hs, q⟩ := h
  cases x with
  | non =>
    cases rx
    cases y with
    | non => cases ry; exact PySem.EqNone.ne_none_none (fin_bl I q (by simp))
    | bl j => cases ry; exact PySem.EqNone.ne_none_bool (fin_bl I q (by simp))
    | int j => obtain ⟨t', rfl⟩ := ry; exact PySem.EqNone.ne_none_int (fin_bl I q (by simp))
    | str j => obtain ⟨t', rfl⟩ := ry; exact PySem.EqNone.ne_none_str (fin_bl I q (by simp))
    | _ => exact absurd (show false = true from hs) Bool.false_ne_true
  | bl i =>
    cases rx
    cases y with
    | non => cases ry; exact PySem.EqNone.ne_bool_none (fin_bl I q (by simp))
    | bl j => cases ry; exact ne_bool (fin_bl I q (congrArg not dec_bl))
    | str j => obtain ⟨t', rfl⟩ := ry; exact PySem.EqMixed.ne_bool_str (fin_bl I q (by simp))
    | _ => exact absurd (show false = true from hs) Bool.false_ne_true
  | int i =>
    obtain ⟨t, rfl⟩ := rx
    cases y with
    | non => cases ry; exact PySem.EqNone.ne_int_none (fin_bl I q (by simp))
    | int j => obtain ⟨t', rfl⟩ := ry; exact ne_int (fin_bl I q (congrArg not dec_int))
    | str j => obtain ⟨t', rfl⟩ := ry; exact PySem.EqMixed.ne_int_str (fin_bl I q (by simp))
    | _ => exact absurd (show false = true from hs) Bool.false_ne_true
  | str i =>
    obtain ⟨t, rfl⟩ := rx
    cases y with
    | non => cases ry; exact PySem.EqNone.ne_str_none (fin_bl I q (by simp))
    | bl j => cases ry; exact PySem.EqMixed.ne_str_bool (fin_bl I q (by simp))
    | int j => obtain ⟨t', rfl⟩ := ry; exact PySem.EqMixed.ne_str_int (fin_bl I q (by simp))
    | str j => obtain ⟨t', rfl⟩ := ry; exact ne_str (fin_bl I q (congrArg not dec_str))
    | _ => exact absurd (show false = true from hs) Bool.false_ne_true
  | byt i =>
    obtain ⟨t, rfl⟩ := rx
    cases y with
    | byt j => obtain ⟨t', rfl⟩ := ry; exact PySem.W.ne_bytes (fin_bl I q (congrArg not dec_byt))
    | _ => exact absurd (show false = true from hs) Bool.false_ne_true
  | _ => cases y <;> exact absurd (show false = true from hs) Bool.false_ne_true

theorem op_lt : OpR X (compareOp .Lt) (rI0 fun i j => .bl (decide (i < j))) := opB0 fun _ _ _ _ _ _ _ q => lt_int q
theorem op_le : OpR X (compareOp .LtE) (rI0 fun i j => .bl (decide (i ≤ j))) := opB0 fun _ _ _ _ _ _ _ q => le_int q
theorem op_gt : OpR X (compareOp .Gt) (rI0 fun i j => .bl (decide (j < i))) := opB0 fun _ _ _ _ _ _ _ q => gt_int q
theorem op_ge : OpR X (compareOp .GtE) (rI0 fun i j => .bl (decide (j ≤ i))) := opB0 fun _ _ _ _ _ _ _ q => ge_int q
theorem op_lt_str : OpR X (compareOp .Lt) (fun x y H Q => ∃ i j, x = .str i ∧ y = .str j ∧ Q (.bl (decide (i.cps.toList < j.cps.toList))) H) := by
  intro pins s σ H x y v u Q I rx ry h
  obtain ⟨i, j, rfl, rfl, q⟩ := h
  obtain ⟨t, rfl⟩ := rx
  obtain ⟨t', rfl⟩ := ry
  exact lt_str (fin_bl I q rfl)
/-- the one string within the other -/
theorem op_in_str : OpR X (compareOp .In) (fun x y H Q => ∃ i j, x = .str i ∧ y = .str j ∧ Q (.bl (!(Builtin.Str.occurrences j i 0 j.length 1).isEmpty)) H) := by
  intro pins s σ H x y v u Q I rx ry h
  obtain ⟨i, j, rfl, rfl, q⟩ := h
  obtain ⟨t, rfl⟩ := rx
  obtain ⟨t', rfl⟩ := ry
  exact in_str (fin_bl I q rfl)


theorem op_notin_str : OpR X (compareOp .NotIn) (fun x y H Q => ∃ i j, x = .str i ∧ y = .str j ∧ Q (.bl (!(!(Builtin.Str.occurrences j i 0 j.length 1).isEmpty))) H) := by
  intro pins s σ H x y v u Q I rx ry h
  obtain ⟨i, j, rfl, rfl, q⟩ := h
  obtain ⟨t, rfl⟩ := rx
  obtain ⟨t', rfl⟩ := ry
  exact notIn_str (fin_bl I q rfl)
/-- is, is not of two objects that are tracked lists or instances -/
def isObj : HO → Bool
  | .lst _ => true
  | .ins _ _ _ => true
  | _ => false

/-- two rules for one operation: by cases -/
theorem OpR.or {f : Value → Value → Sem Value} {r r' : R2} (h : OpR X f r) (h' : OpR X f r') : OpR X f (fun x y H Q => r x y H Q ∨ r' x y H Q) := by
  intro pins s σ H x y v u Q I rx ry q
  rcases q with q | q
  · exact h pins s σ H x y v u Q I rx ry q
  · exact h' pins s σ H x y v u Q I rx ry q

theorem nomark (b : Expr) {op : CmpOp} (h : op ≠ .In := by decide) (h2 : op ≠ .NotIn := by decide) : behindInMarks op b = false := by
  have e1 : (op == CmpOp.In) = false := by cases op <;> first | rfl | exact absurd rfl h
  have e2 : (op == CmpOp.NotIn) = false := by cases op <;> first | rfl | exact absurd rfl h2
  cases b <;> simp [behindInMarks, e1, e2]
/-- a comparison as a value; hm: nomark b, or (for in, not in) by with_unfolding_all rfl -/
theorem pe_cmpR {op : CmpOp} {r : R2} (ho : OpR X (compareOp op) r) (ha : PE X a ta) (hb : PE X b tb) (hm : behindInMarks op b = false) : PE X (.Compare a [op] [b] pos) (tOp r ta tb) := by
  intro pins s σ H Q I h
  exact wpAny_Compare1 (binT ha hb I h fun v u s2 x y H2 I2 rx ry q => ho pins s2 σ H2 x y v u Q I2 rx ry q) hm
/-- a reading of a value as a test -/
def tTest (t : TE) : TT := fun σ H Q => t σ H fun x H' => ∃ k, x = .bl k ∧ Q k H'
theorem pt_cmpR {op : CmpOp} {r : R2} (ho : OpR X (compareOp op) r) (ha : PE X a ta) (hb : PE X b tb) (hm : behindInMarks op b = false) : PT X (.Compare a [op] [b] pos) (tTest (tOp r ta tb)) := by
  intro pins s σ H Q I h
  refine wpAny_isTrue_Compare1 (thn (ha pins s σ H _ I h) fun v s1 ⟨x, H1, I1, r1, q1⟩ => thn (hb pins s1 σ H1 _ I1 q1) fun u s2 ⟨y, H2, I2, r2, q2⟩ =>
    thn (ho pins s2 σ H2 x y v u _ I2 r1 r2 q2) fun c s3 ⟨z, H3, I3, r3, k, e, q3⟩ => ?_) hm
  subst e
  cases r3
  exact wpAny_truthy_bool ⟨H3, I3, q3⟩
/-- a op1 b op2 c -/
def tChain (r r' : R2) (ta tb tc : TE) : TE := fun σ H Q => ta σ H fun x H1 => tb σ H1 fun y H2 => r x y H2 fun z H3 => ∃ k, z = .bl k ∧
  (if k = true then tc σ H3 fun w' H4 => r' y w' H4 Q else Q (.bl false) H3)
theorem pe_chain {op op' : CmpOp} {r r' : R2} (ho : OpR X (compareOp op) r) (ho' : OpR X (compareOp op') r') (ha : PE X a ta) (hb : PE X b tb) (hc : PE X c tc)
    (hm : lastMarks [op, op'] [b, c] = false := by with_unfolding_all rfl) : PE X (.Compare a [op, op'] [b, c] pos) (tChain r r' ta tb tc) := by
  intro pins s σ H Q I h
  refine Compare_chain (thn (ha pins s σ H _ I h) fun v s1 ⟨x, H1, I1, r1, q1⟩ => chain_link (thn (hb pins s1 σ H1 _ I1 q1) fun u s2 ⟨y, H2, I2, r2, q2⟩ =>
    thn (ho pins s2 σ H2 x y v u _ I2 r1 r2 q2) fun d s3 ⟨z, H3, I3, r3, k, e, q3⟩ => ?_)) hm
  subst e
  cases r3
  refine wpAny_truthy_bool ?_
  cases k with
  | false => exact ite_ff ⟨.bl false, H3, I3, rfl, q3⟩
  | true => exact ite_tt (chain_last (thn (hc pins s3 σ H3 _ I3 q3) fun w' s4 ⟨z', H4, I4, r4, q4⟩ => ho' pins s4 σ H4 y z' u w' Q I4 r2 r4 q4))
theorem pt_chain {op op' : CmpOp} {r r' : R2} (ho : OpR X (compareOp op) r) (ho' : OpR X (compareOp op') r') (ha : PE X a ta) (hb : PE X b tb) (hc : PE X c tc)
    (hm : lastMarks [op, op'] [b, c] = false := by with_unfolding_all rfl) : PT X (.Compare a [op, op'] [b, c] pos) (tTest (tChain r r' ta tb tc)) := by
  intro pins s σ H Q I h
  refine isTrue_chain (thn (ha pins s σ H _ I h) fun v s1 ⟨x, H1, I1, r1, q1⟩ => test_link (thn (hb pins s1 σ H1 _ I1 q1) fun u s2 ⟨y, H2, I2, r2, q2⟩ =>
    thn (ho pins s2 σ H2 x y v u _ I2 r1 r2 q2) fun d s3 ⟨z, H3, I3, r3, k, e, q3⟩ => ?_)) hm
  subst e
  cases r3
  refine wpAny_truthy_bool ?_
  cases k with
  | false =>
    obtain ⟨k', e', q'⟩ := q3
    cases e'
    exact ite_ff ⟨H3, I3, q'⟩
  | true =>
    refine ite_tt (test_last (thn (hc pins s3 σ H3 _ I3 q3) fun w' s4 ⟨z', H4, I4, r4, q4⟩ => thn (ho' pins s4 σ H4 y z' u w' _ I4 r2 r4 q4) fun d' s5 ⟨z2, H5, I5, r5, k2, e2, q5⟩ => ?_))
    subst e2
    cases r5
    exact wpAny_truthy_bool ⟨H5, I5, q5⟩

/-! ### truth -/
/-- a value's truth by the abstract heap -/
def TruV (K : PySem.W.Frag) (x : V) (H : Hp) (k : Bool) : Prop :=
  match x with
  | .non => k = false
  | .bl b => k = b
  | .int i => k = (i != 0)
  | .str y => y.length ≤ sizeLine ∧ k = ((y.length : Int) != 0)
  | .byt y => y.size ≤ sizeLine ∧ k = ((y.size : Int) != 0)
  | .ref p => (∃ xs, SqL K H p xs ∧ k = !xs.isEmpty) ∨ (∃ xs, SqT K H p xs ∧ k = !xs.isEmpty) ∨ ∃ kvs, H p = some (.dK kvs) ∧ k = !kvs.isEmpty
  | _ => False
theorem line63 : (sizeLine : Nat) < 2 ^ 63 := by rw [sizeLine_eq]; decide

/-! ### strs and bytes -/
theorem op_add_str : OpR X (binaryOp .Add) (fun x y H Q => ∃ i j, x = .str i ∧ y = .str j ∧ i.length + j.length ≤ sizeLine ∧ Q (.str (i ++ j)) H) := by
  intro pins s σ H x y v u Q I rx ry h
  obtain ⟨i, j, rfl, rfl, hz, q⟩ := h
  obtain ⟨t, rfl⟩ := rx
  obtain ⟨t', rfl⟩ := ry
  exact add_str (fun t' tk => ⟨.str (i ++ j), H, I.tok _, ⟨_, rfl⟩, q⟩) hz

def PlainIxT (b : Expr) : Prop := ∀ o i, subscripted b false o i = operate [o, i] (getItem o i)

/-! ### scalar builtins, by CallR -/
theorem vals1 {x : V} {us : List Value} (r : Vals [x] us) : ∃ u, us = [u] ∧ RelV x u := by
  cases r with
  | cons r1 r2 => cases r2; exact ⟨_, rfl, r1⟩
theorem vals2 {x y : V} {us : List Value} (r : Vals [x, y] us) : ∃ u w', us = [u, w'] ∧ RelV x u ∧ RelV y w' := by
  cases r with
  | cons r1 r2 =>
    cases r2 with
    | cons r3 r4 => cases r4; exact ⟨_, _, rfl, r1, r3⟩
/-- len of a str, a bytes, a list, a tuple -/
def LenV (K : PySem.W.Frag) (x : V) (H : Hp) (n : Nat) : Prop :=
  match x with
  | .str y => y.length ≤ sizeLine ∧ n = y.length
  | .byt y => y.size ≤ sizeLine ∧ n = y.size
  | .ref p => (∃ xs, SqL K H p xs ∧ n = xs.length) ∨ ∃ xs, SqT K H p xs ∧ n = xs.length
  | _ => False
end
end L2

namespace L2
open PySem PySem.Spec PyProof.Rows

/-! ### an instance, its attributes a map -/
structure ObjM (h : Heap) (x dx C : Addr) (mA : Str → Option Value) : Prop where
  obj : h.get? x = some (PySem.W.instObj C dx)
  ns : h.Ns1 dx mA
  ne : dx ≠ x

theorem lookIn_ns {h : Heap} {dx : Addr} {mA : Str → Option Value} (n : h.Ns1 dx mA) : ∃ od, h.get? dx = some od ∧ ∀ name, PySem.W.lookIn name od = some (mA name) := by
  obtain ⟨o, es, ep, ho, hd, hk, _, hm⟩ := n
  refine ⟨o, ho, fun name => ?_⟩
  have e := hm name
  unfold nsFind findBy at e
  rw [← Array.find?_toList] at e
  unfold PySem.W.lookIn
  rw [hd]
  dsimp only
  split
  · rename_i y q
    rw [q] at e
    exact congrArg some e
  · rename_i q
    rw [q] at e
    have a : es.toList.any (·.refKey) = false := by
      rw [List.any_eq_false]
      intro y hy
      obtain ⟨z, t, hkey⟩ := hk y (Array.mem_toList_iff.mp hy)
      simp [DictEntry.refKey, hkey]
    have a' : ¬ es.toList.any (·.refKey) = true := by rw [a]; exact Bool.false_ne_true
    rw [if_neg a']
    exact congrArg some e

theorem ObjM.look {h : Heap} {x dx C : Addr} {mA : Str → Option Value} (I : ObjM h x dx C mA) : ∃ od, PySem.W.InstAt h x (PySem.W.instObj C dx) C (some od) ∧ ∀ name, PySem.W.lookIn name od = some (mA name) :=
  let ⟨od, ho, hl⟩ := lookIn_ns I.ns
  ⟨od, ⟨I.obj, rfl, rfl, ho⟩, hl⟩

section
variable {prog : Program} {w : World} {A : Around} {E : Value → Shared → Prop} {s : Shared} {K : PySem.W.Frag} {x dx C f : Addr} {mA : Str → Option Value} {name : Str} {v : Value}





end

/-! ### the attributes as a list of pairs -/
def putF (f : Str) (v : V) : List (Str × V) → List (Str × V)
  | [] => [(f, v)]
  | (g, x) :: r => if g = f then (g, v) :: r else (g, x) :: putF f v r

theorem RelO.some_of {v : V} {o : Option Value} (r : RelO (some v) o) : ∃ u, o = some u ∧ RelV v u := by
  cases o with
  | none => exact (show False from r).elim
  | some u => exact ⟨u, rfl, r⟩

section
variable {P : Program} {w : World} {H H' : Hp} {h h' : Heap} {a C dx : Addr} {fs fs' : List (Str × V)}
theorem ins_get (hok : HOk P w H h) (e : H a = some (.ins C dx fs)) : ∃ mA, ObjM h a dx C mA ∧ (∀ f, RelO (fs.lookup f) (mA f)) ∧ PySem.Within mA (fs.map (·.1)) ∧ fs.length ≤ 1000 ∧ H dx = some (.own a) := by
  obtain ⟨d, z, ne, ob, mA, n, r, q⟩ := (show ObjOk P w H h a (.ins C dx fs) from hok a _ e)
  exact ⟨mA, ⟨ob, n, ne⟩, r, q, z, d⟩
end

/-! ### what of the text a class must have -/
structure Cls (K : PySem.W.Frag) (C : Addr) : Prop where
  pg : PySem.W.plainGet K C Str.empty = true
  hd : PySem.W.hasDictIn K C = true
  po : PySem.W.plainOver K C = true
  sa : PySem.W.findIn K (.ref C) "__setattr__" = some (some (.builtin "object.__setattr__"))
theorem Cls.get {K : PySem.W.Frag} {C : Addr} (c : Cls K C) (f : Str) : PySem.W.plainGet K C f = true := c.pg
/-- no class of it has the name -/
def NoAttr (K : PySem.W.Frag) (C : Addr) (f : Str) : Prop := PySem.W.findIn K (.ref C) f = some none
/-- a constant of the class -/
structure Con (K : PySem.W.Frag) (C : Addr) (f : Str) (v : V) (u : Value) : Prop where
  at_ : PySem.W.findIn K (.ref C) f = some (some u)
  rel : RelV v u
  get : PySem.W.specialIn K u "__get__" = some none
  cp : PySem.W.copiedNames.contains f = false
/-- a method: a plain def of the class or of one above it -/
structure Meth (K : PySem.W.Frag) (C : Addr) (m : Str) (f : Addr) : Prop where
  at_ : PySem.W.findIn K (.ref C) m = some (some (.ref f))
  fn : PySem.W.isFn K (.ref f) = true
  kp : PySem.W.keepIn K (.ref f) = true

section
variable {X : Cx} {pins : List (Addr × Obj)} {σ : St} {H : Hp} {s : Shared} {a C dx : Addr} {fs : List (Str × V)} {f : Str} {v : V} {A : Around} {E : Value → Shared → Prop}





/-- a new instance, tracked, without attributes -/
theorem Inv.made (I : Inv X pins σ H s) : Inv X pins σ (upd (upd H s.heap.objs.size (.own (s.heap.objs.size + 1))) (s.heap.objs.size + 1) (.ins C s.heap.objs.size []))
    { s with heap := (s.heap.push PySem.W.emptyDict).push (PySem.W.instObj C s.heap.objs.size) } := by
  have e1 : (s.heap.push PySem.W.emptyDict).get? s.heap.objs.size = some PySem.W.emptyDict := Heap.get?_push_size s.heap rfl
  have e2 : ((s.heap.push PySem.W.emptyDict).push (PySem.W.instObj C s.heap.objs.size)).get? (s.heap.objs.size + 1) = some (PySem.W.instObj C s.heap.objs.size) := by
    have := Heap.get?_push_size (s.heap.push PySem.W.emptyDict) (o := PySem.W.instObj C s.heap.objs.size) rfl
    rwa [Heap.size_push] at this
  have e3 : (s.heap.push PySem.W.emptyDict).Ns s.heap.objs.size (fun _ => none) := ⟨PySem.W.emptyDict, #[], _, e1, rfl, (fun e he => absurd he (by simp)), fun _ => rfl⟩
  have I1 := I.laid (a := s.heap.objs.size) (o := .own (s.heap.objs.size + 1)) (h' := s.heap.push PySem.W.emptyDict) (t' := s.toks) (fun b u q => Heap.get?_push_of_some _ q) (Nat.le_refl _) ⟨_, e1⟩
  refine I1.laid (a := s.heap.objs.size + 1) (o := .ins C s.heap.objs.size []) (t' := s.toks) (fun b u q => Heap.get?_push_of_some _ q) (Nat.le_of_eq (Heap.size_push _ _)) ?_
  have ne : s.heap.objs.size ≠ s.heap.objs.size + 1 := Nat.ne_of_lt (Nat.lt_succ_self _)
  refine ⟨by rw [upd_ne ne, upd_same], Nat.zero_le _, ne, e2, fun _ => none, (Heap.Ns1.of_empty e3).at fun o q => Heap.get?_push_of_some _ q, fun _ => True.intro, fun y hy => absurd rfl hy⟩

end

/-! ### readings and rules -/
/-- e.f, an attribute of the instance -/
def tFld (K : PySem.W.Frag) (ta : TE) (f : Str) : TE := fun σ H Q => ta σ H fun x H1 => ∃ a C dx fs v, x = .ref a ∧ H1 a = some (.ins C dx fs) ∧ Cls K C ∧ NoAttr K C f ∧ fs.lookup f = some v ∧ Q v H1
/-- e.f, a constant of the class -/
def tCon (K : PySem.W.Frag) (ta : TE) (f : Str) : TE := fun σ H Q => ta σ H fun x H1 => ∃ a C dx fs v u, x = .ref a ∧ H1 a = some (.ins C dx fs) ∧ Cls K C ∧ Con K C f v u ∧ fs.lookup f = none ∧ Q v H1
/-- e.f = value -/
def sFld (K : PySem.W.Frag) (ta tv : TE) (f : Str) : TS := fun D σ H => tv σ H fun y H1 => ta σ H1 fun x H2 => ∃ a C dx fs, x = .ref a ∧ H2 a = some (.ins C dx fs) ∧ Cls K C ∧ NoAttr K C f ∧ fs.length < 1000 ∧
  D.nx σ (upd H2 a (.ins C dx (putF f y fs)))
/-- an augmented operator on two values -/
def InOp (X : Cx) (op : Operator) (rd : V → V → Hp → VK → Prop) : Prop :=
  ∀ (pins : List (Addr × Obj)) (s : Shared) (σ : St) (H : Hp) (x y : V) (u v : Value) (Q : VK), Inv X pins σ H s → RelV x u → RelV y v → rd x y H Q → wpAny (model X.prog X.w) X.A (inplaceOp op u v) (EP X pins σ Q) X.xe s
/-- e.f op= value -/
def sFldAug (K : PySem.W.Frag) (ta tv : TE) (rd : V → V → Hp → VK → Prop) (f : Str) : TS := fun D σ H => ta σ H fun x H1 => ∃ a C dx fs v, x = .ref a ∧ H1 a = some (.ins C dx fs) ∧ Cls K C ∧ NoAttr K C f ∧ fs.lookup f = some v ∧
  tv σ H1 fun y H2 => rd v y H2 fun z H3 => ∃ dx' fs', H3 a = some (.ins C dx' fs') ∧ fs'.length < 1000 ∧ D.nx σ (upd H3 a (.ins C dx' (putF f z fs')))

section
variable {X : Cx} {o e value : Expr} {f : Str} {pos pos' tpos : Pos} {ta tv : TE}
def rAdd : V → V → Hp → VK → Prop := fun x y H Q => ∃ i j, x = .int i ∧ y = .int j ∧ Q (.int (i + j)) H
def rSub : V → V → Hp → VK → Prop := fun x y H Q => ∃ i j, x = .int i ∧ y = .int j ∧ Q (.int (i - j)) H

end

/-! ### isinstance -/
section
variable {X : Cx} {pins : List (Addr × Obj)} {σ : St} {H : Hp} {s : Shared} {A : Around} {E : Value → Shared → Prop} {Q : Value → Shared → Prop} {c : Value} {b : Bool}
/-- the type of a value, as the fragment's deciders take it; for an instance its class -/
inductive TyOf (K : PySem.W.Frag) (H : Hp) : V → Value → Prop where
  | non : TyOf K H .non (.type "NoneType")
  | bl (x : Bool) : TyOf K H (.bl x) (.type "bool")
  | int (i : Int) : TyOf K H (.int i) (.type "int")
  | str (x : Str) : TyOf K H (.str x) (.type "str")
  | flt (x : UInt64) : TyOf K H (.flt x) (.type "float")
  | lst {a : Addr} {xs : List V} (e : H a = some (.lst xs)) : TyOf K H (.ref a) (.type "list")
  | frz {a : Addr} {o : Obj} {xs : List V} (e : H a = some (.frz o (.lst xs))) : TyOf K H (.ref a) (.type "list")
  | tup {a : Addr} {xs : List V} (e : H a = some (.tup xs)) : TyOf K H (.ref a) (.type "tuple")
  | dK {a : Addr} {kvs : List (Key × V)} (e : H a = some (.dK kvs)) : TyOf K H (.ref a) (.type "dict")
  | dT {a : Addr} {kvs : List (List Key × V)} (e : H a = some (.dT kvs)) : TyOf K H (.ref a) (.type "dict")
  | ins {a C dx : Addr} {fs : List (Str × V)} (e : H a = some (.ins C dx fs)) (cl : Cls K C) (ha : PySem.W.findIn K (.ref C) "__class__" = some (some (.builtin "object.__class__")))
      (hn : PySem.W.specialIn K (.builtin "object.__class__") "__get__" = some (some (.builtin "getset_descriptor.__get__"))) (htk : PySem.W.takesIn K (.builtin "object.__class__") = some true)
      (hm : PySem.W.mroIn K C (.type "object") = some true) : TyOf K H (.ref a) (.ref C)
/-- isinstance(x, c) for one class c, a built-in or an own one: kitOne's answer -/
theorem isinst_ok {x : V} {u t : Value} (I : Inv X pins σ H s) (rx : RelV x u) (ty : TyOf X.K H x t) (e : PySem.W.kitOne X.K t c = some b) (h : ∀ tk, Q (.bool b) { s with toks := tk }) :
    wpAny (model X.prog X.w) A (call (.builtin "isinstance") [u, c]) Q E s := by
  cases ty with
  | non => cases (show u = Value.none from rx); exact PySem.W.kia_one PySem.W.kitx_none I.kIn True.intro e (fun z => nomatch z) h
  | bl y => cases (show u = Value.bool y from rx); exact PySem.W.kia_one PySem.W.kitx_bool I.kIn True.intro e (fun z => nomatch z) h
  | int i => obtain ⟨t, q⟩ := (show ∃ t, u = Value.int i t from rx); cases q; exact PySem.W.kia_one PySem.W.kitx_int I.kIn True.intro e (fun z => nomatch z) h
  | str y => obtain ⟨t, q⟩ := (show ∃ t, u = Value.str y t from rx); cases q; exact PySem.W.kia_one PySem.W.kitx_str I.kIn True.intro e (fun z => nomatch z) h
  | flt y => obtain ⟨t, q⟩ := (show ∃ t, u = Value.float y t from rx); cases q; exact PySem.W.kia_one PySem.W.kitx_float I.kIn True.intro e (fun z => nomatch z) h
  | @lst a xs ea =>
    cases (show u = Value.ref a from rx)
    obtain ⟨_, _, n, _, h1⟩ := (show ObjOk X.prog X.w H s.heap a (.lst xs) from I.hok a _ ea)
    exact PySem.W.kia_one PySem.W.kitx_list I.kIn ⟨_, h1, rfl⟩ e (fun z => nomatch z) h
  | @frz a ob xs ea =>
    cases (show u = Value.ref a from rx)
    obtain ⟨_, _, _, n, _, h1⟩ := (show ObjOk X.prog X.w H s.heap a (.frz ob (.lst xs)) from I.hok a _ ea)
    exact PySem.W.kia_one PySem.W.kitx_list I.kIn ⟨_, h1, rfl⟩ e (fun z => nomatch z) h
  | @tup a xs ea =>
    cases (show u = Value.ref a from rx)
    obtain ⟨_, _, _, p⟩ := (show ObjOk X.prog X.w H s.heap a (.tup xs) from I.hok a _ ea)
    obtain ⟨o, h1, h2, _⟩ := p
    exact PySem.W.kia_one PySem.W.kitx_tuple I.kIn ⟨o, h1, h2.1⟩ e (fun z => nomatch z) h
  | @dK a kvs ea =>
    cases (show u = Value.ref a from rx)
    obtain ⟨_, _, vs, _, p⟩ := (show ObjOk X.prog X.w H s.heap a (.dK kvs) from I.hok a _ ea)
    obtain ⟨o, es, ep, h1, h2, _⟩ := p
    exact PySem.W.kia_one PySem.W.kitx_dict I.kIn ⟨o, h1, h2.1⟩ e (fun z => nomatch z) h
  | @dT a kvs ea =>
    cases (show u = Value.ref a from rx)
    obtain ⟨_, _, xs, _, o, es, ep, h1, h2, _⟩ := (show ObjOk X.prog X.w H s.heap a (.dT kvs) from I.hok a _ ea)
    exact PySem.W.kia_one PySem.W.kitx_dict I.kIn ⟨o, h1, h2.1⟩ e (fun z => nomatch z) h
  | @ins a C dx fs ea cl ha hn htk hm =>
    cases (show u = Value.ref a from rx)
    obtain ⟨mA, O, _⟩ := ins_get I.hok ea
    obtain ⟨od, J, _⟩ := O.look
    exact PySem.W.kia_one (PySem.W.kitx_own (cl.get _) cl.hd ha hn htk hm) I.kIn J e (fun z => nomatch z) h
end
end L2

namespace L2
open PySem PySem.Spec PyProof.Rows

/-! ### room -/
structure Room (k : Nat) (A : Around) : Prop where
  hd : A.handled = none
  dp : A.depth + 3 * k + 5 < recursionLimit
  un : A.units + 16 * k + 200 < cLine
theorem Room.mono {j k : Nat} {A : Around} (r : Room k A) (h : j ≤ k) : Room j A := ⟨r.hd, by have := r.dp; omega, by have := r.un; omega⟩
theorem Room.deeper {k : Nat} {A : Around} (r : Room (k + 1) A) (env : Env) : Room k (A.deeper env) :=
  ⟨r.hd, by have := r.dp; show A.depth + 1 + 3 * k + 5 < _; omega, by have := r.un; show A.units + 3 + 16 * k + 200 < _; omega⟩
theorem Room.in1 {k : Nat} {A : Around} (r : Room (k + 1) A) : Room k A.in1 :=
  ⟨r.hd, by have := r.dp; show A.depth + 3 * k + 5 < _; omega, by have := r.un; show A.units + 1 + 16 * k + 200 < _; omega⟩
theorem Room.depth {k : Nat} {A : Around} (r : Room k A) : A.depth < recursionLimit := by have := r.dp; omega
theorem Room.units {k : Nat} {A : Around} (r : Room k A) : A.units + 64 < cLine := by have := r.un; omega

/-! ### argument lists and displays -/
def tNil : TA := fun _ H Q => Q [] H
def tCons (ta : TE) (tr : TA) : TA := fun σ H Q => ta σ H fun x H1 => tr σ H1 fun xs H2 => Q (x :: xs) H2
section
variable {X : Cx} {e : Expr} {es : List Expr} {te : TE} {t : TA} {pos : Pos}
theorem pa_nil : PA X [] tNil := fun _ _ _ _ H Q I h => Calls.spliced_nil ⟨[], H, I, .nil, h⟩
theorem pa_cons (ha : PE X e te) (hr : PA X es t) (hs : starEach (e :: es) X.env = (false, eval e X.env) :: starEach es X.env := by rfl) : PA X (e :: es) (tCons te t) := by
  intro pos pins s σ H Q I h
  rw [hs]
  show wpAny _ _ (spliced ((false, eval e X.env) :: backTo pos (starEach es X.env))) _ _ s
  refine Calls.spliced_cons (thn (ha pins s σ H _ I h) fun u s1 ⟨x, H1, I1, r1, q1⟩ => ?_)
  exact thn (hr pos pins s1 σ H1 _ I1 q1) fun us s2 ⟨xs, H2, I2, r2, q2⟩ => ⟨x :: xs, H2, I2, .cons r1 r2, q2⟩

/-- a tuple, a list of written items -/
def tTup (t : TA) : TE := fun σ H Q => t σ H fun xs H1 => xs.length ≤ sizeLine ∧ ∀ p, H1 p = none → Q (.ref p) (upd H1 p (.tup xs))
def tLst (t : TA) : TE := fun σ H Q => t σ H fun xs H1 => xs.length ≤ sizeLine ∧ ∀ p, H1 p = none → Q (.ref p) (upd H1 p (.lst xs))
theorem pe_tup {x1} (h : PA X es t) : PE X (.Tuple es x1 pos) (tTup t) := by
  intro pins s σ H Q I hq
  refine wpAny_Tuple_spliced (thn (h pos pins s σ H _ I hq) fun us s1 ⟨xs, H1, I1, r, z, q⟩ => ⟨by rw [← r.length]; exact z, ?_⟩)
  have hf : H1 s1.heap.objs.size = none := I1.hok.fresh (Nat.le_refl _)
  refine ⟨.ref s1.heap.objs.size, upd H1 s1.heap.objs.size (.tup xs), I1.laid (t' := s1.toks) (fun b u e => Heap.get?_push_of_some _ e) (Nat.le_refl _) ?_, rfl, q _ hf⟩
  exact ⟨z, us, r, TupN.new _ _⟩
theorem pe_lst (h : PA X es t) : PE X (.List es pos) (tLst t) := by
  intro pins s σ H Q I hq
  refine wpAny_List_spliced (thn (h pos pins s σ H _ I hq) fun us s1 ⟨xs, H1, I1, r, z, q⟩ => ⟨by rw [← r.length]; exact z, ?_⟩)
  have hf : H1 s1.heap.objs.size = none := I1.hok.fresh (Nat.le_refl _)
  refine ⟨.ref s1.heap.objs.size, upd H1 s1.heap.objs.size (.lst xs), I1.laid (t' := s1.toks) (fun b u e => Heap.get?_push_of_some _ e) (Nat.le_refl _) ?_, rfl, q _ hf⟩
  exact ⟨z, us, 0, r, Heap.get?_push_size _ rfl⟩
end

/-! ### what a def promises -/
/-- a def's promise: the bound arguments in the parameters' order, the heap, the wanted end, the wanted exception -/
abbrev Sp := List V → Hp → VK → XK → Prop
/-- how an exception lies behind a call (file 08 gives it): the callers' frames, abstract heap and state ahead of the call, the wish, the exception, the state -/
abbrev CXT := List Env → Hp → Shared → XK → Value → Shared → Prop

/-- the state at a call -/
structure Env0 (P : Program) (w : World) (K : PySem.W.Frag) (mg : Str → Option Value) (base : Heap) (A : Around) (outer : List Env) (s : Shared) (H : Hp) : Prop where
  frames : A.frames = some outer
  mod : Mod K mg base
  bs : ∀ b o, base.get? b = some o → s.heap.get? b = some o ∧ H b = none
  bsz : base.objs.size ≤ s.heap.objs.size
  funs : s.heap.FunFrames base outer
  frf : ∀ b ∈ frs outer, H b = none
  hok : HOk P w H s.heap
  bare : AllBare s.gens
/-- a call's end -/
def CE (outer : List Env) (P : Program) (w : World) (H : Hp) (s : Shared) (Q : VK) (u : Value) (s' : Shared) : Prop :=
  ∃ v H', s'.os = s.os ∧ AllBare s'.gens ∧ Un (frs outer) [] H H' s.heap s'.heap ∧ HOk P w H' s'.heap ∧ RelV v u ∧ Q v H'
def CR (CX : CXT) (outer : List Env) (P : Program) (w : World) (H : Hp) (s : Shared) (Q : VK) (E : XK) (r : Result) (s' : Shared) : Prop :=
  match r with
  | .ok (.ret u) => CE outer P w H s Q u s'
  | .ok _ => False
  | .error e => CX outer H s E e s'
structure FnOk (P : Program) (w : World) (K : PySem.W.Frag) (mg : Str → Option Value) (base : Heap) (CX : CXT) (k : Nat) (f : Addr) (fd : FuncData) (ps : List Str) (sp : Sp) : Prop where
  len : ∀ vs H Q E, sp vs H Q E → vs.length = ps.length
  run : ∀ (A : Around) (outer : List Env) (s : Shared) (H : Hp) (args : Args) (us : List Value) (vs : List V) (Q : VK) (E : XK), Room k A → Env0 P w K mg base A outer s H → BindsTo s fd args (ps.zip us) → Vals vs us → sp vs H Q E →
    codeAny (model P w) A (.call (.ref f) args) (CR CX outer P w H s Q E) s
theorem FnOk.mono {P : Program} {w : World} {K : PySem.W.Frag} {mg : Str → Option Value} {base : Heap} {CX : CXT} {j k : Nat} {f : Addr} {fd : FuncData} {ps : List Str} {sp : Sp} (F : FnOk P w K mg base CX j f fd ps sp) (h : j ≤ k) :
    FnOk P w K mg base CX k f fd ps sp := ⟨F.len, fun A outer s H args us vs Q E hr => F.run A outer s H args us vs Q E (hr.mono h)⟩
/-- a weaker promise -/
theorem FnOk.imp {P : Program} {w : World} {K : PySem.W.Frag} {mg : Str → Option Value} {base : Heap} {CX : CXT} {k : Nat} {f : Addr} {fd : FuncData} {ps : List Str} {sp sp' : Sp} (F : FnOk P w K mg base CX k f fd ps sp)
    (h : ∀ vs H Q E, sp' vs H Q E → sp vs H Q E) : FnOk P w K mg base CX k f fd ps sp' :=
  ⟨fun vs H Q E q => F.len vs H Q E (h _ _ _ _ q), fun A outer s H args us vs Q E hr he hb hv hs => F.run A outer s H args us vs Q E hr he hb hv (h _ _ _ _ hs)⟩

theorem Env0.in1 {P : Program} {w : World} {K : PySem.W.Frag} {mg : Str → Option Value} {base : Heap} {A : Around} {outer : List Env} {s : Shared} {H : Hp} (e : Env0 P w K mg base A outer s H) :
    Env0 P w K mg base A.in1 outer s H := ⟨e.frames, e.mod, e.bs, e.bsz, e.funs, e.frf, e.hok, e.bare⟩

section
variable {X : Cx} {pins : List (Addr × Obj)} {σ : St} {H : Hp} {s s' : Shared}
/-- from a body: what a callee wants -/
theorem Inv.env0 (I : Inv X pins σ H s) : Env0 X.prog X.w X.K X.mg X.base X.A X.stack s H :=
  ⟨I.ok.frames, I.ok.mod, I.bs, Nat.le_trans I.ok.bsz I.sz, I.stack, I.stkFree, I.hok, I.bare⟩
/-- behind a call -/
theorem Inv.after {Q : VK} {u : Value} (I : Inv X pins σ H s) (h : CE X.stack X.prog X.w H s Q u s') : EP X pins σ Q u s' := by
  obtain ⟨v, H', os, bare, un, hok, r, q⟩ := h
  obtain ⟨hh, g, d, t, os'⟩ := s'
  obtain rfl : os' = s.os := os
  exact ⟨v, H', I.call (h' := hh) (g' := g) (d' := d) (t' := t) (ch := []) un hok bare (fun b z => absurd z (by simp)), r, q⟩
end

/-! ### calls -/
/-- f(..): the written arguments, then the defaults dvs; E: what is wanted of an exception -/
def tCall (sp : Sp) (dvs : List V) (E : XK) (t : TA) : TE := fun σ H Q => t σ H fun vs H1 => sp (vs ++ dvs) H1 Q E
/-- o.m(..) of an instance of the class at C -/
def tMeth (C : Addr) (m : Str) (sp : Sp) (dvs : List V) (E : XK) (ta : TE) (t : TA) : TE := fun σ H Q => ta σ H fun x H1 => ∃ a dx fs, x = .ref a ∧ H1 a = some (.ins C dx fs) ∧ fs.lookup m = none ∧
  t σ H1 fun vs H2 => sp (x :: (vs ++ dvs)) H2 Q E
/-- C(..): a new instance and its dict, then __init__ -/
def tMake (C : Addr) (sp : Sp) (dvs : List V) (E : XK) (t : TA) : TE := fun σ H Q => t σ H fun vs H1 => ∀ x dx, H1 x = none → H1 dx = none → dx ≠ x →
  sp (.ref x :: (vs ++ dvs)) (upd (upd H1 dx (.own x)) x (.ins C dx [])) (fun v H2 => v = .non ∧ Q (.ref x) H2) E

/-- how the parameters are bound: us the positional arguments, kw the keywords' values by name, ds the defaults that fill up -/
def Binds (K : PySem.W.Frag) (fd : FuncData) (ps : List Str) (ds : List Value) : Prop :=
  ∀ (s : Shared) (us : List Value), K.In s.heap → (us ++ ds).length = ps.length → BindsTo s fd ⟨us, []⟩ (ps.zip (us ++ ds))
/-- every parameter is given -/
theorem Binds.all {K : PySem.W.Frag} {fd : FuncData} {ps : List Str} (h : ∀ us : List Value, us.length = ps.length → bindArgs fd ⟨us, []⟩ = pure (ps.zip us)) : Binds K fd ps [] := fun s us _ hl => by
  rw [List.append_nil] at hl ⊢
  exact .of_eq (h us hl)

/-- an exception of a callee reaches what this body wants of exceptions -/
def Passes (CX : CXT) (X : Cx) (E : XK) : Prop := ∀ (pins : List (Addr × Obj)) (σ : St) (H : Hp) (s : Shared) (e : Value) (s' : Shared), Inv X pins σ H s → CX X.stack H s E e s' → X.xe e s'

section
variable {X : Cx} {CX : CXT} {k : Nat} {f C : Addr} {fd : FuncData} {ps : List Str} {sp : Sp} {dvs : List V} {ds : List Value} {E : XK} {x m : Str} {p pos apos : Pos} {e o : Expr} {es : List Expr} {ta : TE} {t : TA}

/-- the callee runs -/
theorem run_fn {pins : List (Addr × Obj)} {σ : St} {H : Hp} {s : Shared} {Q : VK} {us : List Value} {vs : List V} (F : FnOk X.prog X.w X.K X.mg X.base CX k f fd ps sp) (hr : Room k X.A) (hb : Binds X.K fd ps ds) (hd : Vals dvs ds) (hx : Passes CX X E)
    (I : Inv X pins σ H s) (r : Vals vs us) (h : sp (vs ++ dvs) H Q E) : wpAny (model X.prog X.w) X.A (call (.ref f) us) (EP X pins σ Q) X.xe s := by
  have r2 : Vals (vs ++ dvs) (us ++ ds) := r.append hd
  have hl : (us ++ ds).length = ps.length := by rw [← r2.length]; exact F.len _ _ _ _ h
  refine wpAny_call (codeAny_mono (F.run X.A X.stack s H ⟨us, []⟩ (us ++ ds) (vs ++ dvs) Q E hr I.env0 (hb s us I.kIn hl) r2 h) fun r s' hq => ?_)
  cases r with
  | error e => exact hx pins σ H s e s' I hq
  | ok fl =>
    cases fl with
    | ret u => exact I.after hq
    | next => exact False.elim hq
    | brk => exact False.elim hq
    | cont => exact False.elim hq

theorem pe_call (F : FnOk X.prog X.w X.K X.mg X.base CX k f fd ps sp) (hr : Room k X.A) (hg : Gl X x) (hm : X.mg x = some (.ref f)) (hk : PySem.W.keepIn X.K (.ref f) = true) (hb : Binds X.K fd ps ds) (hd : Vals dvs ds) (hx : Passes CX X E)
    (ha : PA X (e :: es) t) (hdb : (x == ("__debug__" : Str)) = false := by decide) (he : starEach (e :: es) X.env = (false, eval e X.env) :: starEach es X.env := by rfl) (hpl : (backTo pos (starEach es X.env)).any (·.1) = false := by rfl) :
    PE X (.Call (.Name x p) (e :: es) [] pos) (tCall sp dvs E t) := by
  intro pins s σ H Q I h
  refine wpAny_Call_Name_kw (ld_glob I hg hm ?_ hdb)
  refine PySem.W.callWith_K (h₀ := X.base) I.ok.mod.kin hk (thn (ha pos pins s σ H _ I h) fun us s1 ⟨vs, H1, I1, r, q⟩ => ⟨I1.kIn, ?_⟩) he hpl
  exact run_fn F hr hb hd hx I1 r q


/-- what a class must have to be made -/
structure Mk (K : PySem.W.Frag) (C f : Addr) : Prop where
  makes : PySem.W.makesIn K C = true
  init : PySem.W.findIn K (.ref C) "__init__" = some (some (.ref f))
  fn : PySem.W.isFn K (.ref f) = true
  kp : PySem.W.keepIn K (.ref C) = true

end

/-! ### keywords -/
/-- the values of the keywords, from the left -/
def PK (X : Cx) (kws : List Keyword) (t : TA) : Prop :=
  ∀ (pos : Pos) (pins : List (Addr × Obj)) (s : Shared) (σ : St) (H : Hp) (Q : List V → Hp → Prop), Inv X pins σ H s → t σ H Q → wpAny (model X.prog X.w) X.A (evalAll ((backToKw pos (keywordEach kws X.env)).map (·.2))) (AP X pins σ Q) X.xe s
section
variable {X : Cx} {CX : CXT} {k : Nat} {f C : Addr} {fd : FuncData} {ps ks : List Str} {sp : Sp} {E : XK} {x m : Str} {p pos apos kpos : Pos} {e o : Expr} {es : List Expr} {kws : List Keyword} {te ta : TE} {t tk : TA} {nm : Option Str}

/-- how a call with keywords binds: g puts the positional values us and the keywords' values ws (names ks) in the parameters' order, defaults among them -/
structure KBinds (K : PySem.W.Frag) (fd : FuncData) (ps ks : List Str) (g : List Value → List Value → List Value) (gV : List V → List V → List V) : Prop where
  to : ∀ (s : Shared) (us ws : List Value), K.In s.heap → (g us ws).length = ps.length → BindsTo s fd ⟨us, ks.zip ws⟩ (ps.zip (g us ws))
  rel : ∀ {vs : List V} {us : List Value} {zs : List V} {ws : List Value}, Vals vs us → Vals zs ws → Vals (gV vs zs) (g us ws)
def tCallK (sp : Sp) (gV : List V → List V → List V) (E : XK) (t tk : TA) : TE := fun σ H Q => t σ H fun vs H1 => tk σ H1 fun zs H2 => sp (gV vs zs) H2 Q E
variable {g : List Value → List Value → List Value} {gV : List V → List V → List V}
end

/-! ### a def's body keeps its promise -/
/-- names: the parameters first -/
structure FnScope (N P : List Str) (sc : Scope) : Prop where
  kind : sc.kind = .function
  co : sc.isCoroutine = false
  gen : sc.isGenerator = false
  nd : N.Nodup
  pre : N.take P.length = P
  par : ∀ x ∈ P, sc.names.lookup x = some .local ∨ sc.names.lookup x = some .cell
  nofree : ∀ y ∈ sc.names, y.2 ≠ .free

theorem bindL_out {kindOf : Str → Option NameKind} {x : Str} : ∀ {binds : List (Str × Value)} {m : Str → Option Value}, (∀ v, (x, v) ∉ binds) → bindL kindOf binds m x = m x
  | [], _, _ => rfl
  | (n, v) :: r, m, h => by
    unfold bindL
    rw [bindL_out fun w hw => h w (List.mem_cons_of_mem _ hw)]
    split
    · have : x ≠ n := by rintro rfl; exact h v List.mem_cons_self
      simp [this]
    · rfl
theorem bindC_out {kindOf : Str → Option NameKind} {x : Str} : ∀ {binds : List (Str × Value)} {m : Str → Option Value}, (∀ v, (x, v) ∉ binds) → bindC kindOf binds m x = m x
  | [], _, _ => rfl
  | (n, v) :: r, m, h => by
    unfold bindC
    rw [bindC_out fun w hw => h w (List.mem_cons_of_mem _ hw)]
    split
    · rfl
    · have : x ≠ n := by rintro rfl; exact h v List.mem_cons_self
      simp [this]
theorem bindL_get {kindOf : Str → Option NameKind} {x : Str} {v : Value} : ∀ {P : List Str} {vs : List Value} {i : Nat} {m : Str → Option Value}, P.Nodup → P[i]? = some x → vs[i]? = some v → kindOf x = some .local →
    bindL kindOf (P.zip vs) m x = some v
  | [], _, _, _, _, h, _, _ => by simp at h
  | _ :: _, [], _, _, _, _, h, _ => by simp at h
  | p :: P, w :: vs, 0, m, nd, h1, h2, hk => by
    simp at h1 h2; subst h1; subst h2
    show bindL kindOf ((p, w) :: P.zip vs) m p = _
    unfold bindL
    rw [bindL_out fun v hv => (List.nodup_cons.mp nd).1 (List.of_mem_zip hv).1, if_pos hk]
    simp
  | p :: P, w :: vs, i + 1, m, nd, h1, h2, hk => by
    show bindL kindOf ((p, w) :: P.zip vs) m x = _
    unfold bindL
    exact bindL_get (i := i) (List.nodup_cons.mp nd).2 (by simpa using h1) (by simpa using h2) hk
theorem bindC_get {kindOf : Str → Option NameKind} {x : Str} {v : Value} : ∀ {P : List Str} {vs : List Value} {i : Nat} {m : Str → Option Value}, P.Nodup → P[i]? = some x → vs[i]? = some v → kindOf x ≠ some .local →
    bindC kindOf (P.zip vs) m x = some v
  | [], _, _, _, _, h, _, _ => by simp at h
  | _ :: _, [], _, _, _, _, h, _ => by simp at h
  | p :: P, w :: vs, 0, m, nd, h1, h2, hk => by
    simp at h1 h2; subst h1; subst h2
    show bindC kindOf ((p, w) :: P.zip vs) m p = _
    unfold bindC
    rw [bindC_out fun v hv => (List.nodup_cons.mp nd).1 (List.of_mem_zip hv).1, if_neg hk]
    simp
  | p :: P, w :: vs, i + 1, m, nd, h1, h2, hk => by
    show bindC kindOf ((p, w) :: P.zip vs) m x = _
    unfold bindC
    exact bindC_get (i := i) (List.nodup_cons.mp nd).2 (by simpa using h1) (by simpa using h2) hk

/-- the names' values at the entry -/
def start (N : List Str) (vs : List V) : St := vs.map some ++ List.replicate (N.length - vs.length) none

/-- the context of a def's body, at its entry; an exception leaves the frame, then lies as CX says -/
def cxOf (CX : CXT) (P : Program) (w : World) (K : PySem.W.Frag) (mg : Str → Option Value) (base : Heap) (N : List Str) (qual : Str) (scope : Scope) (f : Addr) (cd : Value) (A : Around) (outer : List Env) (s : Shared) (H : Hp) (E : XK) : Cx where
  prog := P
  w := w
  K := K
  mg := mg
  base := base
  A := A.deeper (envOfC qual scope s.heap.objs.size f cd)
  N := N
  s₀ := s
  H₀ := H
  env := envOfC qual scope s.heap.objs.size f cd
  outer := outer
  stack := envOfC qual scope s.heap.objs.size f cd :: outer
  ex := []
  calm := true
  fn := fun _ => true
  pn := []
  xe := fun e s' => wpAny (model P w) (A.deeper (envOfC qual scope s.heap.objs.size f cd)) (leaving (envOfC qual scope s.heap.objs.size f cd) e) (fun _ s'' => CX outer H s E e s'') (fun e' s'' => CX outer H s E e' s'') s'

theorem cell_has {sc : Scope} {n : Nat} {x : Str} (h : sc.names.lookup x = some .cell) : ∃ c, (cellsFrom n sc.names []).lookup x = some c := by
  have q := PySem.W.cellsFrom_some sc.names n [] (.inl h)
  exact Option.isSome_iff_exists.mp q

theorem inv_start {CX : CXT} {P : Program} {w : World} {K : PySem.W.Frag} {mg : Str → Option Value} {base : Heap} {N ps : List Str} {qual : Str} {scope : Scope} {f : Addr} {cd : Value} {A : Around} {outer : List Env} {s s1 : Shared} {H : Hp} {E : XK} {us : List Value} {vs : List V}
    (S : FnScope N ps scope) (hd : A.handled = none) (e0 : Env0 P w K mg base A outer s H) (hl : vs.length = ps.length) (r : Vals vs us)
    (x : InCallC s s.heap.objs.size (bindL (envOfC qual scope s.heap.objs.size f cd).kindOf (ps.zip us) fun _ => none) (cellsFrom (s.heap.objs.size + 1) scope.names []) (bindC (envOfC qual scope s.heap.objs.size f cd).kindOf (ps.zip us) fun _ => none) s1) :
    Inv (cxOf CX P w K mg base N qual scope f cd A outer s H E) [] (start N vs) H s1 := by
  have hpl : ps.length ≤ N.length := by have := congrArg List.length S.pre; rw [List.length_take] at this; omega
  obtain ⟨h1, tk, rfl, hk⟩ := x.done
  have noA : ∀ b : Addr, b ∉ (cxOf CX P w K mg base N qual scope f cd A outer s H E).ex := fun b z => absurd (show b ∈ ([] : List Addr) from z) (by simp)
  refine ⟨⟨e0.mod, S.kind, rfl, rfl, Nat.le_refl _, fun y z c h1 h2 => ?_, fun y hy => ?_, fun y c _ h => ?_, fun _ => hd, Around.frames_deeper e0.frames, .inr ⟨rfl, rfl⟩, fun b z => absurd z (noA b), e0.bs, e0.bsz, fun b _ _ => noA b, fun b z => absurd z (noA b), e0.funs, e0.frf⟩,
    rfl, e0.bare, Un.kept hk, ⟨_, x.toInCall.ns, fun i y v h1 h2 h3 => ?_⟩, fun y c h => ⟨_, x.cell y c h⟩, e0.hok.fresh (Nat.le_refl _), fun y c h => ?_, fun p hp => absurd (show p ∈ ([] : List (Addr × Obj)) from hp) (by simp), e0.hok.kept hk, ?_⟩
  · exact name_of_addr x.apart (PySem.mem_of_lookup h1) (PySem.mem_of_lookup h2)
  · have hy : scope.names.lookup y = some .cell ∨ scope.names.lookup y = some .free := hy
    rcases hy with hy | hy
    · exact cell_has hy
    · exact absurd rfl (S.nofree _ (PySem.mem_of_lookup hy))
  · exact Nat.le_of_lt (x.above y c (PySem.mem_of_lookup h))
  · have hi : i < vs.length := by
      unfold start at h2
      by_cases hi : i < vs.length
      · exact hi
      · rw [List.getElem?_append_right (by simpa using hi)] at h2
        rw [List.getElem?_replicate] at h2
        split at h2 <;> cases h2
    have ha : vs[i]? = some v := by
      unfold start at h2
      rw [List.getElem?_append_left (by simpa using hi), List.getElem?_map] at h2
      cases e : vs[i]? with
      | none => rw [e] at h2; cases h2
      | some a => rw [e] at h2; cases h2; rfl
    obtain ⟨u, hu, rv⟩ := r.get ha
    have hp : ps[i]? = some y := by
      rw [← S.pre, List.getElem?_take_of_lt (by omega)]; exact h1
    have ndP : ps.Nodup := by rw [← S.pre]; exact S.nd.sublist (List.take_sublist _ _)
    refine ⟨u, rv, ?_⟩
    rcases S.par y (List.mem_of_getElem? hp) with k | k
    · exact .inl ⟨k, bindL_get ndP hp hu k⟩
    · obtain ⟨c, e⟩ := cell_has (n := s.heap.objs.size + 1) k
      refine .inr ⟨.inl k, c, e, ?_⟩
      have q := x.cell y c e
      rw [bindC_get ndP hp hu (by show scope.names.lookup y ≠ _; rw [k]; decide)] at q
      exact q
  · exact e0.hok.fresh (Nat.le_of_lt (x.above y c (PySem.mem_of_lookup h)))
  · unfold start
    show _ = N.length
    rw [List.length_append, List.length_map, List.length_replicate]
    omega

/-- THE RULE: a def (or a method) of the text, by its body. The body's reading t is chosen for each entry; it is run at the parameters' values -/
theorem fn_of {CX : CXT} {P : Program} {w : World} {K : PySem.W.Frag} {mg : Str → Option Value} {base : Heap} {k : Nat} {f : Addr} {name qual : Str} {params : Arguments} {body : List Stmt} {scope : Scope} {dV kV doc pm cdv ct oc : Value} {an od : Option Addr}
    {osl : Array (Option Value)} {N ps : List Str} {sp : Sp} (lk : K.lookup f = some ⟨oc, od, .func (PySem.W.fnOf name qual params body scope dV kV doc pm an cdv ct), osl⟩) (hcd : PySem.W.codeIn K cdv qual = true) (S : FnScope N ps scope)
    (len : ∀ vs H Q E, sp vs H Q E → vs.length = ps.length)
    (hbody : ∀ (A : Around) (outer : List Env) (s : Shared) (H : Hp) (vs : List V) (Q : VK) (E : XK), Room k (A.deeper (envOfC qual scope s.heap.objs.size f cdv)) → sp vs H Q E →
      ∃ t, PSs (cxOf CX P w K mg base N qual scope f cdv A outer s H E) body t ∧ t { nx := fun _ H' => Q .non H', rt := Q } (start N vs) H) :
    FnOk P w K mg base CX (k + 1) f (PySem.W.fnOf name qual params body scope dV kV doc pm an cdv ct) ps sp := by
  refine ⟨len, fun A outer s H args us vs Q E hr e0 hb r hsp => ?_⟩
  have hl := len _ _ _ _ hsp
  have KX : K.In s.heap := e0.mod.kin.keeps fun b o e => (e0.bs b o e).1
  have lim : s.heap.NoLimit := e0.mod.nolimit.keeps fun b o e => (e0.bs b o e).1
  have hkind : ∀ y ∈ ps.zip us, scope.names.lookup y.1 = some .local ∨ (scope.names.lookup y.1 = some .cell ∧ ((cellsFrom (s.heap.objs.size + 1) scope.names []).lookup y.1).isSome = true) := fun ⟨n, v⟩ hy => by
    rcases S.par n (List.of_mem_zip hy).1 with q | q
    · exact .inl q
    · exact .inr ⟨q, PySem.W.cellsFrom_some _ _ _ (.inl q)⟩
  refine codeAny_call_function hr.depth (KX _ _ lk) rfl S.co S.gen rfl (PySem.W.codeRec_of KX hcd) (hb _ _ _ _ ?_)
  refine wpAny_newFunctionEnv_cells S.kind hkind fun env he s1 x => ?_
  subst he
  refine ⟨lim.keeps x.toInCall.keep, codeAny_func ?_⟩
  obtain ⟨t, ht, hq⟩ := hbody A outer s H vs Q E (hr.deeper _) hsp
  have I : Inv (cxOf CX P w K mg base N qual scope f cdv A outer s H E) [] (start N vs) H s1 := inv_start S hr.hd e0 hl r x
  refine wpAny_mono (ht [] s1 (start N vs) H _ I hq) (fun fl s' hs => ?_) fun e s' hs => hs
  have fin : ∀ {σ' : St} {H' : Hp} {v : V} {u : Value}, Inv (cxOf CX P w K mg base N qual scope f cdv A outer s H E) [] σ' H' s' → RelV v u → Q v H' → CE outer P w H s Q u s' :=
    fun {σ' H' v u} J rv q => ⟨v, H', J.os, J.bare, J.base, J.hok, rv, q⟩
  cases fl with
  | ret u =>
    obtain ⟨v, σ', H', J, rv, q⟩ := hs
    exact fin J rv q
  | next =>
    obtain ⟨σ', H', J, q⟩ := hs
    exact fin (v := V.non) (u := Value.none) J rfl q
  | brk =>
    obtain ⟨_, _, _, q⟩ := hs
    exact False.elim q
  | cont =>
    obtain ⟨_, _, _, q⟩ := hs
    exact False.elim q
end L2

namespace L2
open PySem PySem.Spec PyProof.Rows
section
variable {X : Cx} {x : Str} {p pos : Pos} {e : Expr} {es : List Expr} {t : TA} {id T : String} {r : List V → Hp → VK → Prop}

def tCB (r : List V → Hp → VK → Prop) (t : TA) : TE := fun σ H Q => t σ H fun vs H1 => r vs H1 Q
/-- f(e, ..), f a built-in function -/
theorem pe_callB (hc : CallR X (.builtin id) r) (hg : Gl X x) (hm : X.mg x = none) (hv : bootBuiltins x = some (.builtin id)) (ha : PA X (e :: es) t) (hn : x ≠ "__name__" := by decide) (hdb : (x == ("__debug__" : Str)) = false := by decide)
    (he : starEach (e :: es) X.env = (false, eval e X.env) :: starEach es X.env := by rfl) (hpl : (backTo pos (starEach es X.env)).any (·.1) = false := by rfl) : PE X (.Call (.Name x p) (e :: es) [] pos) (tCB r t) := by
  intro pins s σ H Q I h
  refine wpAny_Call_Name_kw (ld_blt I hg hm hv ?_ hn hdb)
  exact PyProof.Rows.callWith_builtin1 (thn (ha pos pins s σ H _ I h) fun us s1 ⟨vs, H1, I1, r1, q1⟩ => hc pins s1 σ H1 vs us Q I1 r1 q1) he hpl
/-- T(e, ..), T a built-in type -/
theorem pe_callTy (hc : CallR X (.type T) r) (hg : Gl X x) (hm : X.mg x = none) (hv : bootBuiltins x = some (.type T)) (ha : PA X (e :: es) t) (hn : x ≠ "__name__" := by decide) (hdb : (x == ("__debug__" : Str)) = false := by decide)
    (he : starEach (e :: es) X.env = (false, eval e X.env) :: starEach es X.env := by rfl) (hpl : (backTo pos (starEach es X.env)).any (·.1) = false := by rfl) : PE X (.Call (.Name x p) (e :: es) [] pos) (tCB r t) := by
  intro pins s σ H Q I h
  refine wpAny_Call_Name_kw (ld_blt I hg hm hv ?_ hn hdb)
  exact PyProof.Rows.callWith_type1 (thn (ha pos pins s σ H _ I h) fun us s1 ⟨vs, H1, I1, r1, q1⟩ => hc pins s1 σ H1 vs us Q I1 r1 q1) he hpl
end
end L2

namespace HT
open PySem PyProof.Rows

/-- t < u of tuples of ints -/
def lexLt : List Int → List Int → Bool
  | [], [] => false
  | [], _ :: _ => true
  | _ :: _, [] => false
  | x :: xs, y :: ys => if x = y then lexLt xs ys else decide (x < y)


section
open PySem.SeqAt
open PySem.AutoSeq1 (wpAny_loadPart')
open PySem.MeetsSeq PySem.MeetsSeq2 PySem.MeetsSeq3

end

section
variable {prog : Program} {w : World} {A : Around} {E : Value → Shared → Prop} {s : Shared}


/-- t + u, t not empty -/
theorem cat_tup {t b : Addr} {vs ws : List Value} {Q : Value → Shared → Prop} (ht : IsTup s.heap t vs.toArray) (hb : IsTup s.heap b ws.toArray) (hv : vs ≠ [])
    (h1 : ws = [] → Q (.ref t) s) (h2 : ws ≠ [] → Q (.ref s.heap.objs.size) { s with heap := s.heap.push { cls := .type "tuple", data := .seq (vs ++ ws).toArray } })
    (hsz : vs.length + ws.length ≤ sizeLine) : wpAny (model prog w) A (binaryOp .Add (.ref t) (.ref b)) Q E s := by
  obtain ⟨⟨cls, dd, data, sl⟩, ho, hc, n, hd⟩ := id ht
  obtain ⟨⟨cls2, dd2, data2, sl2⟩, ho2, hc2, n2, hd2⟩ := id hb
  simp only at hc hd hc2 hd2
  subst hc hd hc2 hd2
  have e : vs.toArray ++ ws.toArray = (vs ++ ws).toArray := by simp
  by_cases hw : ws = []
  · exact concat_meets ⟨_, ho, rfl⟩ ⟨_, ho2, rfl⟩ noFill_tuple_add seq_tuple_add PySem.F.slot_tuple_add PySem.F.entry_tuple_add (PySem.F.args_tuple_add_2 _ _)
      (tuple_addW1 t b vs.toArray ws.toArray n n2 dd dd2 sl sl2 (by simpa using hv) (by simp [hw])) ⟨ho, ho2, h1 hw⟩
  · refine concat_meets ⟨_, ho, rfl⟩ ⟨_, ho2, rfl⟩ noFill_tuple_add seq_tuple_add PySem.F.slot_tuple_add PySem.F.entry_tuple_add (PySem.F.args_tuple_add_2 _ _)
      (tuple_addW2 t b vs.toArray ws.toArray n n2 dd dd2 sl sl2 (by simpa using hv) (by simpa using hw) (by rw [List.size_toArray, List.size_toArray]; exact hsz)) ⟨ho, ho2, ?_⟩
    rw [e]
    exact h2 hw

/-! ### t[a:b], not the whole -/
/-- a slice's bound as a place among n (d where it is left out) -/
def sIx (n d : Nat) : Option Int → Nat
  | none => d
  | some v => if v < 0 then (v + (n : Int)).toNat else min v.toNat n
theorem sIx_none (n d : Nat) : sIx n d none = d := rfl
theorem sIx_nat (n d k : Nat) : sIx n d (some (k : Int)) = min k n := by
  show (if (k : Int) < 0 then ((k : Int) + (n : Int)).toNat else min (k : Int).toNat n) = min k n
  rw [if_neg (by omega), Int.toNat_natCast]
theorem sIx_le (n d : Nat) (hd : d ≤ n) (o : Option Int) : sIx n d o ≤ n := by
  cases o with
  | none => exact hd
  | some v =>
    show (if v < 0 then (v + (n : Int)).toNat else min v.toNat n) ≤ n
    by_cases hv : v < 0
    · rw [if_pos hv]; omega
    · rw [if_neg hv]; exact Nat.min_le_right _ _
theorem clip_eq (v : Int) (n d : Nat) : (if v < 0 then max (v + (n : Int)) 0 else min v (n : Int)) = ((sIx n d (some v) : Nat) : Int) := by
  show (if v < 0 then max (v + (n : Int)) 0 else min v (n : Int)) = (((if v < 0 then (v + (n : Int)).toNat else min v.toNat n) : Nat) : Int)
  by_cases hv : v < 0
  · simp only [if_pos hv]; omega
  · simp only [if_neg hv]; omega
theorem adjust_gen (lo hi : Option Int) (n : Nat) : Builtin.Slice.sliceAdjust lo hi 1 (n : Int) = (((sIx n 0 lo : Nat) : Int), ((sIx n n hi : Nat) : Int)) := by
  have h1 : ¬ ((1 : Int) < 0) := by omega
  unfold Builtin.Slice.sliceAdjust
  simp only [h1, if_false]
  refine Prod.ext ?_ ?_
  · cases lo with
    | none => rfl
    | some v => exact clip_eq v n 0
  · cases hi with
    | none => rfl
    | some v => exact clip_eq v n n
theorem places_gen (i j : Nat) : Builtin.Slice.slicePlaces (i : Int) (j : Int) 1 = j - i := by
  unfold Builtin.Slice.slicePlaces
  have h1 : (1 : Int) > 0 := by omega
  simp only [h1, if_true, Int.ediv_one]
  split <;> omega
theorem slicePart_ {v : Value} {o : Option Int} {Q : Option Int → Shared → Prop} (p : IsPart v o) (h : Q o s) : wpAny (model prog w) A (Builtin.Slice.slicePartIndex v) Q E s := by
  cases p with
  | none => exact slicePart_none h
  | int i t => exact slicePart_int h
theorem sliceApplied_gen {sl : Addr} {vl vu : Value} {lo hi : Option Int} {n : Nat} {Q : Int × Int × Nat → Shared → Prop} (hs : s.heap.IsSliceOf sl vl vu .none) (pl : IsPart vl lo) (pu : IsPart vu hi)
    (h : Q (((sIx n 0 lo : Nat) : Int), 1, sIx n n hi - sIx n 0 lo) s) : wpAny (model prog w) A (Builtin.Slice.sliceApplied (.ref sl) (pure (n : Int))) Q E s := by
  obtain ⟨os, hos, hcs, hds⟩ := id hs
  unfold Builtin.Slice.sliceApplied Builtin.Slice.sliceFields
  refine wpAny_bind (wpAny_bind (wpAny_field hos hds (x := vl) rfl (wpAny_bind (wpAny_field hos hds (x := vu) rfl (wpAny_bind (wpAny_field hos hds (x := .none) rfl (wpAny_pure ?_)))))))
  refine wpAny_bind (slicePart_none ?_)
  show wpAny _ _ (if ((1 : Int) == 0) = true then _ else _) _ _ s
  rw [if_neg (by decide)]
  refine wpAny_bind (slicePart_ pl (wpAny_bind (slicePart_ pu (wpAny_bind (wpAny_pure ?_)))))
  show wpAny _ _ (match Builtin.Slice.sliceAdjust lo hi 1 (n : Int) with | (lo, hi) => pure (lo, (1 : Int), Builtin.Slice.slicePlaces lo hi 1)) _ _ s
  rw [adjust_gen lo hi n]
  show wpAny _ _ (pure (((sIx n 0 lo : Nat) : Int), (1 : Int), Builtin.Slice.slicePlaces ((sIx n 0 lo : Nat) : Int) ((sIx n n hi : Nat) : Int) 1)) _ _ s
  rw [places_gen]
  exact wpAny_pure h
theorem pick_gen (xs : Array Value) (i k : Nat) : ((List.range k).filterMap fun (m : Nat) => xs[((i : Int) + (m : Int) * 1).toNat]?).toArray = ((xs.toList.drop i).take k).toArray := by
  have e : (fun (m : Nat) => xs[((i : Int) + (m : Int) * 1).toNat]?) = fun m => xs[i + m]? := by
    funext m
    have : ((i : Int) + (m : Int) * 1).toNat = i + m := by omega
    rw [this]
  rw [e]
  have := pick_run xs i k
  rw [List.filterMap_map] at this
  have e2 : ((fun x => xs[x]?) ∘ fun x => i + x) = fun m => xs[i + m]? := rfl
  rw [e2] at this
  rw [this]

theorem getItem_tuple_cut {t sl : Addr} {items : Array Value} {vl vu : Value} {lo hi : Option Int} {Q : Value → Shared → Prop} (ht : IsTup s.heap t items) (hs : s.heap.IsSliceOf sl vl vu .none) (pl : IsPart vl lo) (pu : IsPart vu hi)
    (hw : ¬ (sIx items.size 0 lo = 0 ∧ sIx items.size items.size hi = items.size))
    (h : Q (.ref s.heap.objs.size) { s with heap := s.heap.push { cls := .type "tuple", data := .seq ((items.toList.drop (sIx items.size 0 lo)).take (sIx items.size items.size hi - sIx items.size 0 lo)).toArray } })
    (hsz : items.size ≤ sizeLine) : wpAny (model prog w) A (getItem (.ref t) (.ref sl)) Q E s := by
  have htake : sizeOk (.seq ((items.toList.drop (sIx items.size 0 lo)).take (sIx items.size items.size hi - sIx items.size 0 lo)).toArray) := by
    show ((items.toList.drop (sIx items.size 0 lo)).take (sIx items.size items.size hi - sIx items.size 0 lo)).toArray.size ≤ sizeLine
    rw [List.size_toArray, List.length_take, List.length_drop, Array.length_toList]
    omega
  have hj : sIx items.size items.size hi ≤ items.size := sIx_le _ _ (Nat.le_refl _) hi
  obtain ⟨os, hos, hcs, hds⟩ := id hs
  have hTs : s.TypeIs (.ref sl) "slice" := ⟨os, hos, hcs⟩
  unfold getItem
  try with_reducible refine wpAny_holding ?_
  first | refine wpAny_bind (wpAny_pure ?_) | skip
  refine wpAny_bind (wpAny_sequenceKey ht.typeIs (by decide) ?_)
  refine wpAny_bind (wpAny_callSpecial?_slot (name := Str.ofString "__getitem__") ht.typeIs PyProof.Rows.slot_tuple_getitem
    (wpAny_call_entry PyProof.Rows.slot_tuple_getitem ht.typeIs entry_tuple_getitem ?_ (args_tuple_getitem _ _)))
  show wpAny _ _ (Builtin.Tuple.tupleItemsOf (.ref t) >>= _) _ _ s
  refine wpAny_bind (tupleItemsOf_ ht ?_)
  refine wpAny_bind (wpAny_typeOf hTs ?_)
  rw [if_pos (by decide)]
  refine wpAny_bind (sliceApplied_gen hs pl pu ?_)
  have hno : ¬ ((((sIx items.size 0 lo : Nat) : Int) == 0 && (1 : Int) == 1 && (sIx items.size items.size hi - sIx items.size 0 lo) == items.size) = true) := by
    intro q
    rw [Bool.and_eq_true, Bool.and_eq_true] at q
    have q1 : ((sIx items.size 0 lo : Nat) : Int) = 0 := eq_of_beq q.1.1
    have q2 : sIx items.size items.size hi - sIx items.size 0 lo = items.size := eq_of_beq q.2
    exact hw ⟨by omega, by omega⟩
  show wpAny _ _ (if (((sIx items.size 0 lo : Nat) : Int) == 0 && (1 : Int) == 1 && (sIx items.size items.size hi - sIx items.size 0 lo) == items.size) = true then _ else _) _ _ s
  rw [if_neg hno, pick_gen]
  first
    | exact wpAny_bind (m := Builtin.Tuple.tupleExact _) (wpAny_newObj_type (wpAny_pure ⟨_, rfl, wpAny_pure h⟩) htake)
    | exact wpAny_bind (m := Builtin.Tuple.tupleExact _) (wpAny_newObj_type (wpAny_bind (wpAny_pure (wpAny_pure ⟨_, rfl, wpAny_pure h⟩))) htake)
    | exact wpAny_bind (wpAny_bind (m := Builtin.Tuple.tupleExact _) (wpAny_newObj_type (wpAny_pure (wpAny_pure ⟨_, rfl, wpAny_pure h⟩)) htake))
    | exact wpAny_bind (wpAny_bind (m := Builtin.Tuple.tupleExact _) (wpAny_newObj_type (wpAny_pure ⟨_, rfl, wpAny_pure h⟩) htake))
end
end HT

namespace L2
open PySem PySem.Spec PyProof.Rows

/-! ### the parts of a slice -/
abbrev TO := St → Hp → (Option Int → Hp → Prop) → Prop
/-- a slice's part (left out, or an int) -/
def PO (X : Cx) (e : Option Expr) (t : TO) : Prop :=
  ∀ (pins : List (Addr × Obj)) (s : Shared) (σ : St) (H : Hp) (Q : Option Int → Hp → Prop), Inv X pins σ H s → t σ H Q →
    wpAny (model X.prog X.w) X.A (evalPart e X.env) (fun u s' => ∃ o H', Inv X pins σ H' s' ∧ IsPart u o ∧ Q o H') X.xe s
def tNoPart : TO := fun _ H Q => Q none H
def tPart (t : TE) : TO := fun σ H Q => t σ H fun x H1 => ∃ i, x = .int i ∧ Q (some i) H1

theorem intsAre_of {ns : List Int} : ∀ {us : List Value}, Vals (ns.map V.int) us → IntsAre us ns := by
  induction ns with
  | nil => intro us r; rw [List.map_nil] at r; cases r; exact .nil
  | cons n ns ih =>
    intro us r
    rw [List.map_cons] at r
    cases r with
    | cons r1 r2 =>
      obtain ⟨t, e⟩ := r1
      subst e
      exact .cons n t (ih r2)

section
variable {X : Cx} {e : Expr} {te : TE} {lo hi : Option Expr} {tl th : TO} {pos p2 : Pos}

theorem po_none : PO X none tNoPart := by
  intro pins s σ H Q I h
  rw [evalPart_none]
  exact wpAny_pure ⟨none, H, I, .none, h⟩
theorem po_some (h : PE X e te) : PO X (some e) (tPart te) := by
  intro pins s σ H Q I hw
  rw [evalPart_some]
  refine thn (h pins s σ H _ I hw) fun u s1 ⟨x, H1, I1, r1, q1⟩ => ?_
  obtain ⟨i, rfl, q⟩ := q1
  obtain ⟨t, rfl⟩ := r1
  exact ⟨some i, H1, I1, .int i t, q⟩

/-- what a slice of a value is, by values: the slice object stands at sl -/
def SlR (X : Cx) (r : V → Option Int → Option Int → Hp → VK → Prop) : Prop :=
  ∀ (pins : List (Addr × Obj)) (s : Shared) (σ : St) (H : Hp) (x : V) (v vl vu : Value) (lo hi : Option Int) (sl : Addr) (Q : VK), Inv X pins σ H s → RelV x v → s.heap.IsSliceOf sl vl vu .none → IsPart vl lo → IsPart vu hi → r x lo hi H Q →
    ∃ T id, typeLookup (.type T) "__getitem__" = pure (some (.builtin id)) ∧ s.TypeIs v T ∧ wpAny (model X.prog X.w) X.A (getItem v (.ref sl)) (EP X pins σ Q) X.xe s
theorem SlR.or {r r' : V → Option Int → Option Int → Hp → VK → Prop} (h : SlR X r) (h' : SlR X r') : SlR X (fun x lo hi H Q => r x lo hi H Q ∨ r' x lo hi H Q) := by
  intro pins s σ H x v vl vu lo hi sl Q I rx hs pl pu q
  rcases q with q | q
  · exact h pins s σ H x v vl vu lo hi sl Q I rx hs pl pu q
  · exact h' pins s σ H x v vl vu lo hi sl Q I rx hs pl pu q
def tSl (r : V → Option Int → Option Int → Hp → VK → Prop) (te : TE) (tl th : TO) : TE := fun σ H Q => te σ H fun x H1 => tl σ H1 fun l H2 => th σ H2 fun u H3 => r x l u H3 Q
/-- a[lo:hi], any a -/
theorem pe_slice {r : V → Option Int → Option Int → Hp → VK → Prop} (hr : SlR X r) (he : PE X e te) (hl : PO X lo tl) (hu : PO X hi th) : PE X (.Subscript e (.Slice lo hi none p2) pos) (tSl r te tl th) := by
  intro pins s σ H Q I h
  refine Subscript_ (thn (he pins s σ H _ I h) fun v s1 ⟨x, H1, I1, r1, q1⟩ => ?_)
  refine wpAny_Slice (thn (hl pins s1 σ H1 _ I1 q1) fun vl s2 ⟨l, H2, I2, pl, q2⟩ => thn (hu pins s2 σ H2 _ I2 q2) fun vu s3 ⟨u, H3, I3, pu, q3⟩ => ?_)
  rw [evalPart_none]
  refine wpAny_pure ?_
  have I4 : Inv X pins σ H3 { s3 with heap := s3.heap.push { cls := .type "slice", data := .fields #[vl, vu, .none] } } := I3.kept (t' := s3.toks) fun b ob q => Heap.get?_push_of_some _ q
  obtain ⟨T, id, hT, ht, hg⟩ := hr pins { s3 with heap := s3.heap.push { cls := .type "slice", data := .fields #[vl, vu, .none] } } σ H3 x v vl vu l u s3.heap.objs.size Q I4 r1 (Heap.IsSliceOf.new ..) pl pu q3
  show wpAny (model X.prog X.w) X.A (subscriptTail e (.Slice lo hi none p2) v (.ref s3.heap.objs.size)) (EP X pins σ Q) X.xe { s3 with heap := s3.heap.push { cls := .type "slice", data := .fields #[vl, vu, .none] } }
  exact tail_any (ops := [.ref s3.heap.objs.size, v]) ht hT hg (by with_unfolding_all rfl)

/-- the items of xs[lo:hi] -/
def cutV (xs : List V) (lo hi : Option Int) : List V := (xs.drop (HT.sIx xs.length 0 lo)).take (HT.sIx xs.length xs.length hi - HT.sIx xs.length 0 lo)
theorem cutV_length (xs : List V) (lo hi : Option Int) : (cutV xs lo hi).length ≤ xs.length := by
  unfold cutV
  rw [List.length_take, List.length_drop]
  omega
/-- t[lo:hi], not the whole of it (the whole would be t itself) -/
def rSlT (K : PySem.W.Frag) : V → Option Int → Option Int → Hp → VK → Prop := fun x lo hi H Q => ∃ a xs, x = .ref a ∧ SqT K H a xs ∧
  ¬ (HT.sIx xs.length 0 lo = 0 ∧ HT.sIx xs.length xs.length hi = xs.length) ∧ ∀ p, H p = none → Q (.ref p) (upd H p (.tup (cutV xs lo hi)))
theorem sl_tup : SlR X (rSlT X.K) := by
  intro pins s σ H x v vl vu lo hi sl Q I rx hs pl pu h
  obtain ⟨a, xs, rfl, hx, hw, q⟩ := h
  cases rx
  obtain ⟨its, r, ht, hz⟩ := I.tuple hx
  have hlen : its.toArray.size = xs.length := by rw [List.size_toArray]; exact r.length.symm
  refine ⟨"tuple", _, PyProof.Rows.slot_tuple_getitem.lookup, ht.typeIs, ?_⟩
  refine HT.getItem_tuple_cut ht hs pl pu (by rw [hlen]; exact hw) ?_ (by rw [hlen]; exact hz)
  rw [hlen]
  refine ⟨.ref s.heap.objs.size, _, I.laid (t' := s.toks) (o := .tup (cutV xs lo hi)) (fun b ob q => Heap.get?_push_of_some _ q) (Nat.le_refl _) ?_, rfl, q _ (I.hok.fresh (Nat.le_refl _))⟩
  exact ⟨Nat.le_trans (cutV_length xs lo hi) hz, _, (r.drop (HT.sIx xs.length 0 lo)).take (HT.sIx xs.length xs.length hi - HT.sIx xs.length 0 lo), TupN.new _ _⟩

/-! ### t < u, t + u -/
def rLtT (K : PySem.W.Frag) : R2 := fun x y H Q => ∃ a b ns ms, x = .ref a ∧ y = .ref b ∧ SqT K H a (ns.map V.int) ∧ SqT K H b (ms.map V.int) ∧ Q (.bl (HT.lexLt ns ms)) H
/-- t + u, t not empty: u empty gives t itself -/
def rCatT (K : PySem.W.Frag) : R2 := fun x y H Q => ∃ a b xs ys, x = .ref a ∧ y = .ref b ∧ SqT K H a xs ∧ SqT K H b ys ∧ xs ≠ [] ∧ xs.length + ys.length ≤ sizeLine ∧
  (ys = [] → Q (.ref a) H) ∧ (ys ≠ [] → ∀ p, H p = none → Q (.ref p) (upd H p (.tup (xs ++ ys))))
theorem Vals.nil_iff {xs : List V} {us : List Value} (r : Vals xs us) : us = [] ↔ xs = [] := by
  cases r with
  | nil => simp
  | cons _ _ => simp
theorem op_catT : OpR X (binaryOp .Add) (rCatT X.K) := by
  intro pins s σ H x y v u Q I rx ry h
  obtain ⟨a, b, xs, ys, rfl, rfl, ha, hb, hx, hz, q1, q2⟩ := h
  cases rx
  cases ry
  obtain ⟨its, r1, p1, _⟩ := I.tuple ha
  obtain ⟨its2, r2, p2, _⟩ := I.tuple hb
  refine HT.cat_tup p1 p2 (fun z => hx (r1.nil_iff.mp z)) (fun z => ⟨.ref a, H, I, rfl, q1 (r2.nil_iff.mp z)⟩) (fun z => ?_) (by rw [← r1.length, ← r2.length]; exact hz)
  refine ⟨.ref s.heap.objs.size, _, I.laid (t' := s.toks) (o := .tup (xs ++ ys)) (fun b ob q => Heap.get?_push_of_some _ q) (Nat.le_refl _) ?_, rfl, q2 (fun w => z (r2.nil_iff.mpr w)) _ (I.hok.fresh (Nat.le_refl _))⟩
  exact ⟨by rw [List.length_append]; exact hz, _, r1.append r2, TupN.new _ _⟩
end
end L2

namespace L2
open PySem PySem.Spec PyProof.Rows

/-! ### places -/
/-- the place that an index of any sign means -/
def ixN (n : Nat) (i : Int) : Option Nat := if 0 ≤ i then (if i < n then some i.toNat else none) else if -(n : Int) ≤ i then some (i + n).toNat else none
def atI {α : Type} (xs : List α) (i : Int) : Option α := (ixN xs.length i).bind fun j => xs[j]?
theorem ixN_seq {n : Nat} {i : Int} {j : Nat} (h : ixN n i = some j) : seqIndex? i n = some j ∧ j < n ∧ -(n : Int) ≤ i ∧ i < n := by
  unfold ixN at h
  by_cases h0 : 0 ≤ i
  · rw [if_pos h0] at h
    by_cases h1 : i < n
    · rw [if_pos h1] at h
      have e : i.toNat = j := Option.some.inj h
      exact ⟨by rw [seqIndex_of h0 h1, e], by omega, by omega, h1⟩
    · rw [if_neg h1] at h; cases h
  · rw [if_neg h0] at h
    by_cases h1 : -(n : Int) ≤ i
    · rw [if_pos h1] at h
      have e : (i + n).toNat = j := Option.some.inj h
      exact ⟨by rw [seqIndex_neg (by omega) h1, e], by omega, h1, by omega⟩
    · rw [if_neg h1] at h; cases h
theorem atI_get {α : Type} {xs : List α} {i : Int} {v : α} (h : atI xs i = some v) : ∃ j, seqIndex? i xs.length = some j ∧ xs[j]? = some v ∧ j < xs.length ∧ -(xs.length : Int) ≤ i ∧ i < xs.length := by
  unfold atI at h
  cases e : ixN xs.length i with
  | none => rw [e] at h; cases h
  | some j =>
    rw [e] at h
    obtain ⟨h1, h2, h3, h4⟩ := ixN_seq e
    exact ⟨j, h1, h, h2, h3, h4⟩
theorem atI_nat {α : Type} {xs : List α} {j : Nat} {v : α} (h : xs[j]? = some v) : atI xs (j : Int) = some v := by
  have hj : j < xs.length := (List.getElem?_eq_some_iff.mp h).1
  have e : ixN xs.length (j : Int) = some j := by
    unfold ixN
    rw [if_pos (by omega), if_pos (by omega)]; simp
  unfold atI; rw [e]; exact h

/-! ### what may be subscripted -/
/-- what stands as an index of a plain subscript -/
def PlainIx (b : Expr) : Prop := ∀ o i, subscripted b false o i = operate [o, i] (getItem o i)
/-- a subscript by values -/
def IxR (X : Cx) (r : R2) : Prop :=
  ∀ (value slice : Expr) (pins : List (Addr × Obj)) (s : Shared) (σ : St) (H : Hp) (x y : V) (v u : Value) (Q : VK), Inv X pins σ H s → RelV x v → RelV y u → r x y H Q →
    subscripted slice false v u = operate [v, u] (getItem v u) → wpAny (model X.prog X.w) X.A (subscriptTail value slice v u) (EP X pins σ Q) X.xe s
/-- a call of a builtin's method by values: the receiver, the arguments -/
def MtR (X : Cx) (id : String) (r : V → List V → Hp → VK → Prop) : Prop :=
  ∀ (pins : List (Addr × Obj)) (s : Shared) (σ : St) (H : Hp) (x : V) (xs : List V) (v : Value) (us : List Value) (Q : VK), Inv X pins σ H s → RelV x v → Vals xs us → r x xs H Q →
    wpAny (model X.prog X.w) X.A (call (.builtin id) (v :: us)) (EP X pins σ Q) X.xe s
section
variable {X : Cx} {a b : Expr} {ta tb : TE} {pos : Pos}
theorem IxR.or {r r' : R2} (h : IxR X r) (h' : IxR X r') : IxR X (fun x y H Q => r x y H Q ∨ r' x y H Q) := by
  intro value slice pins s σ H x y v u Q I rx ry q hs
  rcases q with q | q
  · exact h value slice pins s σ H x y v u Q I rx ry q hs
  · exact h' value slice pins s σ H x y v u Q I rx ry q hs
theorem MtR.or {id : String} {r r' : V → List V → Hp → VK → Prop} (h : MtR X id r) (h' : MtR X id r') : MtR X id (fun x xs H Q => r x xs H Q ∨ r' x xs H Q) := by
  intro pins s σ H x xs v us Q I rx rs q
  rcases q with q | q
  · exact h pins s σ H x xs v us Q I rx rs q
  · exact h' pins s σ H x xs v us Q I rx rs q
/-- a[b] -/
theorem pe_ix {r : R2} (hr : IxR X r) (ha : PE X a ta) (hb : PE X b tb) (hs : PlainIx b) : PE X (.Subscript a b pos) (tOp r ta tb) := by
  intro pins s σ H Q I h
  exact Subscript_ (binT ha hb I h fun v u s2 x y H2 I2 rx ry q => hr a b pins s2 σ H2 x y v u Q I2 rx ry q (hs _ _))

def rIxL (K : PySem.W.Frag) : R2 := fun x y H Q => ∃ p xs i v, x = .ref p ∧ y = .int i ∧ SqL K H p xs ∧ atI xs i = some v ∧ Q v H
def rIxT (K : PySem.W.Frag) : R2 := fun x y H Q => ∃ p xs i v, x = .ref p ∧ y = .int i ∧ SqT K H p xs ∧ atI xs i = some v ∧ Q v H
def rIxS : R2 := fun x y H Q => ∃ z i c, x = .str z ∧ y = .int i ∧ z.length ≤ sizeLine ∧ atI z.cps.toList i = some c ∧ Q (.str ⟨#[c]⟩) H
theorem ix_list : IxR X (rIxL X.K) := by
  intro value slice pins s σ H x y v u Q I rx ry h hs
  obtain ⟨p, xs, i, z, rfl, rfl, hq, he, q⟩ := h
  cases rx
  obtain ⟨t, rfl⟩ := ry
  obtain ⟨its, r, pl, hz⟩ := I.list hq
  obtain ⟨j, h1, h2, h3, h4, h5⟩ := atI_get he
  obtain ⟨w, ew, rw'⟩ := r.get h2
  have hl := r.length
  have hn := line63
  have fin : EP X pins σ Q w s := ⟨z, H, I, rw', q⟩
  by_cases h0 : 0 ≤ i
  · have hj : i.toNat = j := by
      rw [seqIndex_of h0 h5] at h1
      exact Option.some.inj h1
    exact item_listR pl.isList h0 (by omega) (by rw [hj]; simpa using ew) fin hs
  · have hj : (i + (its.toArray.size : Int)).toNat = j := by
      rw [seqIndex_neg (by omega) h4] at h1
      rw [List.size_toArray, ← hl]
      exact Option.some.inj h1
    exact subscriptTail_builtinR (x := w) pl.isList.typeIs slot_list_getitem.lookup
      (wpAny_getItem_list_neg (Q := fun r s' => r = w ∧ EP X pins σ Q r s') pl.isList (by omega) (by rw [List.size_toArray] <;> omega) (by omega) (by rw [hj]; simpa using ew) ⟨rfl, fin⟩) hs
theorem ix_tup : IxR X (rIxT X.K) := by
  intro value slice pins s σ H x y v u Q I rx ry h hs
  obtain ⟨p, xs, i, z, rfl, rfl, hq, he, q⟩ := h
  cases rx
  obtain ⟨t, rfl⟩ := ry
  obtain ⟨its, r, pl, hz⟩ := I.tuple hq
  obtain ⟨j, h1, h2, h3, h4, h5⟩ := atI_get he
  obtain ⟨w, ew, rw'⟩ := r.get h2
  have hl := r.length
  have hn := line63
  have fin : EP X pins σ Q w s := ⟨z, H, I, rw', q⟩
  exact subscriptTail_builtinR (x := w) pl.typeIs slot_tuple_getitem.lookup
    (getItem_tuple (j := j) (Q := fun r s' => r = w ∧ EP X pins σ Q r s') pl (by omega) (by omega) (by rw [List.size_toArray, ← hl]; exact h1) (by simpa using ew) ⟨rfl, fin⟩) hs
/-- list, tuple or str -/
def rIx (K : PySem.W.Frag) : R2 := fun x y H Q => rIxL K x y H Q ∨ rIxT K x y H Q ∨ rIxS x y H Q

/-! ### xs[i] = v, any sign -/
/-- the list's object behind a store -/
theorem mapSeq_set (its : List Value) (n j : Nat) (u : Value) : Obj.mapSeq (·.setIfInBounds j u) { cls := .type "list", data := .seq its.toArray n } = { cls := .type "list", data := .seq (its.set j u).toArray n } := by
  simp [Obj.mapSeq]
theorem Inv.lst {pins : List (Addr × Obj)} {σ : St} {H : Hp} {s : Shared} {p : Addr} {xs : List V} (I : Inv X pins σ H s) (h : H p = some (.lst xs)) :
    ∃ (its : List Value) (n : Nat), Vals xs its ∧ s.heap.get? p = some { cls := .type "list", data := .seq its.toArray n } ∧ xs.length ≤ sizeLine := by
  obtain ⟨z, its, n, r, e⟩ := I.hok p _ h
  exact ⟨its, n, r, e, z⟩
/-- the list at p is written by an update of its object -/
theorem Inv.lstUpd {pins : List (Addr × Obj)} {σ : St} {H : Hp} {s : Shared} {p : Addr} {xs ys : List V} {its its' : List Value} {n n' : Nat} {f : Obj → Obj} (I : Inv X pins σ H s) (h : H p = some (.lst xs))
    (ho : s.heap.get? p = some { cls := .type "list", data := .seq its.toArray n }) (hf : f { cls := .type "list", data := .seq its.toArray n } = { cls := .type "list", data := .seq its'.toArray n' }) (r : Vals ys its') (hz : ys.length ≤ sizeLine) (t : Nat) :
    Inv X pins σ (upd H p (.lst ys)) { s with heap := s.heap.update p f, toks := t } := by
  have e : (s.heap.update p f).get? p = some { cls := .type "list", data := .seq its'.toArray n' } := by
    rw [Heap.get?_update_self f ho (by rw [hf] <;> rfl), hf]
  refine I.write (x := p) (e := p) (by rw [h]; trivial) (.inl rfl) (fun b u hb q => (Heap.get?_update_other _ _ (Ne.symm hb)).trans q) ⟨_, e⟩ ?_
  exact ⟨hz, its', n', r, e⟩
def rSetL : V → V → V → Hp → (Hp → Prop) → Prop := fun o i v H Q => ∃ p xs k j, o = .ref p ∧ i = .int k ∧ H p = some (.lst xs) ∧ ixN xs.length k = some j ∧ Q (upd H p (.lst (xs.set j v)))
theorem set_list : PSet X rSetL := by
  intro pins s σ H o i v ov iv u Q I ro ri rv h
  obtain ⟨p, xs, k, j, rfl, rfl, hp, hj, q⟩ := h
  cases ro
  obtain ⟨t, rfl⟩ := ri
  obtain ⟨its, n, r, ho, hz⟩ := I.lst hp
  obtain ⟨h1, h2, h3, h4⟩ := ixN_seq hj
  have hl := r.length
  have hn := line63
  have I' : Inv X pins σ (upd H p (.lst (xs.set j v))) { s with heap := s.heap.update p (Obj.mapSeq (·.setIfInBounds j u)) } :=
    I.lstUpd hp ho (mapSeq_set its n j u) (r.set rv j) (by rw [List.length_set]; exact hz) s.toks
  by_cases h0 : 0 ≤ k
  · have hk : k.toNat = j := by
      rw [seqIndex_of h0 h4] at h1
      exact Option.some.inj h1
    exact PySem.W.ki_setAt ho h0 (by omega) (by rw [List.size_toArray, ← hl]; exact h4) (by rw [hk]; exact ⟨_, I', q⟩)
  · have hk : (k + (its.toArray.size : Int)).toNat = j := by
      rw [seqIndex_neg (by omega) h3] at h1
      rw [List.size_toArray, ← hl]
      exact Option.some.inj h1
    exact PySem.W.ki_setBack ho (by omega) (by rw [List.size_toArray, ← hl]; exact h3) (by omega) (by rw [hk]; exact ⟨_, I', q⟩)

/-! ### slices -/
theorem slice_bounds (lo hi : Option Int) (n : Nat) : (sliceBounds lo hi none n).1 = ((HT.sIx n 0 lo : Nat) : Int) ∧ (sliceBounds lo hi none n).2.1 = ((HT.sIx n n hi : Nat) : Int) ∧ (sliceBounds lo hi none n).2.2 = 1 := by
  refine ⟨?_, ?_, rfl⟩
  · cases lo with
    | none => simp [sliceBounds, HT.sIx]
    | some i =>
      simp only [sliceBounds, HT.sIx, Option.getD_none, show (1 : Int) > 0 by decide, if_true]
      by_cases h : i < 0
      · simp only [h, if_true] <;> omega
      · simp only [h, if_false] <;> omega
  · cases hi with
    | none => simp [sliceBounds, HT.sIx]
    | some i =>
      simp only [sliceBounds, HT.sIx, Option.getD_none, show (1 : Int) > 0 by decide, if_true]
      by_cases h : i < 0
      · simp only [h, if_true] <;> omega
      · simp only [h, if_false] <;> omega
theorem slicePick_cut (its : List Value) (lo hi : Option Int) : slicePick its.toArray lo hi none = ((its.drop (HT.sIx its.length 0 lo)).take (HT.sIx its.length its.length hi - HT.sIx its.length 0 lo)).toArray := by
  obtain ⟨h1, h2, h3⟩ := slice_bounds lo hi its.toArray.size
  unfold slicePick
  rw [h1, h2, h3]
  simp only [sliceRange_one, pick_run, List.size_toArray] <;> rfl
/-- xs[lo:hi] of a list: a new list -/
def rSlL (K : PySem.W.Frag) : V → Option Int → Option Int → Hp → VK → Prop := fun x lo hi H Q => ∃ a xs, x = .ref a ∧ SqL K H a xs ∧ ∀ p, H p = none → Q (.ref p) (upd H p (.lst (cutV xs lo hi)))
theorem sl_list : SlR X (rSlL X.K) := by
  intro pins s σ H x v vl vu lo hi sl Q I rx hs pl pu h
  obtain ⟨a, xs, rfl, hx, q⟩ := h
  cases rx
  obtain ⟨its, r, ht, hz⟩ := I.list hx
  have hlen := r.length
  refine ⟨"list", _, slot_list_getitem.lookup, ht.isList.typeIs, ?_⟩
  refine wpAny_getItem_list_slice ht.isList hs pl pu .none (by simp) ?_ (by rw [List.size_toArray] <;> omega)
  rw [slicePick_cut, ← hlen]
  refine ⟨.ref s.heap.objs.size, _, I.laid (t' := s.toks) (o := .lst (cutV xs lo hi)) (fun b ob q => Heap.get?_push_of_some _ q) (Nat.le_refl _) ?_, rfl, q _ (I.hok.fresh (Nat.le_refl _))⟩
  exact ⟨Nat.le_trans (cutV_length xs lo hi) hz, _, 0, (r.drop (HT.sIx xs.length 0 lo)).take (HT.sIx xs.length xs.length hi - HT.sIx xs.length 0 lo), Heap.get?_push_size _ rfl⟩

/-! ### in, not in: flat items -/
def flatV : V → Bool
  | .non => true
  | .bl _ => true
  | .int _ => true
  | .str _ => true
  | _ => false
/-- == of flat values -/
def eqV : V → V → Bool
  | .non, .non => true
  | .bl a, .bl b => a == b
  | .bl a, .int b => (if a then 1 else 0) == b
  | .int a, .bl b => a == (if b then 1 else 0)
  | .int a, .int b => a == b
  | .str a, .str b => a == b
  | _, _ => false
/-- the items' answers, read off the values (a value's own answer does not lean on its token) -/
def eqU (x : V) (u : Value) : Bool := match u with
  | .none => eqV .non x
  | .bool b => eqV (.bl b) x
  | .int i _ => eqV (.int i) x
  | .str z _ => eqV (.str z) x
  | _ => false
def inV (x : V) (xs : List V) : Bool := xs.any fun y => eqV y x
/-- x in a list or tuple of flat items -/
def rIn (K : PySem.W.Frag) (neg : Bool) : R2 := fun x y H Q => ∃ p xs, y = .ref p ∧ (SqL K H p xs ∨ SqT K H p xs) ∧ flatV x = true ∧ xs.all flatV = true ∧ Q (.bl (if neg then !inV x xs else inV x xs)) H

/-! ### len, list(x), tuple(x) of any list or tuple that is read -/
theorem call_len_seq : CallR X (.builtin "len") (fun xs H Q => ∃ p ys, xs = [.ref p] ∧ (SqL X.K H p ys ∨ SqT X.K H p ys) ∧ Q (.int ys.length) H) := by
  intro pins s σ H xs us Q I r h
  obtain ⟨p, ys, rfl, hq, q⟩ := h
  obtain ⟨u, rfl, rx⟩ := vals1 r
  cases rx
  have hn := line63
  rcases hq with hq | hq
  · obtain ⟨its, r', pl, hz⟩ := I.list hq
    have hlen := r'.length
    exact Calls.call_len_list pl.isList (by simp only [List.size_toArray] <;> omega) ⟨.int ys.length, H, I.tok _, ⟨s.toks + 1, by rw [List.size_toArray, hlen]⟩, q⟩
  · obtain ⟨its, r', pl, hz⟩ := I.tuple hq
    have hlen := r'.length
    exact len_tuple pl (by simp only [List.size_toArray] <;> omega) ⟨.int ys.length, H, I.tok _, ⟨s.toks + 1, by rw [List.size_toArray, hlen]⟩, q⟩
theorem call_len_str : CallR X (.builtin "len") (fun xs H Q => ∃ z, xs = [.str z] ∧ z.length ≤ sizeLine ∧ Q (.int z.length) H) := by
  intro pins s σ H xs us Q I r h
  obtain ⟨z, rfl, hz, q⟩ := h
  obtain ⟨u, rfl, t, rfl⟩ := vals1 r
  have hn := line63
  exact len_str (by omega) ⟨.int z.length, H, I.tok _, ⟨_, rfl⟩, q⟩
theorem CallR.or {f : Value} {r r' : List V → Hp → VK → Prop} (h : CallR X f r) (h' : CallR X f r') : CallR X f (fun xs H Q => r xs H Q ∨ r' xs H Q) := by
  intro pins s σ H xs us Q I rs q
  rcases q with q | q
  · exact h pins s σ H xs us Q I rs q
  · exact h' pins s σ H xs us Q I rs q
theorem call_list_of : CallR X (.type "list") (fun xs H Q => ∃ p ys, xs = [.ref p] ∧ (SqL X.K H p ys ∨ SqT X.K H p ys) ∧ ∀ l, H l = none → Q (.ref l) (upd H l (.lst ys))) := by
  intro pins s σ H xs us Q I r h
  obtain ⟨p, ys, rfl, hq, q⟩ := h
  obtain ⟨u, rfl, rx⟩ := vals1 r
  cases rx
  have fin : ∀ (its : List Value), Vals ys its → ys.length ≤ sizeLine → ∀ (h' : Heap) (c' : Nat), (∀ b o', s.heap.get? b = some o' → h'.get? b = some o') →
      h'.get? s.heap.objs.size = some { cls := .type "list", dict := none, data := .seq its.toArray c', slots := #[] } → EP X pins σ Q (.ref s.heap.objs.size) { s with heap := h' } := fun its r' hz h' c' kp e =>
    ⟨.ref s.heap.objs.size, _, I.laid (t' := s.toks) kp (Nat.le_refl _) (show ObjOk X.prog X.w _ h' _ (.lst ys) from ⟨hz, its, c', r', e⟩), rfl, q _ (I.hok.fresh (Nat.le_refl _))⟩
  rcases hq with hq | hq
  · obtain ⟨its, r', pl, hz⟩ := I.list hq
    have hlen := r'.length
    obtain ⟨o, ho, hc, n, hd⟩ := pl.isList
    exact call_list_seq p (.inl rfl) ho hc hd (fun h' c' kp e => fin its r' hz h' c' kp e) (by simp only [List.size_toArray] <;> omega)
  · obtain ⟨its, r', pl, hz⟩ := I.tuple hq
    have hlen := r'.length
    obtain ⟨o, ho, hc, n, hd⟩ := pl
    exact call_list_seq p (.inr rfl) ho hc hd (fun h' c' kp e => fin its r' hz h' c' kp e) (by simp only [List.size_toArray] <;> omega)
theorem call_tuple_of : CallR X (.type "tuple") (fun xs H Q => ∃ p ys, xs = [.ref p] ∧ ((SqL X.K H p ys ∧ ∀ l, H l = none → Q (.ref l) (upd H l (.tup ys))) ∨ (SqT X.K H p ys ∧ Q (.ref p) H))) := by
  intro pins s σ H xs us Q I r h
  obtain ⟨p, ys, rfl, h⟩ := h
  obtain ⟨u, rfl, rx⟩ := vals1 r
  cases rx
  rcases h with ⟨hq, q⟩ | ⟨hq, q⟩
  · obtain ⟨its, r', pl, hz⟩ := I.list hq
    have hlen := r'.length
    refine call_tuple_list pl.isList (fun h' kp => ?_) (by simp only [List.size_toArray] <;> omega)
    have I1 : Inv X pins σ H { s with heap := h' } := I.kept (t' := s.toks) kp
    have I2 : Inv X pins σ (upd H h'.objs.size (.tup ys)) { s with heap := h'.push { cls := .type "tuple", data := .seq its.toArray } } :=
      I1.laid (t' := s.toks) (fun b o e => Heap.get?_push_of_some _ e) (Nat.le_refl _) (show ObjOk X.prog X.w _ _ _ (.tup ys) from ⟨hz, its, r', TupN.new _ _⟩)
    exact ⟨.ref h'.objs.size, _, I2, rfl, q _ (I1.hok.fresh (Nat.le_refl _))⟩
  · obtain ⟨its, r', pl, hz⟩ := I.tuple hq
    exact call_tuple_same pl ⟨.ref p, H, I, rfl, q⟩

/-! ### the call of a builtin's method: o.m(..) -/
/-- the value is of that builtin type -/
def tyV (K : PySem.W.Frag) (T : String) (x : V) (H : Hp) : Prop := match x with
  | .str _ => T = "str"
  | .int _ => T = "int"
  | .ref p => (T = "list" ∧ ∃ xs, SqL K H p xs) ∨ (T = "tuple" ∧ ∃ o, K.lookup p = some o ∧ o.cls = .type "tuple" ∧ o.dict = none) ∨
      (T = "dict" ∧ ((∃ kvs, H p = some (.dK kvs)) ∨ ∃ kvs, H p = some (.dT kvs))) ∨ (T = "set" ∧ ∃ S n, H p = some (.set S n))
  | _ => False
theorem tyV_is {pins : List (Addr × Obj)} {σ : St} {H : Hp} {s : Shared} {T : String} {x : V} {v : Value} (I : Inv X pins σ H s) (r : RelV x v) (ty : tyV X.K T x H) :
    s.TypeIs v T ∧ ∀ a, v = .ref a → ∃ ob, s.heap.get? a = some ob ∧ ob.dict = none := by
  cases x with
  | str z =>
    obtain ⟨t, rfl⟩ := r
    cases (show T = "str" from ty)
    exact ⟨typeIs_str s z t, fun _ e => nomatch e⟩
  | int i =>
    obtain ⟨t, rfl⟩ := r
    cases (show T = "int" from ty)
    exact ⟨typeIs_int s i t, fun _ e => nomatch e⟩
  | ref p =>
    cases r
    rcases ty with ⟨rfl, xs, hq⟩ | ⟨rfl, o, hk, hc, hd⟩ | ⟨rfl, hk⟩ | ⟨rfl, S, n, hk⟩
    · obtain ⟨its, _, pl, _⟩ := I.list hq
      refine ⟨pl.isList.typeIs, fun a e => ?_⟩
      cases e
      obtain ⟨o, n, e, c, hd, _⟩ := pl
      exact ⟨o, e, hd⟩
    · refine ⟨⟨o, I.kIn p o hk, hc⟩, fun a e => ?_⟩
      cases e
      exact ⟨o, I.kIn _ o hk, hd⟩
    · have z : ∃ o, s.heap.get? p = some o ∧ o.ExactDict := by
        rcases hk with ⟨kvs, hk⟩ | ⟨kvs, hk⟩
        · obtain ⟨_, _, _, _, o, _, _, e, ex, _⟩ := I.hok p _ hk
          exact ⟨o, e, ex⟩
        · obtain ⟨_, _, _, _, o, _, _, e, ex, _⟩ := I.hok p _ hk
          exact ⟨o, e, ex⟩
      obtain ⟨o, e, ex⟩ := z
      refine ⟨⟨o, e, ex.1⟩, fun a e2 => ?_⟩
      cases e2
      exact ⟨o, e, ex.2.1⟩
    · obtain ⟨o, _, _, _, e, ex, _⟩ := I.hok p _ hk
      refine ⟨⟨o, e, ex.1⟩, fun a e2 => ?_⟩
      cases e2
      exact ⟨o, e, ex.2.1⟩
  | _ => exact False.elim ty
def tBM0 (K : PySem.W.Frag) (T : String) (r : V → List V → Hp → VK → Prop) (to : TE) : TE := fun σ H Q => to σ H fun x H1 => tyV K T x H1 ∧ r x [] H1 Q
def tBM (K : PySem.W.Frag) (T : String) (r : V → List V → Hp → VK → Prop) (to : TE) (t : TA) : TE := fun σ H Q => to σ H fun x H1 => tyV K T x H1 ∧ t σ H1 fun xs H2 => r x xs H2 Q
variable {o e : Expr} {es : List Expr} {to : TE} {t : TA} {name : Str} {apos cpos : Pos} {T id : String} {r : V → List V → Hp → VK → Prop}
theorem pe_bm0 (pa : PlainAttrs T) (slot : Slot T name id) (hty : typeOf (.builtin id) = pure (.type "method_descriptor")) (hm : MtR X id r) (ho : PE X o to)
    (hbase : attributeBase o name X.env (eval o X.env) = eval o X.env := by rfl) (hline : (apos.endLine == cpos.line) = true := by rfl) : PE X (.Call (.Attribute o name apos) [] [] cpos) (tBM0 X.K T r to) := by
  intro pins s σ H Q I h
  refine wpAny_Call_method0_late hbase hline (thn (ho pins s σ H _ I h) fun v s1 ⟨x, H1, I1, r1, ty, q1⟩ => ?_)
  obtain ⟨h1, h2⟩ := tyV_is I1 r1 ty
  exact ⟨T, id, pa, slot, hty, h1, h2, Calls.callWith_builtin rfl (PySem.evalArgs_none (hm pins s1 σ H1 x [] v [] Q I1 r1 .nil q1))⟩
theorem pe_bm (pa : PlainAttrs T) (slot : Slot T name id) (hty : typeOf (.builtin id) = pure (.type "method_descriptor")) (hm : MtR X id r) (ho : PE X o to) (ha : PA X (e :: es) t)
    (hbase : attributeBase o name X.env (eval o X.env) = eval o X.env := by rfl)
    (hfew : ((backTo cpos (starEach (e :: es) X.env)).all (fun x => !x.1) && (backToKw cpos (keywordEach [] X.env)).all (fun x => x.1.isSome)
      && decide ((e :: es).length + ([] : List Keyword).length + (if ([] : List Keyword).isEmpty then 0 else 1) < 30)) = true := by rfl)
    (hline : (apos.endLine == cpos.line) = true := by rfl) (hs : starEach (e :: es) X.env = (false, eval e X.env) :: starEach es X.env := by rfl) (hplain : (backTo cpos (starEach es X.env)).any (·.1) = false := by rfl) :
    PE X (.Call (.Attribute o name apos) (e :: es) [] cpos) (tBM X.K T r to t) := by
  intro pins s σ H Q I h
  refine wpAny_Call_method_late hbase hfew hline rfl (thn (ho pins s σ H _ I h) fun v s1 ⟨x, H1, I1, r1, ty, q1⟩ => ?_)
  obtain ⟨h1, h2⟩ := tyV_is I1 r1 ty
  refine ⟨T, id, pa, slot, hty, h1, h2, ?_⟩
  have hA := ha cpos pins s1 σ H1 _ I1 q1
  rw [hs] at hA ⊢
  refine Calls.callWith_builtin (by show (false || (backTo cpos (starEach es X.env)).any (·.1)) = false; rw [hplain] <;> rfl) (Calls.evalArgs_plain ?_)
  exact thn hA fun us s2 ⟨vs, H2, I2, r2, q2⟩ => hm pins s2 σ H2 x vs v us Q I2 r1 r2 q2
/- xs.append(e), list.index on a module's tuple .. are MtR facts of 06m -/
end
end L2

namespace L2
open PySem PySem.Spec PyProof.Rows

def MtM (X : Cx) (id : String) (r : V → List V → Hp → VK → Prop) : Prop :=
  ∀ (pins : List (Addr × Obj)) (s : Shared) (σ : St) (H : Hp) (x : V) (xs : List V) (v : Value) (us : List Value) (Q : VK), Inv X pins σ H s → RelV x v → Vals xs us → r x xs H Q →
    wpAny (model X.prog X.w) X.A (call (.builtin id) (v :: us)) (EP X pins σ Q) X.xe s

/-! ### lists of values -/
theorem Vals.one : ∀ {x : V} {us : List Value}, Vals [x] us → ∃ u, us = [u] ∧ RelV x u
  | _, _, .cons r .nil => ⟨_, rfl, r⟩
theorem Vals.two : ∀ {x y : V} {us : List Value}, Vals [x, y] us → ∃ u v, us = [u, v] ∧ RelV x u ∧ RelV y v
  | _, _, _, .cons r (.cons q .nil) => ⟨_, _, rfl, r, q⟩
theorem Vals.zero : ∀ {us : List Value}, Vals [] us → us = []
  | _, .nil => rfl
theorem Vals.dropLast {xs : List V} {us : List Value} (h : Vals xs us) : Vals xs.dropLast us.dropLast := by
  induction h with
  | nil => exact .nil
  | cons r t ih =>
    cases t with
    | nil => exact .nil
    | cons q t' => exact .cons r ih
theorem Vals.eraseIdx : ∀ {xs : List V} {us : List Value} (i : Nat), Vals xs us → Vals (xs.eraseIdx i) (us.eraseIdx i)
  | _, _, _, .nil => .nil
  | _, _, 0, .cons _ t => t
  | _, _, i + 1, .cons r t => .cons r (Vals.eraseIdx i t)
theorem Vals.reverse {xs : List V} {us : List Value} (h : Vals xs us) : Vals xs.reverse us.reverse := by
  induction h with
  | nil => exact .nil
  | cons r t ih => rw [List.reverse_cons, List.reverse_cons]; exact Vals.append ih (.cons r .nil)
theorem Vals.rep {xs : List V} {us : List Value} (h : Vals xs us) : ∀ k : Nat, Vals (List.replicate k xs).flatten (List.replicate k us).flatten
  | 0 => .nil
  | k + 1 => by
    rw [List.replicate_succ, List.replicate_succ, List.flatten_cons, List.flatten_cons]
    exact Vals.append h (Vals.rep h k)
theorem foldl_rep (its : List Value) : ∀ (k : Nat) (acc : List Value),
    List.foldl (fun x1 x2 => x1 ++ x2) acc.toArray (List.replicate k its.toArray) = (acc ++ (List.replicate k its).flatten).toArray
  | 0, acc => by simp
  | k + 1, acc => by
    have e : acc.toArray ++ its.toArray = (acc ++ its).toArray := by simp
    have e2 : (acc ++ its) ++ (List.replicate k its).flatten = acc ++ (List.replicate (k + 1) its).flatten := by
      rw [List.replicate_succ, List.flatten_cons, List.append_assoc]
    rw [← e2, ← foldl_rep its k (acc ++ its), ← e, List.replicate_succ, List.foldl_cons]

section
variable {X : Cx} {pins : List (Addr × Obj)} {σ : St} {H : Hp} {s : Shared} {l b : Addr} {xs ys zs : List V}

/-! ### the two steps: a tracked list is rewritten, a new list is laid -/
theorem Inv.lnew {its : List Value} {t' : Nat} (I : Inv X pins σ H s) (hv : Vals ys its) (hz : ys.length ≤ sizeLine) :
    Inv X pins σ (upd H s.heap.objs.size (.lst ys)) { s with heap := s.heap.push { cls := .type "list", data := .seq its.toArray }, toks := t' } :=
  I.laid (fun _ _ q => Heap.get?_push_of_some _ q) (Nat.le_refl _) ⟨hz, its, 0, hv, Heap.get?_push_size _ rfl⟩
theorem Inv.fresh (I : Inv X pins σ H s) : H s.heap.objs.size = none := I.hok.fresh (Nat.le_refl _)
theorem Inv.lstM (I : Inv X pins σ H s) (hH : H l = some (.lst xs)) : xs.length ≤ sizeLine ∧ ∃ (its : List Value) (n : Nat), Vals xs its ∧ xs.length = its.length ∧ s.heap.get? l = some { cls := .type "list", data := .seq its.toArray n } := by
  obtain ⟨z, its, n, r, e⟩ := I.hok l _ hH
  exact ⟨z, its, n, r, r.length, e⟩

theorem notLongL {n : Nat} (h : n ≤ sizeLine) : Builtin.List.listTooLong n = false := by
  unfold Builtin.List.listTooLong
  exact decide_eq_false (by omega)
end

section
variable {X : Cx}

/-! ### methods -/
def rAppend : V → List V → Hp → VK → Prop := fun x vs H Q => ∃ l xs y, x = .ref l ∧ vs = [y] ∧ H l = some (.lst xs) ∧ xs.length < sizeLine ∧ Q .non (upd H l (.lst (xs ++ [y])))

def rExtend : V → List V → Hp → VK → Prop := fun x vs H Q => ∃ l b xs zs, x = .ref l ∧ vs = [.ref b] ∧ H l = some (.lst xs) ∧ H b = some (.lst zs) ∧ xs.length + zs.length ≤ sizeLine ∧ Q .non (upd H l (.lst (xs ++ zs)))

def rPop : V → List V → Hp → VK → Prop := fun x vs H Q => ∃ l xs y, x = .ref l ∧ vs = [] ∧ H l = some (.lst xs) ∧ xs[xs.length - 1]? = some y ∧ Q y (upd H l (.lst xs.dropLast))

def rPopAt : V → List V → Hp → VK → Prop := fun x vs H Q => ∃ l xs i k y, x = .ref l ∧ vs = [.int i] ∧ H l = some (.lst xs) ∧ -(2 ^ 63) ≤ i ∧ i < 2 ^ 63 ∧ seqIndex? i xs.length = some k ∧ xs[k]? = some y ∧ Q y (upd H l (.lst (xs.eraseIdx k)))

def rReverse : V → List V → Hp → VK → Prop := fun x vs H Q => ∃ l xs, x = .ref l ∧ vs = [] ∧ H l = some (.lst xs) ∧ Q .non (upd H l (.lst xs.reverse))

def rClear : V → List V → Hp → VK → Prop := fun x vs H Q => ∃ l xs, x = .ref l ∧ vs = [] ∧ H l = some (.lst xs) ∧ Q .non (upd H l (.lst []))

/-! ### list + list, list += list, list * int -/
def rCat : R2 := fun x y H Q => ∃ l b xs zs, x = .ref l ∧ y = .ref b ∧ H l = some (.lst xs) ∧ H b = some (.lst zs) ∧ xs.length + zs.length ≤ sizeLine ∧ ∀ p, H p = none → Q (.ref p) (upd H p (.lst (xs ++ zs)))
theorem op_cat : OpR X (binaryOp .Add) rCat := by
  intro pins s σ H x y v u Q I rx ry h
  obtain ⟨l, b, xs, zs, rfl, rfl, hH, hB, hz, q⟩ := h
  cases rx
  cases ry
  obtain ⟨z, its, n, r, hl, e⟩ := I.lstM hH
  obtain ⟨z2, its2, n2, r2, hl2, e2⟩ := I.lstM hB
  refine PySem.P.add_list e e2 ?_ (by rw [List.size_toArray, List.size_toArray]; omega)
  have ea : its.toArray ++ its2.toArray = (its ++ its2).toArray := by simp
  rw [ea]
  exact ⟨.ref _, _, I.lnew (t' := s.toks) (r.append r2) (by rw [List.length_append]; omega), rfl, q _ I.fresh⟩
/-- a list times an int (a negative one is nothing) -/
def rRep : R2 := fun x y H Q => ∃ l k xs, x = .ref l ∧ y = .int k ∧ H l = some (.lst xs) ∧ -(2 ^ 63) ≤ k ∧ k < 2 ^ 63 ∧ xs.length * k.toNat ≤ sizeLine ∧
  ∀ p, H p = none → Q (.ref p) (upd H p (.lst (List.replicate k.toNat xs).flatten))
theorem len_rep {α : Type} (xs : List α) (k : Nat) : (List.replicate k xs).flatten.length = k * xs.length := by
  induction k with
  | zero => simp
  | succ k ih => rw [List.replicate_succ, List.flatten_cons, List.length_append, ih, Nat.succ_mul, Nat.add_comm]
theorem op_rep : OpR X (binaryOp .Mult) rRep := by
  intro pins s σ H x y v u Q I rx ry h
  obtain ⟨l, k, xs, rfl, rfl, hH, h1, h2, hz, q⟩ := h
  cases rx
  obtain ⟨t, rfl⟩ := ry
  obtain ⟨z, its, n, r, hl, e⟩ := I.lstM hH
  have hlen : its.toArray.size * k.toNat ≤ sizeLine := by rw [List.size_toArray, ← hl]; exact hz
  have hcap : ¬ its.toArray.size * k.toNat > (2 ^ 63 - 1) / 8 := by
    have : (sizeLine : Nat) ≤ (2 ^ 63 - 1) / 8 := by decide
    omega
  have hfit : ¬ (!Builtin.List.listFitsIndex k) = true := by
    rw [fitsIndex_both h1 h2]
    exact Bool.false_ne_true
  have hlong : ¬ Builtin.List.listTooLong (its.toArray.size * k.toNat) = true := by
    rw [notLongL hlen]
    exact Bool.false_ne_true
  have hnew : List.foldl (fun x1 x2 => x1 ++ x2) #[] (List.replicate (if its.toArray.isEmpty = true then 0 else k.toNat) its.toArray) = (List.replicate k.toNat its).flatten.toArray := by
    have f0 : ∀ m : Nat, List.foldl (fun x1 x2 => x1 ++ x2) #[] (List.replicate m its.toArray) = (List.replicate m its).flatten.toArray := fun m => by
      have := foldl_rep its m []
      rw [List.nil_append] at this
      exact this
    rw [f0]
    cases its with
    | nil => simp
    | cons a r' => rw [if_neg (by simp)]
  refine wpAny_binaryOp_repeat_ref (T := "list") (U := "int") (by decide) ⟨_, e, rfl⟩ (fun s' => typeIs_int s' k t) noFill_list_mul F.fills_int_mul F.slot_int_rmul repeat_list F.slot_int_index.lookup
    (call_meets F.slot_int_rmul (typeIs_int s k t) F.entry_int_rmul (F.args_int_rmul_2 _ _) (int___rmul___int_list k t l its.toArray n)
      ⟨e, rfl, ⟨_, e, rfl⟩, call_meets F.slot_list_mul ⟨_, e, rfl⟩ F.entry_list_mul (F.args_list_mul_2 _ _) (AutoListH.list___mul___list_int_3 l its.toArray n k t hfit hcap hlong) ⟨e, ?_⟩⟩)
  rw [hnew]
  exact ⟨.ref _, _, I.lnew (t' := s.toks) (r.rep k.toNat) (by rw [len_rep, Nat.mul_comm]; exact hz), rfl, q _ I.fresh⟩

/-! ### del xs[i] -/
end

/-! ### xs[a:b] = ys -/
section
variable {prog : Program} {w : World} {A : Around} {E : Value → Shared → Prop} {s : Shared}
end

section
variable {X : Cx}
end
end L2

namespace Att
open PySem PySem.W PySem.Calls PyProof.Rows

/-! ### the script -/
theorem ints_of_wellAll {P : Params} {h : Heap} : ∀ (ns : List Int) (vs : List Value), WellAll P h vs (ns.map WData.int) → IntsAre vs ns := by
  intro ns
  induction ns with
  | nil =>
    intro vs w
    rw [List.map_nil] at w
    cases w
    exact .nil
  | cons n ns ih =>
    intro vs w
    rw [List.map_cons] at w
    cases w with
    | cons a b =>
      cases a
      exact .cons _ _ (ih _ b)

theorem script_of {l : OpenLaw} {n : Nat} (hn : l.most = some n) {P : Params} {h : Heap} {args : List WData} {vals : List Value}
    (hpre : l.row.toRowW.claim.pre args = true) (hwl : WellAll P h vals args) :
    ∃ a vs ns, vals = [Value.ref a] ∧ args = [WData.list (ns.map WData.int)] ∧ h.get? a = some { cls := .type "list", data := .seq vs.toArray } ∧ IntsAre vs ns ∧ ns.length ≤ n := by
  have hsh : WShape.hasAll [] args [.list .int] = true := (pre_splitW hpre).1
  have hc : l.pre.holds [] { args := args } = true := (pre_splitW hpre).2
  obtain ⟨d, r, rfl, h1, h2⟩ := hasAllW_cons hsh
  obtain rfl := hasAllW_nil h2
  obtain ⟨xs, rfl, h3⟩ := hasW_list h1
  obtain ⟨ns, rfl⟩ := items_int h3
  have hlen : ns.length ≤ n := by
    unfold OpenLaw.pre at hc
    have h4 : (WTm.not (.lt (.lit (.int (n : Int))) (.len (.arg 0)))).holds [] { args := [.list (ns.map .int)] } = true := by
      have h4 := (holds_andW hc).1
      rw [hn] at h4
      exact h4
    have h5 := condW_of h4 (w_not (w_lt w_lit (w_len_list (w_arg rfl))))
    rw [List.length_map] at h5
    refine Nat.le_of_not_lt fun q => ?_
    have q' : (n : Int) < ((ns.length : Nat) : Int) := by omega
    first
      | (rw [decide_eq_true q'] at h5; exact absurd h5 (by decide))
      | (simp at h5; omega)
  cases hwl with
  | cons w1 w2 =>
    cases w2
    cases w1 with
    | list ho hall => exact ⟨_, _, ns, rfl, rfl, ho, ints_of_wellAll ns _ hall, hlen⟩

theorem post_true (l : OpenLaw) (args : List WData) : l.row.toRowW.claim.post args (.bool true) args = true :=
  postW_of (r := l.row.toRowW) (X := (true == true))
    (show WShape.has [] (.bool true) .bool = true by first | rfl | decide | simp [WShape.has, WShape.arms, WShape.armsAll])
    (show (WTm.eq .res (.lit (.bool true))).value [] { args := args, res := some (.bool true), after := args } = some (.bool (true == true)) from w_eq_bool (w_res rfl) w_lit) rfl

/-! ### the attachment: holds_open's last premise (the goal 'hc' behind k_head) from a wpAny of the law's body -/

/-- the same from a codeAny of the CALL (for a layer whose function contracts speak of calls) -/
theorem attach_call {l : OpenLaw} {n : Nat} {q : Program} {loose : List Str} {XP : (Str → Option Value) → Heap → Prop} {YP : World → Heap → Prop} {d : DefRec}
    (hn : l.most = some n) (hdf : d.params.defaults = [])
    (call : ∀ (w : World) (s₀ s₁ : Shared) (mg mb : Str → Option Value) (fa : Addr) (o : Obj) (pm cd doc : Value) (a : Addr) (vs : List Value) (ns : List Int),
      Ground q loose [] XP w s₀ mg mb s₁.heap → YP w s₁.heap →
      s₁.heap.get? fa = some o → o.data = .func (docDef d.name d.params d.body d.scope pm cd doc) → s₁.heap.CodeRec cd d.name → mg d.name = some (.ref fa) →
      s₁.heap.get? a = some { cls := .type "list", data := .seq vs.toArray } → IntsAre vs ns → ns.length ≤ n → s₁.gens = #[] →
      codeAny (model l.prog w) callerA (.call (.ref fa) ⟨[.ref a], []⟩) (fun r s' => r = .ok (.ret (.bool true)) ∧ OldK s₁.heap s'.heap ∧ s'.os = s₁.os ∧ AllBare s'.gens) s₁) :
    WalkO q loose XP YP l.row.toRowW d [] (fun f vs => PySem.call f vs) := by
  intro w s₀ s₁ mg mb G Y fa o pm cd doc dV kV ho hd hcd hD hmg hg args vals as hpre hlay hrd hwl hlo
  obtain rfl : dV = .none := Dflts.none hD hdf
  obtain rfl : kV = .none := Dflts.noKw hD
  obtain ⟨a, vs, ns, rfl, rfl, hobj, hints, hlen⟩ := script_of hn hpre hwl
  refine enter_call (codeAny_mono (call w s₀ s₁ mg mb fa o pm cd doc a vs ns G Y ho (fd_plain hd) hcd hmg hobj hints hlen hg) fun r s' hq => ?_)
  obtain ⟨rfl, h2, h3, h4⟩ := hq
  exact ⟨.inl ⟨.bool true, .bool true, [], rfl, fun _ => rfl, .bool true, post_true l _, fun _ => ⟨List.Pairwise.nil, fun _ hm => (nomatch hm)⟩⟩, h2, h3, h4⟩


/-! ### rules over ANY heap (no ledger) from facts about the written part K: the library's own take a ledger (News) for what they write -/
section
variable {prog : Program} {w : World} {A : Around} {E : Value → Shared → Prop} {s : Shared} {K : Frag}





/-! the whole heap as the ledger: makes every rule that writes through a ledger a rule over any heap -/
def noObjs (h : Heap) : Heap := { h with objs := #[] }
def ledger (h : Heap) (L d : Addr) : List (Addr × Obj) := (List.range h.objs.size).filterMap fun a => if a = L ∨ a = d then none else (h.get? a).map fun o => (a, o)

end
end Att

namespace L2
open PySem PySem.Spec PyProof.Rows

theorem vals_ints : ∀ {vs : List Value} {ns : List Int}, IntsAre vs ns → Vals (ns.map V.int) vs
  | _, _, .nil => .nil
  | _, _, .cons n t h => .cons ⟨t, rfl⟩ (vals_ints h)

/-- nothing is tracked but the script, known to the object (or it is an object of the module) -/
def Only (H : Hp) : Prop := ∀ b, H b = none ∨ ∃ o xs, H b = some (.frz o (.lst xs))

/-- THE HEAD: the law's promise, at the heap behind the top. F, the promise of the law's def, may use that base is part of the heap (so K.In base, base.Ns mainGlobals mg stand in Mod) -/
theorem law_call {P : Program} {w : World} {K : PySem.W.Frag} {mg mb : Str → Option Value} {CX : CXT} {k : Nat} {fa a : Addr} {fd : FuncData} {x : Str} {sp : Sp} {s₁ : Shared} {vs : List Value} {ns : List Int}
    (KX : K.In s₁.heap) (hns : s₁.heap.Ns mainGlobals mg) (hb : s₁.heap.Ns builtinsNs mb) (hbb : ∀ x : Str, x ≠ "__name__" → mb x = bootBuiltins x) (hlim : s₁.heap.NoLimit) (hg : s₁.gens = #[])
    (ha : s₁.heap.get? a = some { cls := .type "list", data := .seq vs.toArray }) (hi : IntsAre vs ns) (hl : ns.length ≤ sizeLine) (hr : Room k callerA)
    (F : ∀ base : Heap, K.In base → base.Ns mainGlobals mg → FnOk P w K mg base CX k fa fd [x] sp) (hbind : ∀ (s : Shared) (u : Value), BindsTo s fd ⟨[u], []⟩ [(x, u)])
    (hsp : ∀ H : Hp, Only H → SqL K H a (ns.map V.int) → sp [.ref a] H (fun v _ => v = .bl true) fun _ _ _ => False)
    (hCX : ∀ H e s', CX [] H s₁ (fun _ _ _ => False) e s' → False) :
    codeAny (model P w) callerA (.call (.ref fa) ⟨[.ref a], []⟩) (fun r s' => r = .ok (.ret (.bool true)) ∧ OldK s₁.heap s'.heap ∧ s'.os = s₁.os ∧ AllBare s'.gens) s₁ := by
  have rv := vals_ints hi
  have lenV := hi.length
  -- from an abstract heap in which nothing but the script may be tracked
  have core : ∀ H : Hp, Only H → SqL K H a (ns.map V.int) → HOk P w H s₁.heap → (∀ b, H b ≠ none → b = a) → (H a ≠ none → K.lookup a = none) →
      codeAny (model P w) callerA (.call (.ref fa) ⟨[.ref a], []⟩) (fun r s' => r = .ok (.ret (.bool true)) ∧ OldK s₁.heap s'.heap ∧ s'.os = s₁.os ∧ AllBare s'.gens) s₁ := by
    intro H hO hS hok hA hK
    have base_of : ∀ {b : Addr} {o : Obj}, s₁.heap.get? b = some o → H b = none → (hidT s₁.heap H).get? b = some o := fun e n => hidT_get e n
    have noA : ∀ {b : Addr} {o : Obj} {es : Array DictEntry} {ep : Nat}, s₁.heap.get? b = some o → o.data = .dict es ep → H b = none := fun {b o es ep} e d => by
      cases q : H b with
      | none => rfl
      | some u =>
        have e' : b = a := hA b (by rw [q]; simp)
        subst e'
        rw [ha] at e; cases e
        have d' : Data.seq vs.toArray _ = Data.dict es ep := d
        cases d'
    have nsK : ∀ {b : Addr} {m : Str → Option Value}, s₁.heap.Ns b m → (hidT s₁.heap H).Ns b m := fun {b m} ⟨o, es, ep, e, d, r⟩ => ⟨o, es, ep, base_of e (noA e d), d, r⟩
    have hKb : K.In (hidT s₁.heap H) := fun b o e => base_of (KX b o e) (by
      cases q : H b with
      | none => rfl
      | some u =>
        have e' : b = a := hA b (by rw [q]; simp)
        subst e'
        rw [hK (by rw [q]; simp)] at e; cases e)
    have hM : Mod K mg (hidT s₁.heap H) := ⟨hKb, nsK hns, ⟨mb, nsK hb, hbb⟩, let ⟨mc, h1, h2⟩ := hlim; ⟨mc, nsK h1, h2⟩⟩
    have e0 : Env0 P w K mg (hidT s₁.heap H) callerA [] s₁ H := ⟨rfl, hM, fun b o e => of_hidT e, Nat.le_of_eq (hidT_size _ _), trivial, fun b hb => absurd (show b ∈ ([] : List Addr) from hb) (by simp), hok, .of_eq hg⟩
    refine codeAny_mono ((F _ hKb (nsK hns)).run callerA [] s₁ H ⟨[.ref a], []⟩ [.ref a] [.ref a] _ _ hr e0 (hbind s₁ (.ref a)) (.cons rfl .nil) (hsp H hO hS)) fun r s' h => ?_
    cases r with
    | error e => exact (hCX H e s' h).elim
    | ok fl =>
      cases fl with
      | next => exact False.elim h
      | brk => exact False.elim h
      | cont => exact False.elim h
      | ret u =>
        obtain ⟨v, H', os, bare, un, hok', r', q⟩ := h
        have q' : v = .bl true := q
        subst q'
        obtain rfl : u = Value.bool true := r'
        refine ⟨rfl, OldK.of_keep fun b o e => ?_, os, bare⟩
        cases q : H b with
        | none => exact un.keep b o e q (by intro z; exact absurd (show b ∈ ([] : List Addr) from z) (by simp)) (by simp)
        | some u =>
          rcases hO b with z | ⟨ob, xs, z⟩
          · rw [q] at z; cases z
          · have z2 := un.frzs b ob _ z
            obtain ⟨e1, _⟩ := hok b _ z
            obtain ⟨e2, _⟩ := hok' b _ z2
            rw [e] at e1; cases e1
            exact e2
  cases hk : K.lookup a with
  | some o =>
    -- the script is one of the module's own objects
    have e := KX a o hk
    rw [ha] at e
    cases e
    refine core (fun _ => none) (fun _ => .inl rfl) (.inr ⟨_, vs.toArray, _, hk, rfl, rfl, rfl, by rw [List.size_toArray, lenV]; exact hl, by simpa using rv⟩) (fun b u z => by have z' : (none : Option HO) = some u := z; cases z') (fun b z => absurd rfl z) fun z => absurd rfl z
  | none =>
    refine core (fun b => if b = a then some (.frz { cls := .type "list", data := .seq vs.toArray } (.lst (ns.map V.int))) else none) (fun b => ?_) (.inl (.inr ⟨{ cls := .type "list", data := .seq vs.toArray }, if_pos rfl⟩)) (fun b u z => ?_) (fun b z => ?_) fun _ => hk
    · by_cases hb : b = a
      · exact .inr ⟨_, _, if_pos hb⟩
      · exact .inl (if_neg hb)
    · by_cases hb : b = a
      · have z' := (if_pos hb).symm.trans z
        cases z'
        subst hb
        exact ⟨ha, by rw [List.length_map]; exact hl, vs, _, rv, ha⟩
      · have z' := (if_neg hb).symm.trans z
        cases z'
    · by_cases hb : b = a
      · exact hb
      · exact absurd (if_neg hb) z
end L2

namespace L2
open PySem PySem.Spec PyProof.Rows

abbrev KOf {K : PySem.W.Frag} {h : Heap} (_ : K.In h) : PySem.W.Frag := K

/-- the goal that k_head leaves (case hc), from the law's promise. F gives the function object fd (K's own) once, then the promise over every base -/
theorem walk_of {l : PySem.W.OpenLaw} {n k : Nat} {q : Program} {loose : List Str} {XP : (Str → Option Value) → Heap → Prop} {YP : World → Heap → Prop} {d : DefRec} {K : Params → PySem.W.Frag} {CX : World → CXT} {sp : World → Sp} {x : Str}
    (hn : l.most = some n) (hn2 : n ≤ sizeLine) (hdf : d.params.defaults = []) (hr : Room k callerA)
    (hY : ∀ (w : World) (h : Heap), YP w h → (K w.params).In h)
    (F : ∀ (w : World) (mg : Str → Option Value) (fa : Addr) (h : Heap), (K w.params).In h → h.Ns mainGlobals mg → mg d.name = some (.ref fa) →
      ∃ fd : FuncData, (∀ (s : Shared) (u : Value), BindsTo s fd ⟨[u], []⟩ [(x, u)]) ∧
        ∀ base : Heap, (K w.params).In base → base.Ns mainGlobals mg → FnOk l.prog w (K w.params) mg base (CX w) k fa fd [x] (sp w))
    (hsp : ∀ (w : World) (H : Hp) (a : Addr) (ns : List Int), ns.length ≤ n → Only H → SqL (K w.params) H a (ns.map V.int) → sp w [.ref a] H (fun v _ => v = .bl true) fun _ _ _ => False)
    (hCX : ∀ (w : World) (H : Hp) (s : Shared) (e : Value) (s' : Shared), CX w [] H s (fun _ _ _ => False) e s' → False) :
    PySem.W.WalkO q loose XP YP l.row.toRowW d [] (fun f vs => PySem.call f vs) := by
  refine Att.attach_call hn hdf fun w s₀ s₁ mg mb fa o pm cd doc a vs ns G Y ho hd hcd hmg hobj hints hlen hg => ?_
  have KX := hY w _ Y
  obtain ⟨fd, hb, hF⟩ := F w mg fa _ KX G.T.g hmg
  exact law_call KX G.T.g G.T.b G.T.builtins G.T.nolimit hg hobj hints (Nat.le_trans hlen hn2) hr hF hb (fun H hO hS => hsp w H a ns hlen hO hS) fun H e s' => hCX w H s₁ e s'
end L2

/- THE LAST THEOREM (shape; LID, My.* are yours):
   My.Adr: a structure of the addresses that your layer names (classes, functions); My.Txt K t: a structure (Prop) of the equations over K;
   My.txt_mk : {K} {implicit addresses ..} (e1 : nsIn K mainGlobals "law" = some (some (.ref f))) (e2 : K.lookup f = some ⟨oc, od, .func (fnOf "law" "law" params body scope dV kV doc pm an cdv ct), sl⟩) (e3 : codeIn K cdv "law" = true) .. : ∃ t, My.Txt K t

set_option maxRecDepth 100000 in
set_option maxHeartbeats 0 in
theorem PySem.Challenge.cw_LID_holds : PySem.Challenge.rw_LID.Holds := by
  w_on; o_law; k_head; (case hw => w_witness2)
  k_fill
  refine L2.walk_of (l := PySem.Challenge.rw_LID) (n := 63) (k := 40) (x := "script") (CX := fun w => ..) (sp := fun _ => My.sp_law) rfl (by decide) rfl ⟨rfl, by decide, by decide⟩ (fun w h Y => PySem.W.kIn_of Y) ?F ?S ?C
  case F =>
    intro w mg fa h KX G hmg
    have T : ∃ t, My.Txt (L2.KOf KX) t := by
      dsimp only [L2.KOf]                          -- K must stand as «<heap const> w.params» for k_is
      refine' My.txt_mk ?e1 ?e2 ?e3 ..
      (case e1 => PySem.W.k_is)                    -- in the order: a name -> its address -> its object -> its parts
      (case e2 => PySem.W.k_is)
      ..
    obtain ⟨t, T⟩ := T
    have e0 := hmg.symm.trans (PySem.W.mg_of KX G T.law)
    cases e0                                       -- fa is the law's own address
    exact ⟨_, fun s u => .of_eq rfl, fun base kb nb => My.law_fn T kb nb⟩     -- if «.of_eq rfl» comes too early: refine' ⟨_, ?b, fun base kb nb => My.law_fn T kb nb⟩; exact fun s u => .of_eq rfl
  case S => exact fun w H a ns hl hO hS => ..
  case C => exact ..
(the tactic k_is has no namespace: write k_is) -/

/-! SHORT WORDS over the layer: a def of the text, its body, what a loop and a test want. -/
namespace L2
open PySem PySem.Spec PyProof.Rows

/-! ### the text by places -/
/-- the j-th statement of a class's body -/
def inClass (s : Stmt) (j : Nat) : Stmt := match s with
  | .ClassDef _ _ _ body _ _ _ _ _ _ _ => body.getD j (.Pass ⟨0, 0, 0, 0⟩)
  | _ => .Pass ⟨0, 0, 0, 0⟩
def defArgs (s : Stmt) : Arguments := match s with
  | .FunctionDef _ a _ _ _ _ _ _ _ _ => a
  | _ => { posonlyargs := [], args := [], vararg := none, kwonlyargs := [], kw_defaults := [], kwarg := none, defaults := [] }
def defBody (s : Stmt) : List Stmt := match s with
  | .FunctionDef _ _ b _ _ _ _ _ _ _ => b
  | _ => []
def defScope (s : Stmt) : Scope := match s with
  | .FunctionDef _ _ _ _ _ _ sc _ _ _ => sc
  | _ => { kind := .function, names := [], isGenerator := false, isCoroutine := false }

/-! ### no exception leaves a def -/
abbrev CX0 : CXT := fun _ _ _ _ _ _ => False
abbrev E0 : XK := fun _ _ _ => False
theorem pass0 {X : Cx} : Passes CX0 X E0 := fun _ _ _ _ _ _ _ h => h.elim

/-! ### a def (or method) of the text as it stands behind the top -/
structure Fun (K : PySem.W.Frag) (x qual : Str) (st : Stmt) (f : Addr) (fd : FuncData) : Prop where
  ex : ∃ (oc : Value) (od : Option Addr) (kV doc pm : Value) (an : Option Addr) (cdv ct : Value) (osl : Array (Option Value)),
    fd = PySem.W.fnOf x qual (defArgs st) (defBody st) (defScope st) .none kV doc pm an cdv ct ∧ K.lookup f = some ⟨oc, od, .func fd, osl⟩ ∧ PySem.W.codeIn K cdv qual = true
  kp : PySem.W.keepIn K (.ref f) = true
section
variable {P : Program} {w : World} {K : PySem.W.Frag} {mg : Str → Option Value} {base : Heap}
/-- THE RULE for a def: its body as a term of rules, and the reading of that term -/
theorem Fun.ok {x qual : Str} {st : Stmt} {f : Addr} {fd : FuncData} {N ps : List Str} {k : Nat} {sp : Sp} (F : Fun K x qual st f fd) (S : FnScope N ps (defScope st)) (len : ∀ vs H Q E, sp vs H Q E → vs.length = ps.length)
    (hbody : ∀ (cdv : Value) (A : Around) (outer : List Env) (s : Shared) (H : Hp) (vs : List V) (Q : VK) (E : XK), Room k (A.deeper (envOfC qual (defScope st) s.heap.objs.size f cdv)) → sp vs H Q E →
      ∃ t, PSs (cxOf CX0 P w K mg base N qual (defScope st) f cdv A outer s H E).nox (defBody st) t ∧ t { nx := fun _ H' => Q .non H', rt := Q } (start N vs) H) : FnOk P w K mg base CX0 (k + 1) f fd ps sp := by
  obtain ⟨oc, od, kV, doc, pm, an, cdv, ct, osl, rfl, lk, hcd⟩ := F.ex
  refine fn_of lk hcd S len fun A outer s H vs Q E hr hsp => ?_
  obtain ⟨t, h, q⟩ := hbody cdv A outer s H vs Q E hr hsp
  exact ⟨t, h.nox, q⟩
/-- how its arguments bind (no defaults): h is «fun _ _ _ _ _ _ us hl => match us, hl with | [_, _], _ => rfl», one _ a parameter -/
theorem Fun.binds {x qual : Str} {st : Stmt} {f : Addr} {fd : FuncData} {ps : List Str} (F : Fun K x qual st f fd)
    (h : ∀ (kV doc pm : Value) (an : Option Addr) (cdv ct : Value) (us : List Value), us.length = ps.length → bindArgs (PySem.W.fnOf x qual (defArgs st) (defBody st) (defScope st) .none kV doc pm an cdv ct) ⟨us, []⟩ = pure (ps.zip us)) : Binds K fd ps [] := by
  obtain ⟨oc, od, kV, doc, pm, an, cdv, ct, osl, rfl, lk, hcd⟩ := F.ex
  exact .all (h kV doc pm an cdv ct)
theorem fun_mk {x qual : Str} {st : Stmt} {f : Addr} {oc : Value} {od an : Option Addr} {osl : Array (Option Value)} {kV doc pm cdv ct : Value} (l : K.lookup f = some ⟨oc, od, .func (PySem.W.fnOf x qual (defArgs st) (defBody st) (defScope st) .none kV doc pm an cdv ct), osl⟩)
    (c : PySem.W.codeIn K cdv qual = true) (k : PySem.W.keepIn K (.ref f) = true) : Fun K x qual st f (PySem.W.fnOf x qual (defArgs st) (defBody st) (defScope st) .none kV doc pm an cdv ct) := ⟨⟨oc, od, kV, doc, pm, an, cdv, ct, osl, rfl, l, c⟩, k⟩
end
theorem hu_of {A : Around} {k : Nat} (hr : Room k A) : A.units + 1 < cLine := Nat.lt_of_le_of_lt (Nat.add_le_add_left (by decide : 1 ≤ 64) _) hr.units

/-! ### expressions in short: the name that stands in the i-th slot -/
section
variable {X : Cx}
theorem pv (i : Nat) {x : Str} {pos : Pos} (hN : X.N[i]? = some x := by rfl) (hv : Vis X.env.scope x := by first | exact Or.inl rfl | exact Or.inr (Or.inl rfl) | exact Or.inr (Or.inr rfl)) (hd : (x == ("__debug__" : Str)) = false := by decide)
    (hcd : (x == ("__classdict__" : Str)) = false := by decide) : PE X (.Name x pos) (tVar i) := pe_var hN hv hd hcd
end

/-! ### tests -/
theorem iteF {A B : Prop} (h : B) : if false = true then A else B := by
  rw [if_neg Bool.false_ne_true]
  exact h
theorem iteT {A B : Prop} (h : A) : if true = true then A else B := by
  rw [if_pos rfl]
  exact h
theorem ite2 {c A B : Prop} [Decidable c] (h1 : c → A) (h2 : ¬ c → B) : if c then A else B := by
  by_cases h : c
  · rw [if_pos h]
    exact h1 h
  · rw [if_neg h]
    exact h2 h

/-! ### heaps -/
/-- all that was tracked is as it was -/
def Same (H H' : Hp) : Prop := ∀ b o, H b = some o → H' b = some o
theorem Same.refl (H : Hp) : Same H H := fun _ _ h => h
theorem Same.trans {H H1 H2 : Hp} (a : Same H H1) (b : Same H1 H2) : Same H H2 := fun c o h => b c o (a c o h)
theorem Same.free {H H' : Hp} (e : Same H H') {l : Addr} (h : H' l = Option.none) : H l = Option.none := by
  cases q : H l with
  | none => rfl
  | some o =>
    rw [e l o q] at h
    cases h
theorem Same.seq {K : PySem.W.Frag} {H H' : Hp} {a : Addr} {xs : List V} (e : Same H H') (h : SqL K H a xs) : SqL K H' a xs := by
  rcases h with (h | ⟨o, h⟩) | h
  · exact .inl (.inl (e _ _ h))
  · exact .inl (.inr ⟨o, e _ _ h⟩)
  · exact .inr h

end L2

set_option maxHeartbeats 4000000

namespace L2
open PySem PySem.Spec PyProof.Rows
/-! ### lists of pairs as tables -/
section
variable {κ : Type} [DecidableEq κ]
def valV (kvs : List (κ × V)) (k : κ) : Option V := (kvs.find? fun kv => decide (kv.1 = k)).map (·.2)
/-- in its place, or at the end -/
def putK (kvs : List (κ × V)) (k : κ) (v : V) : List (κ × V) :=
  if (kvs.any fun kv => decide (kv.1 = k)) = true then kvs.map (fun kv => if kv.1 = k then (kv.1, v) else kv) else kvs ++ [(k, v)]
def dropK (kvs : List (κ × V)) (k : κ) : List (κ × V) := kvs.filter fun kv => decide (kv.1 ≠ k)

theorem valV_pos {p : κ × V} {r : List (κ × V)} {k : κ} (e : p.1 = k) : valV (p :: r) k = some p.2 := by simp [valV, List.find?_cons, e]
theorem valV_neg {p : κ × V} {r : List (κ × V)} {k : κ} (e : ¬ p.1 = k) : valV (p :: r) k = valV r k := by simp [valV, List.find?_cons, e]
theorem valV_any (k : κ) : ∀ kvs : List (κ × V), (kvs.any fun kv => decide (kv.1 = k)) = (valV kvs k).isSome
  | [] => rfl
  | p :: r => by
    rw [List.any_cons]
    by_cases e : p.1 = k
    · simp only [valV_pos e, decide_eq_true e, Bool.true_or, Option.isSome_some]
    · rw [valV_neg e, decide_eq_false e, Bool.false_or]; exact valV_any k r
theorem length_putK (kvs : List (κ × V)) (k : κ) (v : V) : (putK kvs k v).length ≤ kvs.length + 1 := by
  unfold putK
  split
  · rw [List.length_map]; omega
  · rw [List.length_append, List.length_cons, List.length_nil]; omega

theorem RelO.isSome_eq {o : Option V} {u : Option Value} (r : RelO o u) : o.isSome = u.isSome := by
  cases o with
  | none => cases u with
    | none => rfl
    | some _ => exact (show False from r).elim
  | some _ => cases u with
    | none => exact (show False from r).elim
    | some _ => rfl
theorem RelO.getD {o : Option V} {u : Option Value} {d : V} {d' : Value} (r : RelO o u) (rd : RelV d d') : RelV (o.getD d) (u.getD d') := by
  cases o with
  | none => cases u with
    | none => exact rd
    | some _ => exact (show False from r).elim
  | some _ => cases u with
    | none => exact (show False from r).elim
    | some _ => exact r

/-- raw tables of the same keys -/
theorem KV.val {kvs : List (κ × V)} {vs : List (κ × Value)} (r : KV kvs vs) (k : κ) : RelO (valV kvs k) (valueAt vs k) := by
  unfold KV at r
  induction r with
  | nil => exact True.intro
  | @cons p q ps qs h t ih =>
    obtain ⟨h1, h2⟩ := h
    by_cases e : p.1 = k
    · have e' : q.1 = k := h1.symm.trans e
      have b : valueAt (q :: qs) k = some q.2 := by simp [valueAt, List.find?_cons, e']
      rw [valV_pos e, b]; exact h2
    · have e' : ¬ q.1 = k := fun z => e (h1.trans z)
      have b : valueAt (q :: qs) k = valueAt qs k := by simp [valueAt, List.find?_cons, e']
      rw [valV_neg e, b]; exact ih
theorem KV.any {kvs : List (κ × V)} {vs : List (κ × Value)} (r : KV kvs vs) (k : κ) : (kvs.any fun kv => decide (kv.1 = k)) = vs.any fun kv => decide (kv.1 = k) := by
  unfold KV at r
  induction r with
  | nil => rfl
  | cons h t ih => rw [List.any_cons, List.any_cons, ih, h.1]
theorem KV.repl {kvs : List (κ × V)} {vs : List (κ × Value)} (r : KV kvs vs) (k : κ) {y : V} {u : Value} (ry : RelV y u) :
    KV (kvs.map fun kv => if kv.1 = k then (kv.1, y) else kv) (vs.map fun kv => if kv.1 = k then (kv.1, u) else kv) := by
  unfold KV at r ⊢
  induction r with
  | nil => exact .nil
  | @cons p q ps qs h t ih =>
    rw [List.map_cons, List.map_cons]
    refine .cons ?_ ih
    obtain ⟨h1, h2⟩ := h
    by_cases e : p.1 = k
    · rw [if_pos e, if_pos (h1.symm.trans e)]; exact ⟨h1, ry⟩
    · rw [if_neg e, if_neg (fun z => e (h1.trans z))]; exact ⟨h1, h2⟩
theorem KV.put {kvs : List (κ × V)} {vs : List (κ × Value)} (r : KV kvs vs) (k : κ) {y : V} {u : Value} (ry : RelV y u) : KV (putK kvs k y) (stored vs k u) := by
  unfold putK stored
  rw [r.any k]
  by_cases e : (vs.any fun kv => decide (kv.1 = k)) = true
  · rw [if_pos e, if_pos e]; exact r.repl k ry
  · rw [if_neg e, if_neg e]; exact Paired.snoc r ⟨rfl, ry⟩
theorem KV.drop {kvs : List (κ × V)} {vs : List (κ × Value)} (r : KV kvs vs) (k : κ) : KV (dropK kvs k) (without vs k) := by
  unfold KV at r ⊢
  unfold dropK without
  induction r with
  | nil => exact .nil
  | @cons p q ps qs h t ih =>
    obtain ⟨h1, h2⟩ := h
    rw [List.filter_cons, List.filter_cons]
    by_cases e : p.1 = k
    · have a : ¬ decide (p.1 ≠ k) = true := by simp [e]
      have b : ¬ decide (q.1 ≠ k) = true := by simp [h1.symm.trans e]
      rw [if_neg a, if_neg b]; exact ih
    · have e' : ¬ q.1 = k := fun z => e (h1.trans z)
      have a : decide (p.1 ≠ k) = true := by simp [e]
      have b : decide (q.1 ≠ k) = true := by simp [e']
      rw [if_pos a, if_pos b]; exact .cons ⟨h1, h2⟩ ih
theorem KV.keys {kvs : List (κ × V)} {vs : List (κ × Value)} (r : KV kvs vs) : kvs.map (·.1) = vs.map (·.1) := by
  unfold KV at r
  induction r with
  | nil => rfl
  | cons h t ih => rw [List.map_cons, List.map_cons, ih, h.1]
theorem KV.length {kvs : List (κ × V)} {vs : List (κ × Value)} (r : KV kvs vs) : kvs.length = vs.length := Paired.length r
end


/-! ### a tracked dict, its keys ints and texts or tuples of these -/
theorem kV_is {P : Program} {w : World} {k : Key} {u : Value} (r : RelV (kV k) u) : (mixKind P w).is k u = true := by
  cases k with
  | inl i => obtain ⟨t, e⟩ := (show ∃ t, u = Value.int i t from r); subst e; exact mixKind_int P w i t
  | inr x => obtain ⟨t, e⟩ := (show ∃ t, u = Value.str x t from r); subst e; exact mixKind_str P w x t
theorem items_are {P : Program} {w : World} : ∀ {ks : List Key} {us : List Value}, Vals (ks.map kV) us → ItemsAre (mixKind P w) ks us
  | [], _, r => by rw [List.map_nil] at r; cases r; exact .nil
  | k :: ks, _, r => by
    rw [List.map_cons] at r
    cases r with
    | cons h t => exact .cons (kV_is h) (items_are t)

/-- raw entries of a dict with tuple keys -/
abbrev KT (H : Hp) : List (List Key × V) → List (List Key × Addr × Value) → Prop := Paired fun p q => p.1 = q.1 ∧ H q.2.1 = some (.tup (p.1.map kV)) ∧ RelV p.2 q.2.2
theorem KT.val {H : Hp} {kvs : List (List Key × V)} {xs : List (List Key × Addr × Value)} (r : KT H kvs xs) (k : List Key) : RelO (valV kvs k) ((atKey xs k).map (·.2)) := by
  induction r with
  | nil => exact True.intro
  | @cons p q ps qs h t ih =>
    obtain ⟨h1, _, h2⟩ := h
    by_cases e : p.1 = k
    · have e' : q.1 = k := h1.symm.trans e
      have b : atKey (q :: qs) k = some q.2 := by simp [atKey, List.find?_cons, e']
      rw [valV_pos e, b]; exact h2
    · have e' : ¬ q.1 = k := fun z => e (h1.trans z)
      have b : atKey (q :: qs) k = atKey qs k := by simp [atKey, List.find?_cons, e']
      rw [valV_neg e, b]; exact ih
theorem KT.repl {H : Hp} {kvs : List (List Key × V)} {xs : List (List Key × Addr × Value)} (r : KT H kvs xs) (k : List Key) {y : V} {u : Value} (ry : RelV y u) :
    KT H (kvs.map fun kv => if kv.1 = k then (kv.1, y) else kv) (xs.map (putAt k u)) := by
  induction r with
  | nil => exact .nil
  | @cons p q ps qs h t ih =>
    rw [List.map_cons, List.map_cons]
    refine .cons ?_ ih
    obtain ⟨h1, h2, h3⟩ := h
    unfold putAt
    by_cases e : p.1 = k
    · rw [if_pos e, if_pos (h1.symm.trans e)]; exact ⟨h1, h2, ry⟩
    · rw [if_neg e, if_neg (fun z => e (h1.trans z))]; exact ⟨h1, h2, h3⟩
theorem KT.put {H : Hp} {kvs : List (List Key × V)} {xs : List (List Key × Addr × Value)} (r : KT H kvs xs) (k : List Key) {b : Addr} {y : V} {u : Value} (hb : H b = some (.tup (k.map kV))) (ry : RelV y u) :
    KT H (putK kvs k y) (storedH xs k b u) := by
  have e : (kvs.any fun kv => decide (kv.1 = k)) = (atKey xs k).isSome := by
    rw [valV_any, (r.val k).isSome_eq, Option.isSome_map]
  unfold putK storedH
  rw [e]
  by_cases q : (atKey xs k).isSome = true
  · rw [if_pos q, if_pos q]; exact r.repl k ry
  · rw [if_neg q, if_neg q]; exact Paired.snoc r ⟨rfl, hb, ry⟩
theorem KT.keeps {H H' : Hp} {kvs : List (List Key × V)} {xs : List (List Key × Addr × Value)} (r : KT H kvs xs) (ht : ∀ b ys, H b = some (.tup ys) → H' b = some (.tup ys)) : KT H' kvs xs :=
  Paired.mapP r fun _ _ z => ⟨z.1, ht _ _ z.2.1, z.2.2⟩

section
variable {P : Program} {w : World} {H : Hp} {h : Heap} {a : Addr}
theorem rd_of {u : HO} (ok : HOk P w H h) (e : Rd H a u) : ObjOk P w H h a u := e.ok ok
theorem dk_rd {kvs : List (Key × V)} (ok : HOk P w H h) (e : Rd H a (.dK kvs)) : kvs.length ≤ sizeLine ∧ (a == sysModules) = false ∧ ∃ vs, KV kvs vs ∧ h.DictOf (mixKind P w) a vs :=
  show ObjOk P w H h a (.dK kvs) from rd_of ok e
theorem dk_of {kvs : List (Key × V)} (ok : HOk P w H h) (e : H a = some (.dK kvs)) : kvs.length ≤ sizeLine ∧ (a == sysModules) = false ∧ ∃ vs, KV kvs vs ∧ h.DictOf (mixKind P w) a vs := dk_rd ok (.inl e)
/-- a tracked tuple of ints and texts is a key -/
theorem key_of {ks : List Key} (ok : HOk P w H h) (e : H a = some (.tup (ks.map kV))) : (tupleKind (mixKind P w)).is h ks a := by
  obtain ⟨_, its, r, o, h1, h2, n, h3⟩ := (show ObjOk P w H h a (.tup (ks.map kV)) from ok a _ e)
  exact ⟨o, its.toArray, n, h1, h2.1, h3, by simpa using items_are r⟩
theorem dt_rd {kvs : List (List Key × V)} (ok : HOk P w H h) (e : Rd H a (.dT kvs)) : kvs.length ≤ sizeLine ∧ (a == sysModules) = false ∧
    ∃ xs, KT H kvs xs ∧ h.DictOfH (tupleKind (mixKind P w)) a xs := by
  obtain ⟨z, y, xs, r, o, es, ep, h1, h2, h3, h4, h5⟩ := (show ObjOk P w H h a (.dT kvs) from rd_of ok e)
  refine ⟨z, y, xs, r, o, es, ep, h1, h2, h3, h4, fun x hx => ?_, h5⟩
  have all : ∀ {l : List (List Key × V)} {m : List (List Key × Addr × Value)}, KT H l m → ∀ x ∈ m, (tupleKind (mixKind P w)).is h x.1 x.2.1 := by
    intro l m q
    induction q with
    | nil => intro x hx; exact nomatch hx
    | @cons p q ps qs hq t ih =>
      intro x hx
      rcases List.mem_cons.mp hx with e | hx
      · subst e
        exact key_of ok (by rw [← hq.1]; exact hq.2.1)
      · exact ih x hx
  exact all r x hx
theorem dt_of {kvs : List (List Key × V)} (ok : HOk P w H h) (e : H a = some (.dT kvs)) : kvs.length ≤ sizeLine ∧ (a == sysModules) = false ∧
    ∃ xs, KT H kvs xs ∧ h.DictOfH (tupleKind (mixKind P w)) a xs := dt_rd ok (.inl e)
end

/-- what the dict at a holds at the key y -/
def DGet (H : Hp) (a : Addr) (y : V) (r : Option V) : Prop :=
  (∃ kvs k, Rd H a (.dK kvs) ∧ y = kV k ∧ r = valV kvs k) ∨ ∃ kvs k b, Rd H a (.dT kvs) ∧ y = .ref b ∧ H b = some (.tup (k.map kV)) ∧ r = valV kvs k
/-- the heap behind a[y] = v -/
def DPut (H : Hp) (a : Addr) (y v : V) (H' : Hp) : Prop :=
  (∃ kvs k, H a = some (.dK kvs) ∧ y = kV k ∧ kvs.length < sizeLine ∧ H' = upd H a (.dK (putK kvs k v))) ∨
  ∃ kvs k b, H a = some (.dT kvs) ∧ y = .ref b ∧ H b = some (.tup (k.map kV)) ∧ kvs.length < sizeLine ∧ H' = upd H a (.dT (putK kvs k v))
theorem DGet.k {H : Hp} {a : Addr} {kvs : List (Key × V)} {k : Key} (e : H a = some (.dK kvs)) : DGet H a (kV k) (valV kvs k) := .inl ⟨kvs, k, .inl e, rfl, rfl⟩
theorem DGet.t {H : Hp} {a b : Addr} {kvs : List (List Key × V)} {k : List Key} (e : H a = some (.dT kvs)) (eb : H b = some (.tup (k.map kV))) : DGet H a (.ref b) (valV kvs k) := .inr ⟨kvs, k, b, .inl e, rfl, eb, rfl⟩
theorem DPut.k {H : Hp} {a : Addr} {kvs : List (Key × V)} {k : Key} {v : V} (e : H a = some (.dK kvs)) (hl : kvs.length < sizeLine) : DPut H a (kV k) v (upd H a (.dK (putK kvs k v))) := .inl ⟨kvs, k, e, rfl, hl, rfl⟩
theorem DPut.t {H : Hp} {a b : Addr} {kvs : List (List Key × V)} {k : List Key} {v : V} (e : H a = some (.dT kvs)) (eb : H b = some (.tup (k.map kV))) (hl : kvs.length < sizeLine) :
    DPut H a (.ref b) v (upd H a (.dT (putK kvs k v))) := .inr ⟨kvs, k, b, e, rfl, eb, hl, rfl⟩


section
variable {X : Cx} {pins : List (Addr × Obj)} {σ : St} {H : Hp} {s : Shared} {a : Addr} {y v : V} {u r : Value} {o : Option V} {A : Around} {E : Value → Shared → Prop}

theorem Inv.big (I : Inv X pins σ H s) : sysModules < s.heap.objs.size := by
  have h : mainGlobals < s.heap.objs.size := (I.mod.glob.keeps I.bk).lt
  exact Nat.lt_trans (by decide) h

/-- d[y], there -/
theorem d_getItem {Q : Value → Shared → Prop} (hu : A.units + 1 < cLine) (I : Inv X pins σ H s) (g : DGet H a y (some v)) (ry : RelV y u) (h : ∀ w' s', Inv X pins σ H s' → RelV v w' → Q w' s') :
    wpAny (model X.prog X.w) A (getItem (.ref a) u) Q E s := by
  rcases g with ⟨kvs, k, e, ey, l⟩ | ⟨kvs, k, b, e, ey, eb, l⟩
  · subst ey
    obtain ⟨z, hd, vs, rel, dd⟩ := dk_rd I.hok e
    obtain ⟨w', hw, rw'⟩ := RelO.some_of (v := v) (o := valueAt vs k) (by rw [l]; exact rel.val k)
    exact wpAny_getItem_of (kV_is ry) dd.mapOf hw (h w' _ (I.tok _) rw')
  · subst ey
    cases (show u = Value.ref b from ry)
    obtain ⟨z, hd, xs, rel, dd⟩ := dt_rd I.hok e
    obtain ⟨w', hw, rw'⟩ := RelO.some_of (v := v) (o := (atKey xs k).map (·.2)) (by rw [l]; exact rel.val k)
    obtain ⟨p, hp, hp2⟩ := Option.map_eq_some_iff.mp hw
    refine wpAny_getItem_heap (tupleKind_room_in1 hu) (key_of I.hok eb) dd hp ?_
    rw [hp2]
    exact h w' _ (I.tok _) rw'
/-- a dict's object is replaced -/
theorem d_write {h' : Heap} {t' : Nat} {ob : HO} (I : Inv X pins σ H s) (mu : Mut (H a)) (hs : Heap.SameBut a s.heap h') (he : ∃ q, h'.get? a = some q) (new : ObjOk X.prog X.w (upd H a ob) h' a ob) :
    Inv X pins σ (upd H a ob) { s with heap := h', toks := t' } :=
  I.write (x := a) (e := a) mu (.inl rfl) (fun b q hb z => (hs.2 b hb).trans z) he new
theorem dk_new {P : Program} {w : World} {H' : Hp} {h' : Heap} {kvs : List (Key × V)} {vs : List (Key × Value)} (z : kvs.length ≤ sizeLine) (hd : (a == sysModules) = false) (rel : KV kvs vs) (dd : h'.DictOf (mixKind P w) a vs) :
    ObjOk P w H' h' a (.dK kvs) := ⟨z, hd, vs, rel, dd⟩
/-- d[y] = v -/
theorem d_setItem {H' : Hp} {Q : Unit → Shared → Prop} (hu : A.units + 1 < cLine) (I : Inv X pins σ H s) (g : DPut H a y v H') (ry : RelV y u) (rv : RelV v r) (h : ∀ s', Inv X pins σ H' s' → Q () s') :
    wpAny (model X.prog X.w) A (setItem (.ref a) u r) Q E s := by
  rcases g with ⟨kvs, k, e, ey, l, eH⟩ | ⟨kvs, k, b, e, ey, eb, l, eH⟩
  · subst ey eH
    obtain ⟨z, hd, vs, rel, dd⟩ := dk_of I.hok e
    have hz : vs.length ≤ sizeLine := by rw [← rel.length]; exact z
    have hl : (putK kvs k v).length ≤ sizeLine := by have := length_putK kvs k v; omega
    refine wpAny_setItem_pairs (hsz := hz) (kV_is ry) dd fun h' dd' hs => h _ ?_
    have he : ∃ q, h'.get? a = some q := let ⟨q, _, _, hq, _⟩ := dd'; ⟨q, hq⟩
    exact d_write I (by rw [e]; exact True.intro) hs he (dk_new hl hd (rel.put k rv) dd')
  · subst ey eH
    cases (show u = Value.ref b from ry)
    obtain ⟨z, hd, xs, rel, dd⟩ := dt_of I.hok e
    have hz : xs.length ≤ sizeLine := by rw [← Paired.length rel]; exact z
    have hl : (putK kvs k v).length ≤ sizeLine := by have := length_putK kvs k v; omega
    refine wpAny_setItem_heap (hsz := hz) (tupleKind_room_in1 hu) (key_of I.hok eb) dd fun h' dd' hs => h _ ?_
    obtain ⟨q, es, ep, hq, h2, h3, h4, _, h5⟩ := dd'
    refine d_write I (by rw [e]; exact True.intro) hs ⟨q, hq⟩ ⟨hl, hd, _, (rel.put k eb rv).keeps fun c ys ec => ?_, q, es, ep, hq, h2, h3, h4, h5⟩
    rw [upd_ne (ne_of ec e (fun z => nomatch z))]
    exact ec
end

section
variable {X : Cx} {pins : List (Addr × Obj)} {σ : St} {H : Hp} {s : Shared} {a : Addr} {kvs : List (Key × V)} {k : Key} {u : Value} {A : Around} {E : Value → Shared → Prop}
end


/-! ### readings and rules -/
/-- the element of a subscription, not a slice -/
def NoSl (i : Expr) : Prop := ∀ ov iv, subscripted i false ov iv = operate [ov, iv] (getItem ov iv)
theorem subD_of {prog : Program} {w : World} {A : Around} {E : Value → Shared → Prop} {s : Shared} {env : Env} {value slice : Expr} {pos : Pos} {T id : String} {Q : Value → Shared → Prop}
    (hl : typeLookup (.type T) "__getitem__" = pure (some (.builtin id))) (hs : NoSl slice)
    (h : wpAny (model prog w) A (eval value env) (fun o s₁ => wpAny (model prog w) A (eval slice env) (fun i s₂ => s₂.TypeIs o T ∧ wpAny (model prog w) A (getItem o i) Q E s₂) E s₁) E s) :
    wpAny (model prog w) A (eval (.Subscript value slice pos) env) Q E s := by
  refine Subscript_ (wpAny_mono h (fun o s₁ h₁ => wpAny_mono h₁ (fun i s₂ h₂ => ?_) fun _ _ x => x) fun _ _ x => x)
  obtain ⟨hT, h₂⟩ := h₂
  unfold subscriptTail
  refine wpAny_bind ?_
  rw [getitemInPython_of_ne hT.not_modules]
  refine wpAny_bind (wpAny_specialOf hT hl ?_)
  have fin : wpAny (model prog w) A (subscripted slice false o i) (fun r s₃ => wpAny (model prog w) A (letTemporaryGo value o r >>= fun _ => pure r) Q E s₃) E s₂ := by
    rw [hs o i]
    exact wpAny_operating (wpAny_mono h₂ (fun r s₃ h₃ => wpAny_bind (wpAny_letTemporaryGo (wpAny_pure h₃))) fun _ _ x => x)
  first
    | exact wpAny_pure (wpAny_bind fin)
    | exact wpAny_bind (wpAny_pure (wpAny_bind fin))
    | exact wpAny_bind fin

theorem dict_typeIs {X : Cx} {pins : List (Addr × Obj)} {σ : St} {H : Hp} {s : Shared} {a : Addr} {y : V} {o : Option V} (I : Inv X pins σ H s) (g : DGet H a y o) : s.TypeIs (.ref a) "dict" := by
  rcases g with ⟨kvs, k, e, _, _⟩ | ⟨kvs, k, b, e, _, _, _⟩
  · obtain ⟨_, _, vs, _, dd⟩ := dk_rd I.hok e
    exact dd.typeIs
  · obtain ⟨_, _, xs, _, dd⟩ := dt_rd I.hok e
    exact dd.typeIs

/-- d[y] -/
def tDGet (td ty : TE) : TE := fun σ H Q => td σ H fun x H1 => ty σ H1 fun y H2 => ∃ a v, x = .ref a ∧ DGet H2 a y (some v) ∧ Q v H2
/-- y in d, y not in d -/
def tDIn (ty td : TE) : TE := fun σ H Q => ty σ H fun y H1 => td σ H1 fun x H2 => ∃ a o, x = .ref a ∧ DGet H2 a y o ∧ Q (.bl o.isSome) H2
def tDNotIn (ty td : TE) : TE := fun σ H Q => ty σ H fun y H1 => td σ H1 fun x H2 => ∃ a o, x = .ref a ∧ DGet H2 a y o ∧ Q (.bl (!o.isSome)) H2
/-- d[y] = v -/
def sDPut (td ty tv : TE) : TS := fun D σ H => tv σ H fun v H1 => td σ H1 fun x H2 => ty σ H2 fun y H3 => ∃ a H4, x = .ref a ∧ DPut H3 a y v H4 ∧ D.nx σ H4
/-- d[y] op= v -/
def sDAug (td ty tv : TE) (rd : V → V → Hp → VK → Prop) : TS := fun D σ H => td σ H fun x H1 => ty σ H1 fun y H2 => ∃ a v, x = .ref a ∧ DGet H2 a y (some v) ∧
  tv σ H2 fun y2 H3 => rd v y2 H3 fun z H4 => ∃ H5, DPut H4 a y z H5 ∧ D.nx σ H5
/-- del d[y] -/
def sDDel (td ty : TE) : TS := fun D σ H => td σ H fun x H1 => ty σ H1 fun y H2 => ∃ a kvs k, x = .ref a ∧ H2 a = some (.dK kvs) ∧ y = kV k ∧ (valV kvs k).isSome = true ∧ D.nx σ (upd H2 a (.dK (dropK kvs k)))

section
variable {X : Cx} {o i e value : Expr} {pos pos' tpos : Pos} {td ty tv : TE}
theorem pe_dget (hu : X.A.units + 1 < cLine) (ho : PE X o td) (hi : PE X i ty) (hs : NoSl i) : PE X (.Subscript o i pos) (tDGet td ty) := by
  intro pins s σ H Q I h
  refine subD_of PySem.F.slot_dict_getitem.lookup hs (thn (ho pins s σ H _ I h) fun u s1 ⟨x, H1, I1, rx, q1⟩ => thn (hi pins s1 σ H1 _ I1 q1) fun iv s2 ⟨y, H2, I2, ry, a, v, ex, g, q2⟩ => ?_)
  subst ex
  obtain rfl : u = Value.ref a := rx
  exact ⟨dict_typeIs I2 g, d_getItem hu I2 g ry fun w' s3 I3 rw' => ⟨v, H2, I3, rw', q2⟩⟩
theorem ps_dput (hu : X.A.units + 1 < cLine) (ho : PE X o td) (hi : PE X i ty) (hv : PE X value tv) (hs : swapsWith value (some (.Subscript o i pos')) pos.line X.env = pure false) :
    PS X (.Assign [.Subscript o i pos'] value pos) (sDPut td ty tv) := by
  intro pins s σ H D I h
  refine wpAny_Assign_Subscript (thn (hv pins s σ H _ I h) fun r s1 ⟨v, H1, I1, rv, q1⟩ => thn (ho pins s1 σ H1 _ I1 q1) fun u s2 ⟨x, H2, I2, rx, q2⟩ => thn (hi pins s2 σ H2 _ I2 q2) fun iv s3 ⟨y, H3, I3, ry, a, H4, ex, g, q3⟩ => ?_) hs
  subst ex
  obtain rfl : u = Value.ref a := rx
  exact d_setItem hu I3 g ry rv fun s4 I4 => ⟨σ, H4, I4, q3⟩
end


/-! ### displays -/
theorem dk_empty {P : Program} {w : World} {H : Hp} (h : Heap) (hb : sysModules < h.objs.size) : ObjOk P w H (h.push { cls := .type "dict", data := .dict #[] }) h.objs.size (.dK []) :=
  ⟨Nat.zero_le _, beq_eq_false_iff_ne.mpr (Ne.symm (Nat.ne_of_lt hb)), [], .nil, Heap.DictOf.new h⟩
/-- {}, to be a dict of the kind that is wanted -/
def tDNewK : TE := fun _ H Q => ∀ p, H p = none → Q (.ref p) (upd H p (.dK []))
def tDNewT : TE := fun _ H Q => ∀ p, H p = none → Q (.ref p) (upd H p (.dT []))
section
variable {X : Cx} {pos : Pos}
theorem pe_dnewK : PE X (.Dict [] [] pos) tDNewK := fun pins s σ H Q I h =>
  wpAny_Dict_empty ⟨.ref s.heap.objs.size, _, I.laid (a := s.heap.objs.size) (o := .dK []) (t' := s.toks) (fun _ _ q => Heap.get?_push_of_some _ q) (Nat.le_refl _) (dk_empty s.heap I.big), rfl, h _ (I.hok.fresh (Nat.le_refl _))⟩
end

/-- the pairs of a display, from the left -/
def tPairs : List (TE × TE) → St → Hp → (List (V × V) → Hp → Prop) → Prop
  | [], _, H, Q => Q [] H
  | (tk, tv) :: r, σ, H, Q => tk σ H fun x H1 => tv σ H1 fun y H2 => tPairs r σ H2 fun ps H3 => Q ((x, y) :: ps) H3
abbrev VV : List (V × V) → List (Value × Value) → Prop := Paired fun p q => RelV p.1 q.1 ∧ RelV p.2 q.2
def PPs (X : Cx) (pos : Pos) (keys : List (Option Expr)) (values : List Expr) (trs : List (TE × TE)) : Prop :=
  ∀ (pins : List (Addr × Obj)) (s : Shared) (σ : St) (H : Hp) (Q : List (V × V) → Hp → Prop), Inv X pins σ H s → tPairs trs σ H Q →
    wpAny (model X.prog X.w) X.A (evalPairs (pairTrees keys values X.env pos)) (fun vs s' => ∃ ps H', Inv X pins σ H' s' ∧ VV ps vs ∧ Q ps H') X.xe s

def mergeK (kvs more : List (Key × V)) : List (Key × V) := more.foldl (fun acc kv => putK acc kv.1 kv.2) kvs
/-- {k: v, ..} with keys ints and texts; the new dict stands empty while the pairs are made -/
def tDisp (trs : List (TE × TE)) : TE := fun σ H Q => ∀ p, H p = none → tPairs trs σ (upd H p (.dK [])) fun ps H2 => H2 p = some (.dK []) ∧ ∃ kvs : List (Key × V), ps = kvs.map (fun kv => (kV kv.1, kv.2)) ∧ kvs.length ≤ 15 ∧ Q (.ref p) (upd H2 p (.dK (mergeK [] kvs)))


/-! ### methods -/
/-- a method call o.m(e) of a built-in, with one argument: what must be seen of the text -/
structure M1 (X : Cx) (o : Expr) (m : Str) (apos : Pos) (e : Expr) (cpos : Pos) : Prop where
  base : attributeBase o m X.env (eval o X.env) = eval o X.env
  few : ((backTo cpos (starEach [e] X.env)).all (fun x => !x.1) && (backToKw cpos (keywordEach [] X.env)).all (fun x => x.1.isSome)
    && decide (([e] : List Expr).length + ([] : List Keyword).length + (if ([] : List Keyword).isEmpty then 0 else 1) < 30)) = true
  line : (apos.endLine == cpos.line) = true
  trees : backTo cpos (starEach [e] X.env) = [(false, eval e X.env)]
structure M2 (X : Cx) (o : Expr) (m : Str) (apos : Pos) (e f : Expr) (cpos : Pos) : Prop where
  base : attributeBase o m X.env (eval o X.env) = eval o X.env
  few : ((backTo cpos (starEach [e, f] X.env)).all (fun x => !x.1) && (backToKw cpos (keywordEach [] X.env)).all (fun x => x.1.isSome)
    && decide (([e, f] : List Expr).length + ([] : List Keyword).length + (if ([] : List Keyword).isEmpty then 0 else 1) < 30)) = true
  line : (apos.endLine == cpos.line) = true
  trees : backTo cpos (starEach [e, f] X.env) = [(false, eval e X.env), (false, eval f X.env)]

/-- a is a dict, whatever its keys -/
def IsD (H : Hp) (a : Addr) : Prop := (∃ kvs, Rd H a (.dK kvs)) ∨ ∃ kvs, Rd H a (.dT kvs)

section
variable {X : Cx} {pins : List (Addr × Obj)} {σ : St} {H : Hp} {s : Shared} {a : Addr} {y d : V} {u r : Value} {o : Option V} {A : Around} {E : Value → Shared → Prop}
end

def tDGet1 (td ty : TE) : TE := fun σ H Q => td σ H fun x H1 => ∃ a, x = .ref a ∧ IsD H1 a ∧ ty σ H1 fun y H2 => ∃ o, DGet H2 a y o ∧ Q (o.getD .non) H2
def tDGet2 (td ty tx : TE) : TE := fun σ H Q => td σ H fun x H1 => ∃ a, x = .ref a ∧ IsD H1 a ∧ ty σ H1 fun y H2 => tx σ H2 fun z H3 => ∃ o, DGet H3 a y o ∧ Q (o.getD z) H3
/-- d.pop(k): there; d.pop(k, x): there or not -/
def tDPop1 (td ty : TE) : TE := fun σ H Q => td σ H fun x H1 => ∃ a, x = .ref a ∧ IsD H1 a ∧ ty σ H1 fun y H2 => ∃ kvs k v, H2 a = some (.dK kvs) ∧ y = kV k ∧ valV kvs k = some v ∧ Q v (upd H2 a (.dK (dropK kvs k)))
def tDPop2 (td ty tx : TE) : TE := fun σ H Q => td σ H fun x H1 => ∃ a, x = .ref a ∧ IsD H1 a ∧ ty σ H1 fun y H2 => tx σ H2 fun z H3 => ∃ kvs k, H3 a = some (.dK kvs) ∧ y = kV k ∧
  (∀ v, valV kvs k = some v → Q v (upd H3 a (.dK (dropK kvs k)))) ∧ (valV kvs k = none → Q z H3)
section
variable {X : Cx} {o e f : Expr} {apos cpos : Pos} {td ty tx : TE}
end

/-! ### dict(d): a copy -/
section
variable {X : Cx} {pins : List (Addr × Obj)} {σ : St} {H : Hp} {s : Shared} {a : Addr} {kvs : List (Key × V)} {A : Around} {E : Value → Shared → Prop}
end


section
variable {X : Cx} {pins : List (Addr × Obj)} {σ : St} {H : Hp} {s : Shared} {a : Addr} {y : V} {u : Value} {A : Around} {E : Value → Shared → Prop}
end
section
variable {X : Cx}
end
/-! ### a dict's pairs: keys that differ -/
section
variable {κ : Type} [DecidableEq κ]
theorem nd_snoc : ∀ {l : List κ} {k : κ}, l.Nodup → ¬ k ∈ l → (l ++ [k]).Nodup
  | [], k, _, _ => by simp
  | a :: r, k, h, hk => by
    obtain ⟨h1, h2⟩ := List.nodup_cons.mp h
    show (a :: (r ++ [k])).Nodup
    refine List.nodup_cons.mpr ⟨fun m => ?_, nd_snoc h2 fun m => hk (List.mem_cons.mpr (Or.inr m))⟩
    rcases List.mem_append.mp m with q | q
    · exact h1 q
    · exact hk (List.mem_cons.mpr (Or.inl (List.mem_singleton.mp q).symm))
end
end L2

namespace L2
open PySem PySem.Spec PyProof.Rows

/-! ### the cells that a block closes over -/
theorem forIn_pure {α β : Type} {f : α → β → Sem (ForInStep β)} {g : β → α → β} : ∀ (l : List α) (c : β), (∀ x ∈ l, ∀ c, f x c = pure (.yield (g c x))) → forIn l c f = pure (l.foldl g c)
  | [], _, _ => rfl
  | x :: l, c, h => by
    rw [List.forIn_cons, h x List.mem_cons_self, pure_bind]
    exact forIn_pure l (g c x) fun y hy => h y (List.mem_cons_of_mem _ hy)
def closStep (env : Env) (acc : List (Str × Addr)) (x : Str × NameKind) : List (Str × Addr) := if x.2 == .free then (x.1, (env.cells.lookup x.1).getD 0) :: acc else acc
def closL (env : Env) (names : List (Str × NameKind)) : List (Str × Addr) := names.foldl (closStep env) []
theorem closureFor_eq {scope : Scope} {env : Env} (h : ∀ x ∈ scope.names, x.2 = .free → ∃ c, env.cells.lookup x.1 = some c) : closureFor scope env = pure (closL env scope.names) := by
  simp only [closureFor]
  rw [forIn_pure (g := closStep env) scope.names [] (fun x hx c => by
    obtain ⟨n, kind⟩ := x
    by_cases hk : kind = .free
    · subst hk
      obtain ⟨a, ha⟩ := h _ hx rfl
      have ha' : env.cells.lookup n = some a := ha
      simp [closStep, cellOf, ha']
    · have hb : (kind == NameKind.free) = false := by simpa using hk
      simp [closStep, hb])]
  rfl
theorem closL_mem {env : Env} : ∀ (names : List (Str × NameKind)) (acc : List (Str × Addr)), (∀ x ∈ names, x.2 = .free → ∃ c, env.cells.lookup x.1 = some c) → (∀ p ∈ acc, env.cells.lookup p.1 = some p.2) →
    ∀ p ∈ names.foldl (closStep env) acc, env.cells.lookup p.1 = some p.2
  | [], _, _, h => h
  | x :: r, acc, hn, h => by
    refine closL_mem r _ (fun y hy => hn y (List.mem_cons_of_mem _ hy)) ?_
    intro p hp
    unfold closStep at hp
    split at hp
    · rename_i hk
      rcases List.mem_cons.mp hp with e | e
      · subst e
        obtain ⟨c, hc⟩ := hn x List.mem_cons_self (by simpa using hk)
        show env.cells.lookup x.1 = some ((env.cells.lookup x.1).getD 0)
        rw [hc]
        rfl
      · exact h p e
    · exact h p hp
theorem closL_sub {env : Env} : ∀ (names : List (Str × NameKind)) (acc : List (Str × Addr)) (p : Str × Addr), p ∈ acc → p ∈ names.foldl (closStep env) acc
  | [], _, _, h => h
  | x :: r, acc, p, h => by
    refine closL_sub r _ p ?_
    unfold closStep
    split
    · exact List.mem_cons_of_mem _ h
    · exact h
theorem closL_has {env : Env} : ∀ (names : List (Str × NameKind)) (acc : List (Str × Addr)) (x : Str), (x, NameKind.free) ∈ names → ∃ c, (x, c) ∈ names.foldl (closStep env) acc
  | y :: r, acc, x, h => by
    rcases List.mem_cons.mp h with e | e
    · subst e
      exact ⟨_, closL_sub r _ _ (by unfold closStep; rw [if_pos (by rfl)]; exact List.mem_cons_self)⟩
    · exact closL_has r _ x e
theorem lookup_of_mem {α : Type} : ∀ {l : List (Str × α)} {x : Str} {c : α}, (x, c) ∈ l → ∃ d, l.lookup x = some d
  | (y, d) :: r, x, c, h => by
    rw [List.lookup_cons]
    cases e : x == y with
    | true => exact ⟨d, rfl⟩
    | false =>
      rcases List.mem_cons.mp h with q | q
      · cases q
        rw [beq_self_eq_true] at e
        cases e
      · exact lookup_of_mem q
theorem lookup_relabel (env : Env) : ∀ (names : List (Str × NameKind)) (x : Str), (names.map fun (n, k) => if (k == NameKind.free && env.scope.kind == .function && env.kindOf n == some .cell) then (n, NameKind.cell) else (n, k)).lookup x =
    (names.lookup x).map fun k => if (k == NameKind.free && env.scope.kind == .function && env.kindOf x == some .cell) then NameKind.cell else k
  | [], _ => rfl
  | (n, k) :: r, x => by
    have ih := lookup_relabel env r x
    show List.lookup x ((if (k == NameKind.free && env.scope.kind == .function && env.kindOf n == some .cell) = true then (n, NameKind.cell) else (n, k)) :: _) = _
    have hr : ((n, k) :: r).lookup x = (match x == n with | true => some k | false => r.lookup x) := List.lookup_cons ..
    rw [hr]
    by_cases hc : (k == NameKind.free && env.scope.kind == .function && env.kindOf n == some .cell) = true
    · rw [if_pos hc, List.lookup_cons]
      cases hx : x == n with
      | true =>
        have e : x = n := eq_of_beq hx
        subst e
        show some NameKind.cell = some (if (k == NameKind.free && env.scope.kind == .function && env.kindOf x == some .cell) = true then NameKind.cell else k)
        rw [if_pos hc]
      | false => exact ih
    · rw [if_neg hc, List.lookup_cons]
      cases hx : x == n with
      | true =>
        have e : x = n := eq_of_beq hx
        subst e
        show some k = some (if (k == NameKind.free && env.scope.kind == .function && env.kindOf x == some .cell) = true then NameKind.cell else k)
        rw [if_neg hc]
      | false => exact ih

/-! ### the context of a comprehension's block -/
def cxC (X : Cx) (own : List Str) (scope : Scope) (cl : List (Str × Addr)) (C : Addr) (s : Shared) (H : Hp) (fp : List Addr) : Cx :=
  { X with N := own ++ X.N, s₀ := s, H₀ := H, env := compEnvC scope cl C X.env, outer := X.stack, stack := X.stack, ex := fp, fn := fun _ => false, xe := fun _ _ => False }
/-- the tests of a clause, one after another -/
def PTs (X : Cx) (ifs : List Expr) (t : TT) : Prop :=
  ∀ (pins : List (Addr × Obj)) (s : Shared) (σ : St) (H : Hp) (Q : Bool → Hp → Prop), Inv X pins σ H s → t σ H Q →
    wpAny (model X.prog X.w) X.A (forIn ifs true fun c r => if r = true then do let ok ← isTrue c X.env (eval c X.env); pure (ForInStep.yield ok) else pure (ForInStep.yield r)) (TP X pins σ Q) X.xe s
def tAll : TT := fun _ H Q => Q true H
theorem pts_nil {X : Cx} : PTs X [] tAll := fun _ _ _ H _ I h => wpAny_tests_nil ⟨H, I, h⟩
theorem pts_one {X : Cx} {c : Expr} {t : TT} (h : PT X c t) : PTs X [c] t := fun pins s σ H Q I q => wpAny_tests_one (h pins s σ H Q I q)
/-- the slots of the one are those of the other, or forgotten there -/
def Wk : St → St → Prop
  | [], [] => True
  | _ :: r, none :: t => Wk r t
  | a :: r, some v :: t => a = some v ∧ Wk r t
  | _, _ => False
theorem Wk.len : ∀ {a b : St}, Wk a b → b.length = a.length
  | [], [], _ => rfl
  | _ :: r, none :: t, h => congrArg (· + 1) (Wk.len (a := r) (b := t) h)
  | _ :: r, some _ :: t, h => congrArg (· + 1) (Wk.len (a := r) (b := t) h.2)
  | [], none :: _, h => h.elim
  | [], some _ :: _, h => h.elim
  | _ :: _, [], h => h.elim
theorem Wk.get : ∀ {a b : St} (i : Nat) (v : V), Wk a b → b[i]? = some (some v) → a[i]? = some (some v)
  | _ :: _, none :: _, 0, v, _, e => by simp at e
  | _ :: _, some _ :: _, 0, v, h, e => by simp at e ⊢; rw [h.1, e]
  | _ :: r, none :: t, i + 1, v, h, e => by simp at e ⊢; exact Wk.get (a := r) (b := t) i v h e
  | _ :: r, some _ :: t, i + 1, v, h, e => by simp at e ⊢; exact Wk.get (a := r) (b := t) i v h.2 e
  | [], [], i, v, h, e => by simp at e
  | [], none :: _, _, _, h, _ => h.elim
  | [], some _ :: _, _, _, h, _ => h.elim
  | _ :: _, [], _, _, h, _ => h.elim
theorem Wk.refl : ∀ (a : St), Wk a a
  | [] => trivial
  | none :: r => Wk.refl r
  | some _ :: r => ⟨rfl, Wk.refl r⟩
/-- what a comprehension does with the iterator J: W is what holds ahead of turn i, with a measure and what has been made -/
def CompR (J : It) (H : Hp) (k : Nat) (g : TG) (tt : TT) (te : TE) (σ : St) (Q : VK) : Prop := ∃ W : Nat → Nat → List V → Hp → Prop, (∃ m, W 0 m [] H) ∧ ∀ i m ys H, W i m ys H →
  (J.stop i H ∧ ys.length ≤ sizeLine ∧ ∀ p, H p = none → Q (.ref p) (upd H p (.lst ys))) ∨
  (J.go i H ∧ ys.length < sizeLine ∧ ∀ x H', J.yld i H x H' → g x (List.replicate k none ++ σ) H' fun σ2 H2 => Wk σ2 (List.replicate k none ++ σ) ∧ tt σ2 H2 fun ok H3 =>
    if ok = true then te σ2 H3 fun y H4 => ∃ m', m' < m ∧ W (i + 1) m' (ys ++ [y]) H4 else ∃ m', m' < m ∧ W (i + 1) m' ys H3)
/-- [elt for tg in iter if ..] -/
def tComp (wi : TI) (g : TG) (tt : TT) (te : TE) (k : Nat) : TE := fun σ H Q => wi σ H fun J H1 => CompR J H1 k g tt te σ Q

theorem compLoop_go {prog : Program} {w : World} {A : Around} {R : Result → Shared → Prop} {s : Shared} {elt target iter : Expr} {ifs : List Expr} {scope : Scope} {pos : Pos} {it acc : Value} {env : Env} (I : Nat → Shared → Prop)
    (turn : ∀ n s, I n s → wpAny (model prog w) A (pyNext it) (fun r s₁ => match r with
      | none => R (.ok .next) s₁
      | some v => wpAny (model prog w) A (letOwnedTupleGo target it v) (fun _ s₁' => wpAny (model prog w) A (assign target env v) (fun _ s₂ =>
          wpAny (model prog w) A (forIn ifs true fun c r => if r = true then do let ok ← isTrue c env (eval c env); pure (ForInStep.yield ok) else pure (ForInStep.yield r)) (fun ok s₃ =>
            if ok = true then wpAny (model prog w) A (eval elt env) (fun x s₄ =>
              wpAny (model prog w) A (call (.builtin "list.append") [acc, x]) (fun _ s₅ => ∃ m, m < n ∧ I m s₅) (fun _ _ => False) s₄) (fun _ _ => False) s₃
            else ∃ m, m < n ∧ I m s₃) (fun _ _ => False) s₂) (fun _ _ => False) s₁') (fun _ _ => False) s₁) (fun _ _ => False) s)
    (n : Nat) (h : I n s) :
    codeAny (model prog w) A (.compLoop (.ListComp elt [⟨target, iter, ifs, 0⟩] scope pos) 0 it acc env) R s := by
  refine codeAny_loop rfl I (fun n s hI => ?_) n h
  show wpAny _ A ((compTurn (.ListComp elt [⟨target, iter, ifs, 0⟩] scope pos) 0 it acc env).onRaise (fun x => do noteFrame x env; theTreesLotGoes x)) _ _ s
  refine wpAny_noted ?_
  rw [compTurn_list]
  refine wpAny_bind (wpAny_standAt (wpAny_bind (wpAny_mono (turn n s hI) (fun r s₁ h₁ => ?_) fun _ _ h' => h'.elim)))
  cases r with
  | none => exact wpAny_pure h₁
  | some v =>
    refine wpAny_bind (wpAny_mono h₁ (fun _ s₁' h₁' => ?_) fun _ _ h' => h'.elim)
    refine wpAny_bind (wpAny_mono h₁' (fun _ s₂ h₂ => wpAny_bind (wpAny_mono h₂ (fun ok s₃ h₃ => ?_) fun _ _ h' => h'.elim)) fun _ _ h' => h'.elim)
    cases ok with
    | false => exact wpAny_pure ⟨rfl, h₃⟩
    | true =>
      exact wpAny_bind (wpAny_bind (wpAny_mono h₃ (fun x s₄ h₄ => wpAny_bind (wpAny_mono h₄ (fun _ s₅ h₅ => wpAny_pure (wpAny_pure ⟨rfl, h₅⟩)) fun _ _ h' => h'.elim)) fun _ _ h' => h'.elim))

/-- the list that is being made -/
abbrev lo (its : List Value) (n : Nat) : Obj := { cls := .type "list", data := .seq its.toArray n }

structure CompOk (X : Cx) (own : List Str) (scope : Scope) : Prop where
  calm : X.calm = true
  cell : ∀ y ∈ scope.names, y.2 ≠ .cell
  kind : scope.kind = .function
  names : ∀ y ∈ scope.names, y.2 = .local → scope.names.lookup y.1 = some .local
  fr : ∀ y ∈ scope.names, y.2 = .free → X.env.scope.names.lookup y.1 = some .cell ∨ X.env.scope.names.lookup y.1 = some .free
  loc : ∀ y ∈ X.N, scope.names.lookup y ≠ some .local

/-- the same as tests, for closed texts -/
def compT1 (names : List (Str × NameKind)) : Bool := names.all fun y => (y.2 != .cell) && (y.2 != .local || names.lookup y.1 == some .local)
def compT2 (outer names : List (Str × NameKind)) : Bool := names.all fun y => y.2 != .free || outer.lookup y.1 == some .cell || outer.lookup y.1 == some .free
def compT3 (N : List Str) (names : List (Str × NameKind)) : Bool := N.all fun y => names.lookup y != some .local
theorem CompOk.of {X : Cx} {own : List Str} {scope : Scope} (hc : X.calm = true) (hk : scope.kind = .function) (h1 : compT1 scope.names = true) (h2 : compT2 X.env.scope.names scope.names = true) (h3 : compT3 X.N scope.names = true) : CompOk X own scope := by
  unfold compT1 at h1
  unfold compT2 at h2
  unfold compT3 at h3
  rw [List.all_eq_true] at h1 h2 h3
  refine ⟨hc, fun y hy => ?_, hk, fun y hy hl => ?_, fun y hy hf => ?_, fun y hy => ?_⟩
  · have := h1 y hy
    rw [Bool.and_eq_true] at this
    exact bne_iff_ne.mp this.1
  · have := h1 y hy
    rw [Bool.and_eq_true, hl] at this
    simpa using this.2
  · have := h2 y hy
    rw [hf] at this
    simpa using this
  · exact bne_iff_ne.mp (h3 y hy)
section
variable {X : Cx} {own : List Str} {scope : Scope} {pins : List (Addr × Obj)} {σ : St} {H : Hp} {s : Shared} {fp : List Addr}

theorem CompOk.cells (O : CompOk X own scope) (ok : X.Ok) : ∀ x ∈ scope.names, x.2 = .free → ∃ c, X.env.cells.lookup x.1 = some c := fun x hx hk => ok.has x.1 (O.fr x hx hk)
theorem CompOk.sub (O : CompOk X own scope) (ok : X.Ok) : ∀ x c, (closL X.env scope.names).lookup x = some c → X.env.cells.lookup x = some c := fun x c e =>
  closL_mem scope.names [] (O.cells ok) (fun _ h => nomatch h) (x, c) (PySem.mem_of_lookup e)
theorem CompOk.free_of (O : CompOk X own scope) {cl : List (Str × Addr)} {C : Addr} {x : Str} (h : (compEnvC scope cl C X.env).kindOf x = some .cell ∨ (compEnvC scope cl C X.env).kindOf x = some .free) : scope.names.lookup x = some .free := by
  have e : (compEnvC scope cl C X.env).kindOf x = (scope.names.lookup x).map fun k => if (k == NameKind.free && X.env.scope.kind == .function && X.env.kindOf x == some .cell) then NameKind.cell else k := lookup_relabel X.env scope.names x
  rw [e] at h
  cases q : scope.names.lookup x with
  | none => rw [q] at h; simp at h
  | some k =>
    rw [q] at h
    by_cases hk : k = .free
    · rw [hk]
    · have hc : k ≠ .cell := O.cell (x, k) (PySem.mem_of_lookup q)
      have hb : (k == NameKind.free) = false := by simpa using hk
      have hr : ¬ ((k == NameKind.free && X.env.scope.kind == .function && X.env.kindOf x == some .cell) = true) := by rw [hb]; exact Bool.false_ne_true
      have h : some (if (k == NameKind.free && X.env.scope.kind == .function && X.env.kindOf x == some .cell) = true then NameKind.cell else k) = some NameKind.cell ∨ some (if (k == NameKind.free && X.env.scope.kind == .function && X.env.kindOf x == some .cell) = true then NameKind.cell else k) = some NameKind.free := h
      rw [if_neg hr] at h
      rcases h with h | h
      · exact absurd (Option.some.inj h) hc
      · exact absurd (Option.some.inj h) hk
theorem CompOk.look (O : CompOk X own scope) (ok : X.Ok) {x : Str} (h : scope.names.lookup x = some .free) : ∃ c, (closL X.env scope.names).lookup x = some c ∧ X.env.cells.lookup x = some c := by
  obtain ⟨c, hc⟩ := closL_has scope.names [] (env := X.env) x (PySem.mem_of_lookup h)
  obtain ⟨d, hd⟩ := lookup_of_mem hc
  exact ⟨d, hd, O.sub ok x d hd⟩
theorem stk_of (I : Inv X pins σ H s) {b : Addr} (h1 : b ≠ X.env.locals) (h2 : b ∉ X.fs) : b ∉ frs X.stack := fun z => (List.mem_cons.mp (I.stkSub b z)).elim h1 h2

theorem comp_inv (O : CompOk X own scope) (I : Inv X pins σ H s) (hf : ∀ b ∈ fp, FpOk X pins H b) (ho : ∀ b ∈ fp, ∃ o, s.heap.get? b = some o) {h₁ : Heap} {C : Addr} {tk : Nat} {m : Str → Option Value}
    (hC : s.heap.objs.size < C) (hD : h₁.get? s.heap.objs.size = some (lo [] 0)) (old : ∀ b o, s.heap.get? b = some o → h₁.get? b = some o) (hns : h₁.Ns C m) :
    Inv (cxC X own scope (closL X.env scope.names) C s H fp) (pins ++ [(s.heap.objs.size, lo [] 0)]) (List.replicate own.length none ++ σ) H { s with heap := h₁, toks := tk } := by
  have ltD : ∀ {b : Addr} {o : Obj}, s.heap.get? b = some o → b < s.heap.objs.size := fun e => Heap.lt_size e
  have nC : ∀ {b : Addr} {o : Obj}, s.heap.get? b = some o → b ≠ C := fun e => Nat.ne_of_lt (Nat.lt_trans (ltD e) hC)
  have hsub := O.sub I.ok
  refine ⟨⟨I.ok.mod, by show (relabel scope X.env).kind = _; exact O.kind, I.ok.glob, I.ok.blt, Nat.le_of_lt hC, fun x y c h1 h2 => I.ok.inj x y c (hsub x c h1) (hsub y c h2), fun x hx => ?_, fun x c hx _ => absurd (show false = true from hx) Bool.false_ne_true, I.ok.hd, I.ok.frames, .inl rfl, fun b hb => ⟨?_, fun x c e => ?_⟩, I.bs, Nat.le_trans I.ok.bsz I.sz, fun b o e hb => ?_, fun b hb => stk_of I (hf b hb).2.1 (hf b hb).2.2.1, I.stack, I.stkFree⟩,
    rfl, I.bare, Un.kept old, ⟨m, hns, fun i x v e1 e2 e3 => ?_⟩, fun x c e => ?_, I.hok.fresh (Nat.le_of_lt hC), fun x c e => I.freeC x c (hsub x c e), fun p hp => ?_, I.hok.kept old, ?_⟩
  · obtain ⟨c, hc, _⟩ := O.look I.ok (O.free_of hx)
    exact ⟨c, hc⟩
  · obtain ⟨o, e⟩ := ho b hb
    exact nC e
  · exact (hf b hb).2.2.2.2.1 x c (hsub x c e)
  · rcases (hf b hb).2.2.2.1 with z | z
    · exact I.ok.noex b o e z
    · exact absurd (Nat.lt_of_lt_of_le (Heap.lt_size e) (Nat.le_trans I.ok.bsz z)) (Nat.lt_irrefl _)
  · have e1 : (own ++ X.N)[i]? = some x := e1
    by_cases hi : i < own.length
    · rw [List.getElem?_append_left (by simpa using hi), List.getElem?_replicate, if_pos hi] at e2
      cases e2
    · rw [List.getElem?_append_right (by simpa using hi), List.length_replicate] at e2
      rw [List.getElem?_append_right (by simpa using hi)] at e1
      have nl : (compEnvC scope (closL X.env scope.names) C X.env).kindOf x ≠ some .local := by
        have e : (compEnvC scope (closL X.env scope.names) C X.env).kindOf x = (scope.names.lookup x).map fun k => if (k == NameKind.free && X.env.scope.kind == .function && X.env.kindOf x == some .cell) then NameKind.cell else k := lookup_relabel X.env scope.names x
        rw [e]
        intro z
        cases q : scope.names.lookup x with
        | none => rw [q] at z; simp at z
        | some k =>
          rw [q] at z
          by_cases hk : k = .local
          · exact O.loc x (List.mem_of_getElem? e1) (by rw [q, hk])
          · have z : some (if (k == NameKind.free && X.env.scope.kind == .function && X.env.kindOf x == some .cell) = true then NameKind.cell else k) = some NameKind.local := z
            by_cases hc : (k == NameKind.free && X.env.scope.kind == .function && X.env.kindOf x == some .cell) = true
            · rw [if_pos hc] at z
              cases z
            · rw [if_neg hc] at z
              exact hk (Option.some.inj z)
      have hv : (compEnvC scope (closL X.env scope.names) C X.env).kindOf x = some .cell ∨ (compEnvC scope (closL X.env scope.names) C X.env).kindOf x = some .free := by
        rcases e3 with z | z | z
        · exact absurd z nl
        · exact .inl z
        · exact .inr z
      have hfree := O.free_of hv
      have hout := O.fr (x, .free) (PySem.mem_of_lookup hfree) rfl
      obtain ⟨m0, hn0, hl0⟩ := I.loc
      obtain ⟨u, r, l⟩ := hl0 _ x v e1 e2 (hout.elim (fun z => .inr (.inl z)) fun z => .inr (.inr z))
      refine ⟨u, r, .inr ⟨hv, ?_⟩⟩
      rcases l with ⟨k, _⟩ | ⟨_, c, ec, z⟩
      · have k' : X.env.scope.names.lookup x = some .local := k
        rcases hout with q | q
        · rw [q] at k'; cases k'
        · rw [q] at k'; cases k'
      · obtain ⟨d, hd1, hd2⟩ := O.look I.ok hfree
        rw [ec] at hd2
        cases hd2
        obtain ⟨oc, hoc, hdc⟩ := z
        exact ⟨c, hd1, oc, old _ _ hoc, hdc⟩
  · obtain ⟨v, o, hoc, hdc⟩ := I.cell x c (hsub x c e)
    exact ⟨v, o, old _ _ hoc, hdc⟩
  · have hp : p ∈ X.pn ++ (pins ++ [(s.heap.objs.size, lo [] 0)]) := hp
    rw [← List.append_assoc] at hp
    rcases List.mem_append.mp hp with hp | hp
    · obtain ⟨e, n, ne, nf, d⟩ := I.pin p hp
      exact ⟨old _ _ e, n, nC e, stk_of I ne nf, d⟩
    · cases List.mem_singleton.mp hp
      refine ⟨hD, I.hok.fresh (Nat.le_refl _), Nat.ne_of_lt hC, fun z => ?_, fun v z => by cases z⟩
      have z := I.stkSub _ z
      rcases List.mem_cons.mp z with z | z
      · exact absurd z (Nat.ne_of_gt I.lt)
      · exact I.nofs (Nat.le_refl _) z
  · show (List.replicate own.length none ++ σ).length = (own ++ X.N).length
    rw [List.length_append, List.length_append, List.length_replicate, I.len]

theorem comp_exit {cl : List (Str × Addr)} {C : Addr} {its : List Value} {n : Nat} {σ' : St} {H' : Hp} {s' : Shared} {ys : List V} {h' : Heap} (I : Inv X pins σ H s) (hf : ∀ b ∈ fp, FpOk X pins H b) (hC : s.heap.objs.size < C)
    (I' : Inv (cxC X own scope cl C s H fp) (pins ++ [(s.heap.objs.size, lo its n)]) σ' H' s') (hv : Vals ys its) (hz : ys.length ≤ sizeLine) (hs : Heap.SameBut C s'.heap h') :
    Inv X pins σ (upd H' s.heap.objs.size (.lst ys)) { s' with heap := h' } := by
  obtain ⟨eD, nD, neD, _, _⟩ := I'.pin (s.heap.objs.size, lo its n) (List.mem_append_right _ (List.mem_append_right _ List.mem_cons_self))
  have nC : ∀ {b : Addr} {o : Obj}, s.heap.get? b = some o → b ≠ C := fun e => Nat.ne_of_lt (Nat.lt_trans (Heap.lt_size e) hC)
  have nDD : ∀ {b : Addr} {o : Obj}, s.heap.get? b = some o → b ≠ s.heap.objs.size := fun e => Nat.ne_of_lt (Heap.lt_size e)
  have same : ∀ {b : Addr} {o : Obj}, b ≠ C → s'.heap.get? b = some o → h'.get? b = some o := fun hb e => (hs.2 _ hb).trans e
  have fC : H' C = none := I'.free
  have hb : Un (frs X.stack) fp H H' s.heap s'.heap := I'.base
  have hot : ∀ {b : Addr} {u : HO}, H b = some u → b ≠ s.heap.objs.size := fun e => Nat.ne_of_lt (I.hok.lt e)
  refine I.call' (s' := { s' with heap := h' }) (ch := fp) I'.os ⟨fun b o e q n1 n2 => same (nC e) (hb.keep b o e q n1 n2), fun b o e q n1 n2 => ?_, fun b o e q n2 => ?_, fun b o e n2 => ?_, fun b xs e => ?_, fun b o u e => ?_, fun b ps e => ?_⟩ ?_ I'.bare fun b hb' => ?_
  · obtain ⟨sl, q2⟩ := hb.slot b o e q n1 n2
    exact ⟨sl, same (nC e) q2⟩
  · rw [upd_ne (nDD e)]
    exact hb.free b o e q n2
  · obtain ⟨o', q2⟩ := hb.there b o e n2
    exact ⟨o', same (nC e) q2⟩
  · rw [upd_ne (hot e)]
    exact hb.tups b xs e
  · rw [upd_ne (hot e)]
    exact hb.frzs b o u e
  · obtain ⟨more, q2⟩ := hb.tbls b ps e
    exact ⟨more, by rw [upd_ne (hot e)]; exact q2⟩
  · intro b u e
    by_cases hbD : b = s.heap.objs.size
    · subst hbD
      rw [upd_same] at e
      cases e
      exact ⟨hz, its, n, hv, same neD eD⟩
    · rw [upd_ne hbD] at e
      have nD' : ∀ {c : Addr} {w : HO}, H' c = some w → c ≠ s.heap.objs.size := fun q z => by
        rw [z] at q
        have z2 : H' s.heap.objs.size = none := nD
        rw [z2] at q
        cases q
      refine (I'.hok b u e).stay (fun c v hc q => same ?_ q) (fun c q => by rw [upd_ne (nD' q)]; exact q) fun c xs q => by rw [upd_ne (nD' q)]; exact q
      rintro rfl
      rcases hc with z | z
      · rw [← z, fC] at e; cases e
      · rw [fC] at z; cases z
  · obtain ⟨_, f1, _, f3, f4, f5⟩ := hf b hb'
    exact ⟨f3, f1, f4, f5⟩

theorem append_at' {prog : Program} {w : World} {A : Around} {E : Value → Shared → Prop} {s : Shared} {l : Addr} {its : List Value} {n : Nat} {u : Value} {Q : Value → Shared → Prop} (e : s.heap.get? l = some (lo its n)) (hz : its.length ≤ sizeLine)
    (h : Q .none { s with heap := s.heap.update l (Obj.mapSeq (·.push u)) }) : wpAny (model prog w) A (call (.builtin "list.append") [.ref l, u]) Q E s :=
  call_meets F.slot_list_append ⟨_, e, rfl⟩ F.entry_list_append (F.args_list_append_2 _ _) (PySem.list_append l its.toArray n u (by rw [List.size_toArray]; omega)) ⟨e, h⟩

/-- what a comprehension comes to, used at once (use) or handed on -/
theorem comp_core {tg iter elt : Expr} {ifs : List Expr} {pos pos0 : Pos} {wi : TI} {g : TG} {tt : TT} {te : TE} {use : Option (Value → Sem Unit)} {Qp : Value → Shared → Prop} (O : CompOk X own scope) (hi : PI X tg iter wi)
    (hg : ∀ cl C s H fp, PG (cxC X own scope cl C s H fp) tg g) (ht : ∀ cl C s H fp, PTs (cxC X own scope cl C s H fp) ifs tt) (he : ∀ cl C s H fp, PE (cxC X own scope cl C s H fp) elt te)
    (hs : ∀ x, foldedSetIterable iter X.env x = pure x) {pins : List (Addr × Obj)} {s : Shared} {σ : St} {H : Hp} {Q : VK} (I : Inv X pins σ H s) (h : tComp wi g tt te own.length σ H Q)
    (fin : ∀ (s2 : Shared) (H2 : Hp) (fp : List Addr) (C : Addr) (cl : List (Str × Addr)) (its : List Value) (nn : Nat) (σ' : St) (H' : Hp) (s5 : Shared) (ys : List V), Inv X pins σ H2 s2 → (∀ b ∈ fp, FpOk X pins H2 b) → s2.heap.objs.size < C →
      Inv (cxC X own scope cl C s2 H2 fp) (pins ++ [(s2.heap.objs.size, lo its nn)]) σ' H' s5 → Vals ys its → ys.length ≤ sizeLine → (∀ p, H' p = none → Q (.ref p) (upd H' p (.lst ys))) →
      compPost (model X.prog X.w) X.A X.xe use Qp (.ref s2.heap.objs.size) C (.ok .next) s5) :
    wpAny (model X.prog X.w) X.A (comprehension (.ListComp elt [⟨tg, iter, ifs, 0⟩] scope pos) scope X.env pos0 (newList []) false (eval iter X.env) use) Qp X.xe s := by
  refine wpAny_comprehension_free (use := use) rfl hs (closureFor_eq (O.cells I.ok)) O.kind O.names (thn (hi pins s σ H _ I h) fun v s1 h1 => thn h1 fun itv s2 h2 => ?_)
  obtain ⟨it, fp, tn, J, H2, rfl, I2, T, st2, f2, W, ⟨m0, w0⟩, turn⟩ := h2
  refine wpAny_newObj_type (wpAny_newFunctionEnv O.cell (by intro y hy; simp at hy) (fun h₁ hns₁ hsb₁ => ?_) O.kind)
  dsimp only at hns₁ hsb₁ ⊢
  generalize hH2 : s2.heap.push { cls := .type "list", dict := none, data := .seq ([] : List Value).toArray } = Hh at hns₁ hsb₁ ⊢
  have hCs : Hh.objs.size = s2.heap.objs.size + 1 := by rw [← hH2, Heap.size_push]
  have hC : s2.heap.objs.size < Hh.objs.size := by rw [hCs]; exact Nat.lt_succ_self _
  have old : ∀ b o, s2.heap.get? b = some o → h₁.get? b = some o := fun b o e => hsb₁.extBut b o (Nat.ne_of_lt (Nat.lt_trans (Heap.lt_size e) hC)) (Heap.get?_push_of_some _ (hH2 ▸ Heap.get?_push_of_some _ e))
  have hacc : h₁.get? s2.heap.objs.size = some (lo [] 0) := hsb₁.extBut _ _ (Nat.ne_of_lt hC) (Heap.get?_push_of_some _ (hH2 ▸ Heap.get?_push_size _ rfl))
  have hob : ∀ b ∈ fp, ∃ o, s2.heap.get? b = some o := fun b hb => let ⟨o, e, _⟩ := T.obj _ _ st2 b hb; ⟨o, e⟩
  have st3 : tn 0 h₁ := T.keep _ _ _ st2 fun b _ o e => old b o e
  have pinlt : ∀ p ∈ X.pn ++ pins, p.1 < s2.heap.objs.size := fun p hp => Heap.lt_size (I2.pin p hp).1
  have loop : ∀ s₃ : Shared, s₃ = { s2 with heap := h₁, toks := s2.toks + ([] : List (Str × Value)).length } →
      codeAny (model X.prog X.w) X.A (.compLoop (.ListComp elt [⟨tg, iter, ifs, 0⟩] scope pos) 0 (.ref it) (.ref s2.heap.objs.size) (compEnvC scope (closL X.env scope.names) Hh.objs.size X.env))
        (compPost (model X.prog X.w) X.A X.xe use Qp (.ref s2.heap.objs.size) Hh.objs.size) s₃ := by
    rintro s₃ rfl
    have I3 := comp_inv (tk := s2.toks + ([] : List (Str × Value)).length) O I2 f2 hob hC hacc old hns₁
    have stat : ∀ {o : Obj} {H' : Hp}, (∀ b ∈ fp, H' b = none) → ∀ b ∈ fp, FpOk (cxC X own scope (closL X.env scope.names) Hh.objs.size s2 H2 fp) (pins ++ [(s2.heap.objs.size, o)]) H' b := fun {o H'} hn b hb => by
      obtain ⟨o', eo⟩ := hob b hb
      refine ⟨hn b hb, Nat.ne_of_lt (Nat.lt_trans (Heap.lt_size eo) hC), stk_of I2 (f2 b hb).2.1 (f2 b hb).2.2.1, .inl hb, fun x c e => (f2 b hb).2.2.2.2.1 x c (O.sub I2.ok x c e), fun p hp => ?_⟩
      have hp : p ∈ X.pn ++ (pins ++ [(s2.heap.objs.size, o)]) := hp
      rw [← List.append_assoc] at hp
      rcases List.mem_append.mp hp with hp | hp
      · exact (f2 b hb).2.2.2.2.2 p hp
      · cases List.mem_singleton.mp hp
        exact Nat.ne_of_gt (Heap.lt_size eo)
    refine compLoop_go (fun n s' => ∃ i ys its nn σ' H', Inv (cxC X own scope (closL X.env scope.names) Hh.objs.size s2 H2 fp) (pins ++ [(s2.heap.objs.size, lo its nn)]) σ' H' s' ∧ Wk σ' (List.replicate own.length none ++ σ) ∧ tn i s'.heap ∧ (∀ b ∈ fp, H' b = none) ∧ Vals ys its ∧ W i n ys H')
      ?_ m0 ⟨0, [], [], 0, _, H2, I3, Wk.refl _, st3, fun b hb => (f2 b hb).1, .nil, w0⟩
    rintro n s4 ⟨i, ys, its, nn, σ4, H4, I4', wk4, st4, fr4, vs4, w4⟩
    have I4 := I4'.weak (σ' := List.replicate own.length none ++ σ) wk4.len (fun i v => wk4.get i v)
    rcases turn i n ys H4 w4 with ⟨stop, hz, qn⟩ | ⟨go, hz, step⟩
    · refine thn (T.done (cxC X own scope (closL X.env scope.names) Hh.objs.size s2 H2 fp) rfl rfl rfl O.calm i _ s4 _ H4 (fun _ _ => False) I4 (stat fr4) st4 stop) fun r s5 ⟨hr, I5⟩ => ?_
      subst hr
      exact fin s2 H2 fp Hh.objs.size _ its nn _ H4 s5 ys I2 f2 hC I5 vs4 hz qn
    · refine thn (T.item (cxC X own scope (closL X.env scope.names) Hh.objs.size s2 H2 fp) rfl rfl rfl O.calm i _ s4 _ H4 (fun _ _ => False) I4 (stat fr4) st4 go) fun r s5 ⟨u, hr, h5⟩ => ?_
      subst hr
      refine thn h5 fun _ s6 ⟨x, H6, I6, r6, y6, st6, fr6⟩ => ?_
      have I6' := I6.pinned (stat fr6) (T.obj _ _ st6)
      refine thn (hg _ _ _ _ _ _ s6 _ H6 x u _ I6' r6 (step x H6 y6)) fun _ s7 ⟨σ7, H7, I7, wk7, q7⟩ => ?_
      refine thn (ht _ _ _ _ _ _ s7 σ7 H7 _ I7 q7) fun ok s8 ⟨H8, I8, q8⟩ => ?_
      have again : ∀ {σ9 : St} {H9 : Hp} {s9 : Shared}, Inv (cxC X own scope (closL X.env scope.names) Hh.objs.size s2 H2 fp) ((pins ++ [(s2.heap.objs.size, lo its nn)]) ++ pinsAt fp s6.heap) σ9 H9 s9 → tn (i + 1) s9.heap ∧ ∀ b ∈ fp, H9 b = none := fun {σ9 H9 s9} I9 =>
        ⟨T.keep _ _ _ st6 fun b hb o e => (I9.pin (b, o) (List.mem_append_right _ (List.mem_append_right _ (mem_pinsAt hb e)))).1, fun b hb => by
          obtain ⟨o, e, d⟩ := T.obj _ _ st6 b hb
          exact (I9.pin (b, o) (List.mem_append_right _ (List.mem_append_right _ (mem_pinsAt hb e)))).2.1⟩
      cases ok with
      | false =>
        rw [if_neg Bool.false_ne_true] at q8 ⊢
        obtain ⟨m', hm, w8⟩ := q8
        obtain ⟨a1, a2⟩ := again I8
        exact ⟨m', hm, i + 1, ys, its, nn, σ7, H8, I8.unpinned, wk7, a1, a2, vs4, w8⟩
      | true =>
        rw [if_pos rfl] at q8 ⊢
        refine thn (he _ _ _ _ _ _ s8 σ7 H8 _ I8 q8) fun yv s9 ⟨y, H9, I9, r9, m', hm, w9⟩ => ?_
        obtain ⟨a1, a2⟩ := again I9
        obtain ⟨eD, nD, neD, nfD, _⟩ := I9.pin (s2.heap.objs.size, lo its nn) (List.mem_append_right _ (List.mem_append_left _ (List.mem_append_right _ List.mem_cons_self)))
        have hlen := vs4.length
        refine append_at' eD (by omega) ?_
        have upd9 := PySem.IsL.update (l := s2.heap.objs.size) eD (·.push yv)
        have uother : ∀ b o, b ≠ s2.heap.objs.size → s9.heap.get? b = some o → (s9.heap.update s2.heap.objs.size (Obj.mapSeq (·.push yv))).get? b = some o := fun b o hb e => (Heap.get?_update_other s9.heap (Obj.mapSeq (·.push yv)) (Ne.symm hb)).trans e
        have I9a : Inv (cxC X own scope (closL X.env scope.names) Hh.objs.size s2 H2 fp) pins σ7 H9 s9 := I9.unpinned.unpinned
        have I9b : Inv (cxC X own scope (closL X.env scope.names) Hh.objs.size s2 H2 fp) pins σ7 H9 { s9 with heap := s9.heap.update s2.heap.objs.size (Obj.mapSeq (·.push yv)) } :=
          I9a.turned (t' := s9.toks) uother nD neD (.inr (Nat.le_refl _)) (fun x c e z => by
            obtain ⟨v, o, hoc, _⟩ := I2.cell x c (O.sub I2.ok x c e)
            exact absurd z (Nat.ne_of_lt (Heap.lt_size hoc))) fun p hp => Nat.ne_of_lt (pinlt p hp)
        have e2 : (its.toArray.push yv) = (its ++ [yv]).toArray := by simp
        have upd9' : ∃ n2, (s9.heap.update s2.heap.objs.size (Obj.mapSeq (·.push yv))).get? s2.heap.objs.size = some (lo (its ++ [yv]) n2) := ⟨_, by rw [upd9, e2]⟩
        obtain ⟨n2, upd9'⟩ := upd9'
        have I9c := I9b.pins_of (pins' := pins ++ [(s2.heap.objs.size, lo (its ++ [yv]) n2)]) fun p hp => by
          rcases List.mem_append.mp hp with hp | hp
          · exact I9b.pin p (List.mem_append_right _ hp)
          · cases List.mem_singleton.mp hp
            exact ⟨upd9', nD, neD, nfD, fun v z => by cases z⟩
        refine ⟨m', hm, i + 1, ys ++ [y], its ++ [yv], n2, σ7, H9, I9c, wk7, T.keep _ _ _ a1 fun b hb o e => uother b o ?_ e, a2, vs4.append (.cons r9 .nil), w9⟩
        obtain ⟨o', eo⟩ := hob b hb
        exact Nat.ne_of_lt (Heap.lt_size eo)
  exact codeAny_compStart_list (loop _ rfl) (T.self _ 0 _ _ _ st3 (loop _ rfl))
theorem pe_comp {tg iter elt : Expr} {ifs : List Expr} {pos : Pos} {wi : TI} {g : TG} {tt : TT} {te : TE} (O : CompOk X own scope) (hi : PI X tg iter wi)
    (hg : ∀ cl C s H fp, PG (cxC X own scope cl C s H fp) tg g) (ht : ∀ cl C s H fp, PTs (cxC X own scope cl C s H fp) ifs tt) (he : ∀ cl C s H fp, PE (cxC X own scope cl C s H fp) elt te)
    (hs : ∀ x, foldedSetIterable iter X.env x = pure x := by intro _; rfl) :
    PE X (.ListComp elt [⟨tg, iter, ifs, 0⟩] scope pos) (tComp wi g tt te own.length) := by
  intro pins s σ H Q I h
  rw [eval_ListComp]
  refine comp_core O hi hg ht he hs I h fun s2 H2 fp C cl its nn σ' H' s5 ys I2 f2 hC I5 vs hz qn => ?_
  obtain ⟨mm, hnm, _⟩ := I5.loc
  exact ⟨mm, hnm, fun h' hs' => ⟨.ref s2.heap.objs.size, _, comp_exit I2 f2 hC I5 vs hz hs', rfl, qn _ (I5.pin (s2.heap.objs.size, lo its nn) (List.mem_append_right _ (List.mem_append_right _ List.mem_cons_self))).2.1⟩⟩
/-- x = [elt for ..], x a plain local name -/
theorem ps_setC {i : Nat} {x : Str} {tg iter elt : Expr} {ifs : List Expr} {pos pos' cpos : Pos} {wi : TI} {g : TG} {tt : TT} {te : TE} (hN : X.N.Nodup) (hix : X.N[i]? = some x) (hl : X.env.scope.names.lookup x = some .local) (O : CompOk X own scope) (hi : PI X tg iter wi)
    (hg : ∀ cl C s H fp, PG (cxC X own scope cl C s H fp) tg g) (ht : ∀ cl C s H fp, PTs (cxC X own scope cl C s H fp) ifs tt) (he : ∀ cl C s H fp, PE (cxC X own scope cl C s H fp) elt te)
    (hs : ∀ x, foldedSetIterable iter X.env x = pure x := by intro _; rfl) (hsw : swapsWith (.ListComp elt [⟨tg, iter, ifs, 0⟩] scope cpos) (some (.Name x pos')) pos.line X.env = pure true := by rfl) :
    PS X (.Assign [.Name x pos'] (.ListComp elt [⟨tg, iter, ifs, 0⟩] scope cpos) pos) (tAsg (tComp wi g tt te own.length) (gName i)) := by
  intro pins s σ H D I h
  rw [exec_Assign_Name_used _ _ _ _ hsw]
  refine wpAny_bind (wpAny_standAt (wpAny_bind (m := evalThenUse _ X.env _) ?_))
  show wpAny _ _ (comprehension (.ListComp elt [⟨tg, iter, ifs, 0⟩] scope cpos) scope X.env _ (newList []) false (eval iter X.env) (some (assign (.Name x pos') X.env)) >>= fun _ => _) _ _ s
  refine wpAny_bind (thn (comp_core (Qp := fun _ s' => SP X pins D .next s') O hi hg ht he hs I h fun s2 H2 fp C cl its nn σ' H' s5 ys I2 f2 hC I5 vs hz qn => ?_) fun _ s' hq => wpAny_pure (wpAny_pure hq))
  have Ix : Inv X pins σ (upd H' s2.heap.objs.size (.lst ys)) s5 := comp_exit I2 f2 hC I5 vs hz (Heap.SameBut.refl _ _)
  obtain ⟨mm, hnm, _⟩ := I5.loc
  have fC : H' C = none := I5.free
  have nCD : C ≠ s2.heap.objs.size := Nat.ne_of_gt hC
  refine wpAny_assign_Name (store_ok2 (v := .ref s2.heap.objs.size) Ix hN hix (.inl hl) rfl (fun s6 I6 sb => ?_) (.inr hl))
  obtain ⟨a, sb, ha⟩ := sb
  have nLC : X.env.locals ≠ C := Nat.ne_of_lt (Nat.lt_trans I2.lt hC)
  have cC : ∀ y c, X.env.cells.lookup y = some c → c ≠ C := fun y c e => by
    obtain ⟨v, o, ho, _⟩ := I2.cell y c e
    exact Nat.ne_of_lt (Nat.lt_trans (Heap.lt_size ho) hC)
  have naC : C ≠ a := by
    rcases ha with rfl | ha
    · exact Ne.symm nLC
    · exact Ne.symm (cC x a ha)
  refine ⟨mm, hnm.sameBut sb naC, fun h' hs' => ⟨_, _, I6.turned (t' := s6.toks) (fun b o hb e => (hs'.2 b hb).trans e) (by rw [upd_ne nCD]; exact fC) (Ne.symm nLC) (.inr (Nat.le_trans I2.sz (Nat.le_of_lt hC))) cC (fun p hp => Nat.ne_of_lt (Nat.lt_trans (Heap.lt_size (I2.pin p hp).1) hC)), qn _ (I5.pin (s2.heap.objs.size, lo its nn) (List.mem_append_right _ (List.mem_append_right _ List.mem_cons_self))).2.1⟩⟩
end
/-! ### rules with the module's part named, for a comprehension's block -/
section
variable {X : Cx} {pos : Pos}
theorem pg_tupK (K : PySem.W.Frag) (n : Nat) {es : List Expr} {k : Nat} {t : TGs} (hK : X.K = K) (hc : X.calm = true) (h : PGs X es t)
    (hn : (assignEach es X.env).length = n := by rfl) (hst : (assignEach es X.env).findIdx? (·.1) = none := by rfl) : PG X (.Tuple es k pos) (gTup K n t) := by
  subst hK
  exact pg_tup hc h hn hst
end
end L2

namespace L2
open PySem PySem.Spec PyProof.Rows

/-! ### data in the abstract heap -/
mutual
inductive DV (H : Hp) : V → PyData → Prop
  | non : DV H .non .none
  | bl (b : Bool) : DV H (.bl b) (.bool b)
  | int (i : Int) : DV H (.int i) (.int i)
  | str (x : Str) : DV H (.str x) (.str x)
  | lst {a : Addr} {xs : List V} {ds : List PyData} : H a = some (.lst xs) → DVs H xs ds → DV H (.ref a) (.list ds)
  | tup {a : Addr} {xs : List V} {ds : List PyData} : H a = some (.tup xs) → DVs H xs ds → DV H (.ref a) (.tuple ds)
inductive DVs (H : Hp) : List V → List PyData → Prop
  | nil : DVs H [] []
  | cons {v : V} {vs : List V} {d : PyData} {ds : List PyData} : DV H v d → DVs H vs ds → DVs H (v :: vs) (d :: ds)
end
mutual
theorem DV.mono {H H' : Hp} (g : Same H H') : ∀ {v : V} {d : PyData}, DV H v d → DV H' v d
  | _, _, .non => .non
  | _, _, .bl b => .bl b
  | _, _, .int i => .int i
  | _, _, .str x => .str x
  | _, _, .lst e r => .lst (g _ _ e) (DVs.mono g r)
  | _, _, .tup e r => .tup (g _ _ e) (DVs.mono g r)
theorem DVs.mono {H H' : Hp} (g : Same H H') : ∀ {vs : List V} {ds : List PyData}, DVs H vs ds → DVs H' vs ds
  | _, _, .nil => .nil
  | _, _, .cons h r => .cons (DV.mono g h) (DVs.mono g r)
end
theorem DVs.length {H : Hp} : ∀ {vs : List V} {ds : List PyData}, DVs H vs ds → vs.length = ds.length
  | _, _, .nil => rfl
  | _, _, .cons _ r => congrArg (· + 1) r.length
theorem DVs.append {H : Hp} : ∀ {vs ws : List V} {ds es : List PyData}, DVs H vs ds → DVs H ws es → DVs H (vs ++ ws) (ds ++ es)
  | _, _, _, _, .nil, s => s
  | _, _, _, _, .cons h r, s => .cons h (DVs.append r s)
theorem DVs.get {H : Hp} : ∀ {vs : List V} {ds : List PyData} {i : Nat} {d : PyData}, DVs H vs ds → ds[i]? = some d → ∃ v, vs[i]? = some v ∧ DV H v d
  | _, _, _, _, .nil, e => by simp at e
  | _, _, 0, _, .cons h _, e => by simp at e; subst e; exact ⟨_, rfl, h⟩
  | _, _, i + 1, d, .cons _ r, e => by
    obtain ⟨v, h1, h2⟩ := DVs.get (i := i) (d := d) r (by simpa using e)
    exact ⟨v, by simpa using h1, h2⟩
section
variable {X : Cx} {pins : List (Addr × Obj)} {σ : St} {H : Hp} {s : Shared}
mutual
theorem DV.reads (I : Inv X pins σ H s) : ∀ {v : V} {d : PyData} {u : Value}, DV H v d → RelV v u → ∃ as, Reads s.heap u d as
  | _, _, _, .non, r => by cases r; exact ⟨_, Reads.none⟩
  | _, _, _, .bl b, r => by cases r; exact ⟨_, Reads.bool b⟩
  | _, _, _, .int i, r => by obtain ⟨t, rfl⟩ := r; exact ⟨_, Reads.int i t⟩
  | _, _, _, .str x, r => by obtain ⟨t, rfl⟩ := r; exact ⟨_, Reads.str x t⟩
  | _, _, _, .lst e q, r => by
    cases r
    obtain ⟨its, n, rv, ho, _⟩ := I.lst e
    obtain ⟨as, p⟩ := DVs.reads I q rv
    exact ⟨_, reads_list_at ho rfl rfl (by simpa using p)⟩
  | _, _, _, .tup e q, r => by
    cases r
    obtain ⟨its, rv, ⟨o, ho, hc, n, hd⟩, _⟩ := I.tuple (SqT.of e)
    obtain ⟨as, p⟩ := DVs.reads I q rv
    exact ⟨_, reads_tuple_at ho hc hd (by simpa using p)⟩
theorem DVs.reads (I : Inv X pins σ H s) : ∀ {vs : List V} {ds : List PyData} {us : List Value}, DVs H vs ds → Vals vs us → ∃ as, ReadsAll s.heap us ds as
  | _, _, _, .nil, r => by cases r; exact ⟨_, ReadsAll.nil⟩
  | _, _, _, .cons h t, r => by
    cases r with
    | cons r1 r2 =>
      obtain ⟨as, p⟩ := DV.reads I h r1
      obtain ⟨bs, q⟩ := DVs.reads I t r2
      exact ⟨_, ReadsAll.cons p q⟩
end
end
/-- == and != of data -/
def rEqD : R2 := fun x y H Q => ∃ d e, DV H x d ∧ DV H y e ∧ SeqAt.shaped d = true ∧ SeqAt.shaped e = true ∧ Q (.bl (PyData.eqv d e)) H
def rNeD : R2 := fun x y H Q => ∃ d e, DV H x d ∧ DV H y e ∧ SeqAt.shaped d = true ∧ SeqAt.shaped e = true ∧ Q (.bl (!PyData.eqv d e)) H
section
variable {X : Cx}
theorem op_eqD (hu : X.A.units + 64 < cLine) : OpR X (compareOp .Eq) rEqD := by
  intro pins s σ H x y v u Q I rx ry h
  obtain ⟨d, e, h1, h2, s1, s2, q⟩ := h
  obtain ⟨as, p1⟩ := h1.reads I rx
  obtain ⟨bs, p2⟩ := h2.reads I ry
  exact eq_dataH p1 p2 s1 s2 hu ⟨.bl _, H, I, rfl, q⟩

/-! ### isinstance(x, T), T a built-in type's name -/
def rIs (K : PySem.W.Frag) : List V → Hp → VK → Prop := fun xs H Q => ∃ x t T b, xs = [x, .ty T] ∧ TyOf K H x t ∧ PySem.W.kitOne K t (.type T) = some b ∧ Q (.bl b) H
theorem call_is : CallR X (.builtin "isinstance") (rIs X.K) := by
  intro pins s σ H xs us Q I r h
  obtain ⟨x, t, T, b, rfl, ty, e, q⟩ := h
  obtain ⟨u, w', rfl, ru, rt⟩ := vals2 r
  cases (show w' = Value.type T from rt)
  exact isinst_ok I ru ty e fun tk => ⟨.bl b, H, I.tok _, rfl, q⟩


/-! ### x.split(y) -/
def rSplit : V → List V → Hp → VK → Prop := fun x vs H Q => ∃ z y ps, x = .str z ∧ vs = [.str y] ∧ (decide (z.length < y.length) || decide (Builtin.Str.strKind z < Builtin.Str.strKind y)) = false ∧ (y.length == 0) = false ∧
  (Builtin.Str.occurrences z y 0 z.length (z.length + 1)).isEmpty = false ∧ z.length ≤ sizeLine ∧ Builtin.Str.partsBetween z (Builtin.Str.occurrences z y 0 z.length (z.length + 1)) y.length = ps ∧ ps.length ≤ sizeLine ∧ ∀ l, H l = none → Q (.ref l) (upd H l (.lst (ps.map V.str)))
theorem strs_vals : ∀ (ps : List Str) (k : Nat), Vals (ps.map V.str) (strsFrom k ps)
  | [], _ => .nil
  | p :: ps, k => .cons ⟨_, rfl⟩ (strs_vals ps _)
theorem mt_split : MtR X "str.split" rSplit := by
  intro pins s σ H x vs v us Q I rx rv h
  obtain ⟨z, y, ps, rfl, rfl, h1, h2, h3, h4, rfl, h5, q⟩ := h
  obtain ⟨t, rfl⟩ := rx
  obtain ⟨u, rfl, t', rfl⟩ := vals1 rv
  refine call_meets F.slot_str_split (typeIs_str s z t) F.entry_str_split (F.args_str_split_2 _ _) (meets_str_split_sep z y t t' h1 h2 h3 h4 h5) ?_
  refine ⟨.ref s.heap.objs.size, _, I.laid (o := .lst (_ : List V)) (fun b ob q => Heap.get?_push_of_some _ q) (Nat.le_refl _) ⟨?_, _, 0, strs_vals _ _, Heap.get?_push_size _ rfl⟩, rfl, q _ (I.hok.fresh (Nat.le_refl _))⟩
  rw [List.length_map]
  exact h5
end
end L2

namespace L2
open PySem PySem.Spec PyProof.Rows

/-! ### a def of the module that keeps its promise, by its name -/
structure Has (P : Program) (w : World) (K : PySem.W.Frag) (mg : Str → Option Value) (base : Heap) (x : Str) (k : Nat) (ps : List Str) (sp : Sp) : Prop where
  ex : ∃ f fd, FnOk P w K mg base CX0 k f fd ps sp ∧ Binds K fd ps [] ∧ PySem.W.keepIn K (.ref f) = true ∧ mg x = some (.ref f)
theorem Has.mono {P : Program} {w : World} {K : PySem.W.Frag} {mg : Str → Option Value} {base : Heap} {x : Str} {j k : Nat} {ps : List Str} {sp : Sp} (h : Has P w K mg base x j ps sp) (hj : j ≤ k) : Has P w K mg base x k ps sp := by
  obtain ⟨f, fd, F, b, q, m⟩ := h.ex
  exact ⟨f, fd, F.mono hj, b, q, m⟩
section
variable {X : Cx} {j k : Nat} {ps : List Str} {sp : Sp} {x : Str} {p pos : Pos} {e : Expr} {es : List Expr} {t : TA}
theorem pe_callH (h : Has X.prog X.w X.K X.mg X.base x j ps sp) (hr : Room k X.A) (ha : PA X (e :: es) t) (hg : Gl X x := by rfl) (hj : j ≤ k := by first | decide | omega)
    (hdb : (x == ("__debug__" : Str)) = false := by decide) (he : starEach (e :: es) X.env = (false, eval e X.env) :: starEach es X.env := by rfl) (hpl : (backTo pos (starEach es X.env)).any (·.1) = false := by rfl) :
    PE X (.Call (.Name x p) (e :: es) [] pos) (tCall sp [] E0 t) := by
  intro pins s σ H Q I q
  obtain ⟨f, fd, F, b, kp, m⟩ := h.ex
  refine pe_call (CX := CX0) (E := E0) (dvs := []) (F.mono hj) hr hg m kp b .nil ?_ ha hdb he hpl pins s σ H Q I q
  exact fun _ _ _ _ _ _ _ z => z.elim
end

/-! ### heaps without one address; what is laid anew -/
def hide (a : Addr) (H : Hp) : Hp := fun b => if b = a then none else H b
theorem hide_self {a : Addr} {H : Hp} : hide a H a = none := by unfold hide; rw [if_pos rfl]
theorem hide_ne {a b : Addr} {H : Hp} (h : b ≠ a) : hide a H b = H b := by unfold hide; rw [if_neg h]
theorem hide_some {a b : Addr} {H : Hp} {o : HO} (h : hide a H b = some o) : b ≠ a ∧ H b = some o := by
  unfold hide at h
  by_cases e : b = a
  · rw [if_pos e] at h; cases h
  · rw [if_neg e] at h; exact ⟨e, h⟩
theorem hide_sub {a : Addr} {H : Hp} : Same (hide a H) H := fun _ _ h => (hide_some h).2
theorem same_laid {H : Hp} {p : Addr} (h : H p = none) (o : HO) : Same H (upd H p o) := fun b u q => by rw [upd_ne (ne_of_none q h)]; exact q
/-- all but what stands at a is as it was -/
abbrev Grw (a : Addr) (H H' : Hp) : Prop := Same (hide a H) (hide a H')
theorem grw_same {a : Addr} {H H' : Hp} {o : HO} (ha : H a = some o) (g : Same H H') : Grw a H H' := fun b u q => by
  obtain ⟨h1, h2⟩ := hide_some q
  rw [hide_ne h1]; exact g b u h2
theorem grw_upd {a : Addr} {H : Hp} {o : HO} : Grw a H (upd H a o) := fun b u q => by
  obtain ⟨h1, h2⟩ := hide_some q
  rw [hide_ne h1, upd_ne h1]; exact h2
theorem grw_laid {a p : Addr} {H : Hp} {o : HO} (h : H p = none) : Grw a H (upd H p o) := fun b u q => by
  obtain ⟨h1, h2⟩ := hide_some q
  rw [hide_ne h1, upd_ne (ne_of_none h2 h)]; exact h2

/-! ### a pen: three ints, as the draws leave it -/
def PenAt (H : Hp) (a : Addr) : Prop := ∃ p q r : Int, H a = some (.lst [.int p, .int q, .int r])
theorem PenAt.same {H H' : Hp} {a : Addr} (h : PenAt H a) (g : Same H H') : PenAt H' a := by
  obtain ⟨p, q, r, e⟩ := h
  exact ⟨p, q, r, g _ _ e⟩
theorem PenAt.laid {H : Hp} {a p : Addr} {o : HO} (h : PenAt H a) (hp : H p = none) : PenAt (upd H p o) a := h.same (same_laid hp o)
theorem PenAt.ne {H : Hp} {a p : Addr} (h : PenAt H a) (hp : H p = none) : p ≠ a := by
  obtain ⟨x, y, z, e⟩ := h
  exact fun q => by rw [q, e] at hp; cases hp
end L2

namespace L2
open PySem PySem.Spec PyProof.Rows
/-! ### small facts -/
theorem posI {j : Int} (h : decide (0 < j) = true) : 0 < j := of_decide_eq_true h
theorem ltI {i j : Int} (h : decide (i < j) = true) : i < j := of_decide_eq_true h
theorem leI {i j : Int} (h : decide (i ≤ j) = true) : i ≤ j := of_decide_eq_true h
theorem leN {i j : Nat} (h : decide (i ≤ j) = true) : i ≤ j := of_decide_eq_true h
theorem cdivI {i j : Int} (h1 : decide (0 < j) = true) (h2 : decide (j < 1073741824) = true) : CDiv i j := ⟨of_decide_eq_true h1, of_decide_eq_true h2⟩
theorem powI {i j : Int} (h1 : decide (0 ≤ j) = true) (h2 : decide (j ≤ 1000000) = true) (h3 : decide (i.natAbs < 2 ^ 64) = true) : CPow i j := ⟨of_decide_eq_true h1, of_decide_eq_true h2, of_decide_eq_true h3⟩
theorem mulL {i j : Int} (h1 : decide (-(2 ^ 64) < i) = true) (h2 : decide (i < 2 ^ 64) = true) : CMul i j := Or.inl ⟨of_decide_eq_true h1, of_decide_eq_true h2⟩
theorem mulR {i j : Int} (h1 : decide (-(2 ^ 64) < j) = true) (h2 : decide (j < 2 ^ 64) = true) : CMul i j := Or.inr ⟨of_decide_eq_true h1, of_decide_eq_true h2⟩
theorem mulM (x m y : Int) (h0 : decide (0 < m) = true) (h1 : decide (m < 4294967296) = true) : CMul (x % m) y := by
  have h0 := of_decide_eq_true h0
  have h1 := of_decide_eq_true h1
  exact Or.inl ⟨by have := Int.emod_nonneg x (show m ≠ 0 by omega); omega, by have := Int.emod_lt_of_pos x h0; omega⟩
theorem at3_0 (a b c : V) : atI [a, b, c] 0 = some a := rfl
theorem at3_1 (a b c : V) : atI [a, b, c] 1 = some b := rfl
theorem at3_2 (a b c : V) : atI [a, b, c] 2 = some c := rfl
theorem atI_in {α : Type} {xs : List α} {i : Int} (h0 : 0 ≤ i) (h1 : i < xs.length) : ∃ v, atI xs i = some v ∧ v ∈ xs := by
  have hi : i.toNat < xs.length := by omega
  have e : ((i.toNat : Nat) : Int) = i := by omega
  refine ⟨xs[i.toNat], ?_, List.getElem_mem hi⟩
  have q := atI_nat (xs := xs) (j := i.toNat) (v := xs[i.toNat]) (List.getElem?_eq_getElem hi)
  rw [e] at q
  exact q
theorem at3 {x y z : V} {d : Int} (h0 : 0 ≤ d) (h1 : d < 3) : ∃ v, atI [x, y, z] d = some v ∧ (v = x ∨ v = y ∨ v = z) := by
  obtain ⟨v, h, m⟩ := atI_in (xs := [x, y, z]) h0 h1
  exact ⟨v, h, by simpa using m⟩
theorem grw_get {a b : Addr} {H H' : Hp} {o : HO} (g : Grw a H H') (hb : b ≠ a) (h : H b = some o) : H' b = some o := by
  have q := g b o (by rw [hide_ne hb]; exact h)
  exact (hide_some q).2
theorem small_le {n : Nat} (h : n ≤ 1000000) : n ≤ sizeLine := Nat.le_trans h (by decide)
theorem small_lt {n : Nat} (h : n < 1000000) : n < sizeLine := Nat.lt_of_lt_of_le h (by decide)

/-! ### comprehensions over a range, over a list -/
theorem comp_list {K : PySem.W.Frag} {a : Addr} {xs : List V} {k : Nat} {g : TG} {tt : TT} {te : TE} {σ : St} {H : Hp} {Q : VK} (Pv : Nat → List V → Hp → Prop) (h0 : Pv 0 [] H) (hl : ∀ i ys H, i ≤ xs.length → Pv i ys H → SqL K H a xs)
    (hs : ∀ i x ys H (C : List V → Hp → Prop), xs[i]? = some x → Pv i ys H → (∀ ys' H', Pv (i + 1) ys' H' → C ys' H') → ys.length < sizeLine ∧ g x (List.replicate k none ++ σ) H fun σ2 H2 => Wk σ2 (List.replicate k none ++ σ) ∧ tt σ2 H2 fun ok H3 =>
      if ok = true then te σ2 H3 fun y H4 => C (ys ++ [y]) H4 else C ys H3)
    (hd : ∀ ys H, Pv xs.length ys H → ys.length ≤ sizeLine ∧ ∀ p, H p = none → Q (.ref p) (upd H p (.lst ys))) :
    CompR (Itl K a) H k g tt te σ Q := by
  refine ⟨fun i m ys H => m = xs.length - i ∧ i ≤ xs.length ∧ Pv i ys H, ⟨xs.length, by simp, Nat.zero_le _, h0⟩, ?_⟩
  rintro i m ys H ⟨rfl, hi, p⟩
  have q := hl i ys H hi p
  by_cases hlt : i < xs.length
  · have r := hs i xs[i] ys H (fun ys' H' => ∃ m', m' < xs.length - i ∧ m' = xs.length - (i + 1) ∧ i + 1 ≤ xs.length ∧ Pv (i + 1) ys' H') (by simp [hlt]) p fun ys' H' p' => ⟨_, by omega, rfl, hlt, p'⟩
    refine .inr ⟨⟨xs, xs[i], q, by simp [hlt]⟩, r.1, fun x H' y => ?_⟩
    obtain ⟨e, y⟩ := y
    subst e
    have ex : xs[i]? = some x := y xs q
    have ex2 : xs[i] = x := by simpa [hlt] using ex
    rw [← ex2]
    exact r.2
  · have e : i = xs.length := by omega
    subst e
    exact .inl ⟨⟨xs, q, Nat.le_refl _⟩, hd ys H p⟩

/-! ### the words -/
def wordA : Str := "q abcdefgh aq qa abcdefgi ea zz eaq abd abc e bcdefgh za "
def wordB : Str := "qae acb ae abcdefg z qq aea az abcd xabcd eae abce eq"
def words : List Str := ["q", "abcdefgh", "aq", "qa", "abcdefgi", "ea", "zz", "eaq", "abd", "abc", "e", "bcdefgh", "za", "qae", "acb", "ae", "abcdefg", "z", "qq", "aea", "az", "abcd", "xabcd", "eae", "abce", "eq"]
theorem word_parts : Builtin.Str.partsBetween (wordA ++ wordB) (Builtin.Str.occurrences (wordA ++ wordB) " " 0 (wordA ++ wordB).length ((wordA ++ wordB).length + 1)) (" " : Str).length = words := by decide +kernel
theorem word_k : (decide ((wordA ++ wordB).length < (" " : Str).length) || decide (Builtin.Str.strKind (wordA ++ wordB) < Builtin.Str.strKind " ")) = false := by decide +kernel
theorem word_e : (((" " : Str).length == 0) = false) := by decide +kernel
theorem word_o : (Builtin.Str.occurrences (wordA ++ wordB) " " 0 (wordA ++ wordB).length ((wordA ++ wordB).length + 1)).isEmpty = false := by decide +kernel
theorem word_l : (wordA ++ wordB).length ≤ sizeLine := by decide +kernel
theorem word_ab : wordA.length + wordB.length ≤ sizeLine := by decide +kernel
theorem words_ok : ∀ x ∈ words, PyData.strOk x = true := by decide +kernel
/-! ### things -/
structure Th where
  day : Int
  word : Str
  num : Int
  many : Int
def Th.D (t : Th) : PyData := .tuple [.int t.day, .str t.word, .int t.num, .int t.many]
def Th.vs (t : Th) : List V := [.int t.day, .str t.word, .int t.num, .int t.many]
structure Th.Ok (t : Th) : Prop where
  day : 0 ≤ t.day
  word : t.word ∈ words
  num : 0 ≤ t.num
  many : 1 ≤ t.many
  numU : t.num < 1073741824
  manyU : t.many ≤ 1000000000
theorem Th.dv {H : Hp} {r : Addr} {t : Th} (h : H r = some (.tup t.vs)) : DV H (.ref r) t.D := .tup h (.cons (.int _) (.cons (.str _) (.cons (.int _) (.cons (.int _) .nil))))
end L2

namespace L2
open PySem PySem.Spec PyProof.Rows
/-! ### trees of streams -/
inductive Tr where
  | leaf (ts : List Th)
  | node (l r : Tr)
abbrev strD (ts : List Th) : PyData := .list (ts.map Th.D)
def Tr.D : Tr → PyData
  | .leaf ts => strD ts
  | .node l r => .tuple [.str "merged", l.D, r.D]
def Tr.streams : Tr → List (List Th)
  | .leaf ts => [ts]
  | .node l r => l.streams ++ r.streams
def Tr.size : Tr → Nat
  | .leaf _ => 1
  | .node l r => l.size + r.size + 1
def Tr.ht : Tr → Nat
  | .leaf _ => 0
  | .node l r => max l.ht r.ht + 1
def Tr.all : Tr → List Th
  | .leaf ts => ts
  | .node l r => l.all ++ r.all
def Tr.Ok : Tr → Prop
  | .leaf ts => ∀ t ∈ ts, t.Ok
  | .node l r => l.Ok ∧ r.Ok
/-! ### their data are of a shape that is compared -/
theorem lay_all {α : Type} {f : α → PyData} {n : Nat} : ∀ (xs : List α), (∀ x ∈ xs, (f x).canLay0 = true ∧ (f x).depth ≤ n) → PyData.canLayAll0 (xs.map f) = true ∧ PyData.depthAll (xs.map f) ≤ n
  | [], _ => by simp [PyData.canLayAll0, PyData.depthAll]
  | x :: xs, h => by
    have h1 := h x List.mem_cons_self
    have h2 := lay_all xs fun y hy => h y (List.mem_cons_of_mem _ hy)
    rw [List.map_cons, PyData.canLayAll0, PyData.depthAll, h1.1, h2.1]
    exact ⟨rfl, Nat.max_le.mpr ⟨h1.2, h2.2⟩⟩
theorem lay_list {α : Type} {f : α → PyData} {n : Nat} (xs : List α) (h : ∀ x ∈ xs, (f x).canLay0 = true ∧ (f x).depth ≤ n) : (PyData.list (xs.map f)).canLay0 = true ∧ (PyData.list (xs.map f)).depth ≤ n + 1 := by
  have q := lay_all xs h
  rw [PyData.canLay0, PyData.depth]
  exact ⟨q.1, Nat.succ_le_succ q.2⟩
theorem shaped_of {d : PyData} {n : Nat} (h : d.canLay0 = true ∧ d.depth ≤ n) (hn : n ≤ 64) : SeqAt.shaped d = true := by
  unfold SeqAt.shaped
  rw [h.1, Bool.true_and]
  exact decide_eq_true (Nat.le_trans h.2 hn)
/-! ### what a datum's value is -/
theorem DV.tup_inv {H : Hp} {v : V} {ds : List PyData} (h : DV H v (.tuple ds)) : ∃ a xs, v = .ref a ∧ H a = some (.tup xs) ∧ DVs H xs ds := by
  cases h with
  | tup e r => exact ⟨_, _, rfl, e, r⟩
theorem DVs.cons_inv {H : Hp} {vs : List V} {d : PyData} {ds : List PyData} (h : DVs H vs (d :: ds)) : ∃ x r, vs = x :: r ∧ DV H x d ∧ DVs H r ds := by
  cases h with
  | cons a b => exact ⟨_, _, rfl, a, b⟩
theorem DVs.nil_inv {H : Hp} {vs : List V} (h : DVs H vs []) : vs = [] := by
  cases h with
  | nil => rfl
/-! ### two lists that are being made are left out -/
abbrev hide2 (a b : Addr) (H : Hp) : Hp := hide a (hide b H)
/-- what was not there may be changed -/
theorem same_fresh {H H' : Hp} {a : Addr} {o : HO} (g : Same H H') (h : H a = none) : Same H (upd H' a o) := fun b u q => by rw [upd_ne (ne_of_none q h)]; exact g b u q
end L2

namespace L2
open PySem PySem.Spec PyProof.Rows
theorem Has.of {P : Program} {w : World} {K : PySem.W.Frag} {mg : Str → Option Value} {base : Heap} {x : Str} {k : Nat} {ps : List Str} {sp : Sp} {f : Addr} {fd : FuncData} (F : FnOk P w K mg base CX0 k f fd ps sp) (b : Binds K fd ps []) (kp : PySem.W.keepIn K (.ref f) = true) (m : mg x = some (.ref f)) :
    Has P w K mg base x k ps sp := ⟨f, fd, F, b, kp, m⟩
/-- is the built-in type t under T? -/
def kitT (t T : String) : Option Bool := if (Value.type t == Value.type T) = true then some true else if PySem.W.kitMeta T = true then (PySem.fastBuiltinMro t).map (·.contains (.type T)) else none
theorem kit_t {K : PySem.W.Frag} {t T : String} {b : Bool} (h : kitT t T = some b) : PySem.W.kitOne K (.type t) (.type T) = some b := h
end L2

namespace L2
open PySem PySem.Spec PyProof.Rows
section
variable {X : Cx}
theorem ints_at {ns : List Int} {us : List Value} (r : Vals (ns.map V.int) us) {i : Nat} {u : Value} (h : us[i]? = some u) : ∃ t, u = .int (ns.getD i 0) t := IntsAre.int_at (intsAre_of r) i u h
/-- sum(xs) of a list of ints -/
theorem call_sum (hc : X.calm = true) : CallR X (.builtin "sum") (fun xs H Q => ∃ (p : Addr) (ns : List Int), xs = [.ref p] ∧ SqL X.K H p (ns.map V.int) ∧ Q (.int ns.sum) H) := by
  intro pins s σ H xs us Q I r h
  obtain ⟨p, ns, rfl, hq, q⟩ := h
  obtain ⟨u, rfl, ru⟩ := vals1 r
  cases ru
  obtain ⟨its, rv, pl, hz⟩ := I.list hq
  have hl := rv.length
  rw [List.length_map] at hl
  have hlt : p < s.heap.objs.size := by
    obtain ⟨o, n, e, _⟩ := pl
    exact Heap.lt_size e
  refine call_sum_walkG (wpAny_pyIter_list pl.isList ?_)
  have hh : X.A.in1.handled = none := by simpa using I.ok.hd hc
  refine ⟨s.heap.objs.size, _, _, _, _, _, fun i => ns.getD i 0, rfl, Walks.list hh _ p (Nat.ne_of_lt hlt) its.toArray, ⟨⟨_, Heap.get?_push_size _ rfl, rfl, rfl⟩, pl.isList.push _⟩, fun b hb => ?_, fun i v hv => ?_, fun h' tk t' kp => ?_⟩
  · rw [Heap.size_push]
    rcases List.mem_cons.mp hb with e | e
    · rw [e]; exact Nat.lt_succ_self _
    · rw [List.mem_singleton.mp e]; exact Nat.lt_succ_of_lt hlt
  · exact ints_at rv (by simpa using hv)
  · have e : preSum (fun i => ns.getD i 0) its.toArray.size = ns.sum := by
      rw [PyProof.Rows.preSum_getD, List.size_toArray, ← hl, List.take_length]
    rw [e]
    refine ⟨.int ns.sum, H, I.kept fun b o eb => kp b o ?_ (Heap.get?_push_of_some _ eb), ⟨_, rfl⟩, q⟩
    intro hb
    rw [List.mem_singleton.mp hb] at eb
    exact absurd (Heap.lt_size eb) (Nat.lt_irrefl _)
end

/-! ### set(xs) of a list of texts: how many unlike ones there are -/
def dd : List Str → List Str → List Str
  | acc, [] => acc
  | acc, z :: r => dd (if z ∈ acc then acc else acc ++ [z]) r
def inF (l : List Str) (k : Key) : Bool := l.any fun z => decide (k = (Sum.inr z : Key))
section
variable {prog : Program} {w : World} {A : Around} {R : Result → Shared → Prop} {I : Addr} {fp wr : List Addr} {n : Nat} {P : Nat → Value → Prop} {St : Nat → Heap → Prop}
end
end L2

namespace L2
open PySem PySem.Spec PyProof.Rows
section
variable {prog : Program} {w : World} {A : Around} {E : Value → Shared → Prop} {s : Shared}
abbrev bareSet (led : Bool) : Obj := { cls := .type "set", dict := none, data := .set #[] 0 (.fresh 0 0 led) }
end
/-- a set of texts that nothing changes -/
def txtSet (prog : Program) (w : World) (a : Addr) (n : Nat) : HO := .ext fun h => ∃ F, h.SetOf (mixKind prog w) a F n
section
variable {X : Cx}
end
end L2

namespace L2
open PySem PySem.Spec PyProof.Rows
theorem take_one {α : Type} {l : List α} {i : Nat} {x : α} (h : l[i]? = some x) : l.take (i + 1) = l.take i ++ [x] := by rw [List.take_add_one, h]; rfl
theorem filter_all {α : Type} (l : List α) : l.filter (fun _ => true) = l := by
  induction l with
  | nil => rfl
  | cons a l ih => simp
theorem dvs_ints {H : Hp} : ∀ ns : List Int, DVs H (ns.map V.int) (ns.map PyData.int)
  | [] => .nil
  | n :: r => .cons (.int n) (dvs_ints r)
end L2

namespace L2
open PySem PySem.Spec PyProof.Rows
/-! ### a text, sign by sign -/
def Its (x : Str) : It := ⟨fun i _ => i < x.cps.size, fun i H v H' => H' = H ∧ ∃ c, x.cps[i]? = some c ∧ v = .str ⟨#[c]⟩, fun i _ => x.cps.size ≤ i⟩
theorem turn_strA {P : Program} {w : World} {K : PySem.W.Frag} {tg : Expr} (x : Str) (t : Tok) (it : Addr) : Turn P w K tg (Its x) [it] it (fun i h => h.IsStrIter it "str_ascii_iterator" x t i) where
  mem := by simp
  obj := fun i h st b hb => by
    obtain ⟨o, e, c, d⟩ := st
    have q : b = it := by simpa using hb
    subst q
    exact ⟨o, e, fun v z => by rw [d] at z; cases z⟩
  keep := fun i h h' st k => let ⟨o, e, r⟩ := st; ⟨o, k it (by simp) o e, r⟩
  item := by
    intro X hP hw hK hc i pins s σ H E I hf st hg
    subst hP hw hK
    have hg : i < x.cps.size := hg
    obtain ⟨f0, f1, f2, f3, f4, f5⟩ := hf it (by simp)
    refine wpAny_pyNext_ascii_item st (c := x.cps[i]) (by simp [hg]) fun h' st' sb => ?_
    obtain ⟨o, e, c, d⟩ := id st'
    exact ⟨_, rfl, go_of (s := { s with heap := h', toks := s.toks + 1 }) e c d (by decide) ⟨.str ⟨#[x.cps[i]]⟩, H, I.turned (t' := s.toks + 1) (fun b o hb e => (sb.2 b hb).trans e) f0 f1 f3 f4 f5, ⟨_, rfl⟩, ⟨rfl, _, by simp [hg], rfl⟩, st', fun b hb => (hf b hb).1⟩⟩
  done := by
    intro X hP hw hK hc i pins s σ H E I hf st hg
    subst hP hw hK
    have hg : x.cps.size ≤ i := hg
    obtain ⟨f0, f1, f2, f3, f4, f5⟩ := hf it (by simp)
    exact wpAny_pyNext_ascii_end (I.ok.hd hc) st (by simp; omega) fun h' eb => ⟨rfl, I.turned (t' := s.toks) (fun b o hb e => eb b o hb e) f0 f1 f3 f4 f5⟩
  self := fun _ _ _ _ _ st h => wpAny_pyIter_striter_ascii st h
theorem turn_strW {P : Program} {w : World} {K : PySem.W.Frag} {tg : Expr} (x : Str) (t : Tok) (it : Addr) : Turn P w K tg (Its x) [it] it (fun i h => h.IsStrIter it "str_iterator" x t i) where
  mem := by simp
  obj := fun i h st b hb => by
    obtain ⟨o, e, c, d⟩ := st
    have q : b = it := by simpa using hb
    subst q
    exact ⟨o, e, fun v z => by rw [d] at z; cases z⟩
  keep := fun i h h' st k => let ⟨o, e, r⟩ := st; ⟨o, k it (by simp) o e, r⟩
  item := by
    intro X hP hw hK hc i pins s σ H E I hf st hg
    subst hP hw hK
    have hg : i < x.cps.size := hg
    obtain ⟨f0, f1, f2, f3, f4, f5⟩ := hf it (by simp)
    refine wpAny_pyNext_wide_item st (c := x.cps[i]) (by simp [hg]) fun h' st' sb => ?_
    obtain ⟨o, e, c, d⟩ := id st'
    exact ⟨_, rfl, go_of (s := { s with heap := h', toks := s.toks + 1 }) e c d (by decide) ⟨.str ⟨#[x.cps[i]]⟩, H, I.turned (t' := s.toks + 1) (fun b o hb e => (sb.2 b hb).trans e) f0 f1 f3 f4 f5, ⟨_, rfl⟩, ⟨rfl, _, by simp [hg], rfl⟩, st', fun b hb => (hf b hb).1⟩⟩
  done := by
    intro X hP hw hK hc i pins s σ H E I hf st hg
    subst hP hw hK
    have hg : x.cps.size ≤ i := hg
    obtain ⟨f0, f1, f2, f3, f4, f5⟩ := hf it (by simp)
    exact wpAny_pyNext_wide_end (I.ok.hd hc) st (by simp; omega) fun h' eb => ⟨rfl, I.turned (t' := s.toks) (fun b o hb e => eb b o hb e) f0 f1 f3 f4 f5⟩
  self := fun _ _ _ _ _ st h => wpAny_pyIter_striter_wide st h
def iStr (tl : TE) : TI := fun σ H R => tl σ H fun v H1 => ∃ x, v = .str x ∧ R (Its x) H1
section
variable {X : Cx} {tg : Expr}
theorem pi_str {l : Expr} {tl : TE} (hl : PE X l tl) : PI X tg l (iStr tl) := by
  intro pins s σ H R I h
  refine thn (hl pins s σ H _ I h) fun v s1 ⟨x, H1, I1, r1, q1⟩ => ?_
  obtain ⟨z, e, q⟩ := q1
  subst e
  obtain ⟨t, rfl⟩ := r1
  have fp : ∀ b ∈ [s1.heap.objs.size], FpOk X pins H1 b := fun b hb => by
    have e : b = s1.heap.objs.size := by simpa using hb
    subst e
    exact I1.fpOk (Nat.le_refl _) (I1.hok.fresh (Nat.le_refl _))
  cases ha : z.cps.all (· < 128) with
  | true => exact wpAny_pyIter_ascii ha ⟨s1.heap.objs.size, [s1.heap.objs.size], _, _, H1, rfl, I1.kept (t' := s1.toks) (fun b o e => Heap.get?_push_of_some _ e), turn_strA z t _, ⟨_, Heap.get?_push_size _ rfl, rfl, rfl⟩, fp, q⟩
  | false => exact wpAny_pyIter_wide ha ⟨s1.heap.objs.size, [s1.heap.objs.size], _, _, H1, rfl, I1.kept (t' := s1.toks) (fun b o e => Heap.get?_push_of_some _ e), turn_strW z t _, ⟨_, Heap.get?_push_size _ rfl, rfl, rfl⟩, fp, q⟩
/-- a comprehension over a text -/
theorem comp_str {x : Str} {k : Nat} {g : TG} {tt : TT} {te : TE} {σ : St} {H : Hp} {Q : VK} (Pv : Nat → List V → Hp → Prop) (h0 : Pv 0 [] H)
    (hs : ∀ i c ys H (C : List V → Hp → Prop), x.cps[i]? = some c → Pv i ys H → (∀ ys' H', Pv (i + 1) ys' H' → C ys' H') → ys.length < sizeLine ∧ g (.str ⟨#[c]⟩) (List.replicate k none ++ σ) H fun σ2 H2 => Wk σ2 (List.replicate k none ++ σ) ∧ tt σ2 H2 fun ok H3 =>
      if ok = true then te σ2 H3 fun y H4 => C (ys ++ [y]) H4 else C ys H3)
    (hd : ∀ ys H, Pv x.cps.size ys H → ys.length ≤ sizeLine ∧ ∀ p, H p = none → Q (.ref p) (upd H p (.lst ys))) : CompR (Its x) H k g tt te σ Q := by
  refine ⟨fun i m ys H => m = x.cps.size - i ∧ i ≤ x.cps.size ∧ Pv i ys H, ⟨x.cps.size, by simp, Nat.zero_le _, h0⟩, ?_⟩
  rintro i m ys H ⟨rfl, hi, p⟩
  by_cases hlt : i < x.cps.size
  · have r := hs i x.cps[i] ys H (fun ys' H' => ∃ m', m' < x.cps.size - i ∧ m' = x.cps.size - (i + 1) ∧ i + 1 ≤ x.cps.size ∧ Pv (i + 1) ys' H') (by simp [hlt]) p fun ys' H' p' => ⟨_, by omega, rfl, hlt, p'⟩
    refine .inr ⟨hlt, r.1, fun v H' y => ?_⟩
    obtain ⟨e, c, hc, rfl⟩ := y
    subst e
    have ec : x.cps[i] = c := by simpa [hlt] using hc
    rw [← ec]
    exact r.2
  · have e : i = x.cps.size := by omega
    subst e
    exact .inl ⟨Nat.le_refl _, hd ys H p⟩
/-! ### all(xs) of a list of bools -/
theorem all_range {bs : List Bool} : (List.range bs.length).all (fun i => bs.getD i true) = bs.all id := by
  rw [Bool.eq_iff_iff, List.all_eq_true, List.all_eq_true]
  constructor
  · intro h b hb
    obtain ⟨i, hi, rfl⟩ := List.mem_iff_getElem.mp hb
    have q := h i (List.mem_range.mpr hi)
    rw [List.getD_eq_getElem?_getD, List.getElem?_eq_getElem hi] at q
    exact q
  · intro h i hi
    have hi := List.mem_range.mp hi
    have q := h bs[i] (List.getElem_mem hi)
    rw [List.getD_eq_getElem?_getD, List.getElem?_eq_getElem hi]
    exact q
theorem call_all (hc : X.calm = true) : CallR X (.builtin "all") (fun xs H Q => ∃ (p : Addr) (bs : List Bool), xs = [.ref p] ∧ SqL X.K H p (bs.map V.bl) ∧ Q (.bl (bs.all id)) H) := by
  intro pins s σ H xs us Q I r h
  obtain ⟨p, bs, rfl, hq, q⟩ := h
  obtain ⟨u, rfl, ru⟩ := vals1 r
  cases ru
  obtain ⟨its, rv, pl, hz⟩ := I.list hq
  have hl := rv.length
  rw [List.length_map] at hl
  have hlt : p < s.heap.objs.size := by
    obtain ⟨o, n, e, _⟩ := pl
    exact Heap.lt_size e
  have hh : X.A.in1.handled = none := by simpa using I.ok.hd hc
  refine call_all_walk (wpAny_pyIter_list pl.isList ⟨s.heap.objs.size, _, _, _, _, _, fun i => bs.getD i true, rfl, Walks.list hh _ p (Nat.ne_of_lt hlt) its.toArray, ⟨⟨_, Heap.get?_push_size _ rfl, rfl, rfl⟩, pl.isList.push _⟩, fun i v s' Q' E' hv hQ => ?_, fun h' tk kp => ?_⟩)
  · have hv' : its[i]? = some v := by simpa using hv
    have hi : i < bs.length := by rw [hl]; exact (List.getElem?_eq_some_iff.mp hv').1
    obtain ⟨u, hu, ru⟩ := rv.get (i := i) (x := .bl bs[i]) (by rw [List.getElem?_map, List.getElem?_eq_getElem hi]; rfl)
    rw [hv'] at hu
    cases hu
    cases (show v = Value.bool bs[i] from ru)
    have e : bs.getD i true = bs[i] := by rw [List.getD_eq_getElem?_getD, List.getElem?_eq_getElem hi]; rfl
    simp only [e] at hQ
    exact wpAny_truthy_bool hQ
  · have e : (List.range its.toArray.size).all (fun i => bs.getD i true) = bs.all id := by
      rw [List.size_toArray, ← hl]
      exact all_range
    simp only [e]
    refine ⟨.bl (bs.all id), H, I.kept fun b o eb => kp b o ?_ (Heap.get?_push_of_some _ eb), rfl, q⟩
    intro hb
    rw [List.mem_singleton.mp hb] at eb
    exact absurd (Heap.lt_size eb) (Nat.lt_irrefl _)
/-! ### "".join(xs) of a list of texts -/
def rJoin (K : PySem.W.Frag) : V → List V → Hp → VK → Prop := fun x vs H Q => ∃ (z : Str) (p : Addr) (ys : List Str), x = .str z ∧ vs = [.ref p] ∧ SqL K H p (ys.map V.str) ∧ (ys.map (·.length)).sum + ys.length * z.length ≤ 16777216 ∧ Q (.str (Txt.join z ys)) H
/-! ### two lists with the very same items -/
def okV : V → Bool
  | .flt _ => false
  | .byt _ => false
  | .ty _ => false
  | _ => true
end
end L2

namespace L2
open PySem PySem.Spec PyProof.Rows
/-! ### != of two lists with the very same items -/
section
variable {X : Cx}
def rNeSame (K : PySem.W.Frag) : R2 := fun x y H Q => ∃ a b xs, x = .ref a ∧ y = .ref b ∧ SqL K H a xs ∧ SqL K H b xs ∧ xs.all okV = true ∧ Q (.bl false) H
end
section
variable {prog : Program} {w : World} {A : Around} {E : Value → Shared → Prop} {s : Shared}
end
section
variable {X : Cx} {o e : Expr} {to te : TE} {lo hi : Option Expr} {tl th : TO} {pos p2 : Pos}
/-- o[lo:hi] = a list -/
def gSlc (to : TE) (tl th : TO) : TG := fun v σ H Q => to σ H fun ov H1 => tl σ H1 fun l H2 => th σ H2 fun u H3 => ∃ (p b : Addr) (xs ys : List V) (a c : Nat), ov = .ref p ∧ v = .ref b ∧ l = some (a : Int) ∧ u = some (c : Int) ∧ H3 p = some (.lst xs) ∧ H3 b = some (.lst ys) ∧ p ≠ b ∧ a ≤ c ∧ a ≤ xs.length ∧
  xs.length + ys.length ≤ sizeLine ∧ Q σ (upd H3 p (.lst (xs.take a ++ ys ++ xs.drop (min c xs.length))))
end

/-! ### a tuple times an int -/
theorem noFill_tup_mul : fillsNumberSlot (.type "tuple") "mul" = pure false :=
  PySem.fillsNumberSlot_seq (id := "tuple.__mul__") (r := some (.builtin "tuple.__rmul__")) PySem.F.slot_tuple_mul.lookup (by decide +kernel) PySem.F.slot_tuple_rmul.lookup (by decide +kernel)
theorem repeat_tup : seqRepeat? (.type "tuple") = pure (some (.builtin "tuple.__mul__")) := by
  unfold seqRepeat?
  rw [PySem.seqSlot_of (T := "tuple") (name := "__mul__") (id := "tuple.__mul__") PySem.F.slot_tuple_mul.lookup (by decide +kernel), PySem.seqSlot_of (T := "tuple") (name := "__rmul__") (id := "tuple.__rmul__") PySem.F.slot_tuple_rmul.lookup (by decide +kernel)]
  rfl
section
open PySem.AutoSeq1 (wpAny_loadPart')
open PySem.MeetsSeq PySem.MeetsSeq2 PySem.MeetsSeq3
theorem rmul_tup (a : Int) (t : Tok) (l : Addr) (items : Array Value) (n : Nat) (dd : Option Addr) (sl : Array (Option Value)) :
    Meets (Builtin.«int.__rmul__» ⟨[.int a t, .ref l], []⟩) (fun _ R s => s.heap.get? l = some { cls := .type "tuple", dict := dd, data := .seq items n, slots := sl } ∧ R (.ok (.ret Value.notImplemented)) s) :=
  .of_wp fun prog w A R s h => by
    obtain ⟨hp, g, d, tk, os⟩ := s
    obtain ⟨hl, h⟩ := h
    wp_walk
    exact ⟨_, rfl, h⟩
theorem mul_tup (l : Addr) (items : Array Value) (n : Nat) (dd : Option Addr) (sl : Array (Option Value)) (t : Tok) (he : items.isEmpty = false) (hz : items.size ≤ 10) :
    Meets (Builtin.«tuple.__mul__» ⟨[.ref l, .int 4 t], []⟩) (fun _ R s => s.heap.get? l = some { cls := .type "tuple", dict := dd, data := .seq items n, slots := sl } ∧
      R (.ok (.ret (.ref s.heap.objs.size))) { s with heap := s.heap.push { cls := .type "tuple", data := .seq (items ++ items ++ items ++ items) } }) :=
  .of_wp fun prog w A R s h => by
    obtain ⟨hp, g, d, tk, os⟩ := s
    obtain ⟨hl, h⟩ := h
    have c1 : ¬ ((items.size : Int) * 4 > (2 ^ 63 - 1) / 8) := by
      have : (items.size : Int) ≤ 10 := by omega
      have k : ((2 : Int) ^ 63 - 1) / 8 = 1152921504606846975 := by decide
      omega
    have c2 : Builtin.Tuple.tupleTooMany ((items.size : Int) * 4) = false := by
      unfold Builtin.Tuple.tupleTooMany
      exact decide_eq_false (by have : ((sizeLine : Nat) : Int) ≥ 1000000 := by decide
                                omega)
    have c3 : List.foldl (fun x1 x2 => x1 ++ x2) #[] (List.replicate (Int.toNat 4) items) = items ++ items ++ items ++ items := by
      show ((((#[] : Array Value) ++ items) ++ items) ++ items) ++ items = _
      rw [Array.empty_append]
    wp_walk using wpAny_loadPart' hl
    refine wpAny_ite_false (decide_eq_false c1) ?_
    refine wpAny_ite_false (by rw [c2]; rfl) ?_
    rw [c3]
    have hs4 : (items ++ items ++ items ++ items).size ≤ sizeLine := by
      simp only [Array.size_append]
      exact small_le (by omega)
    exact wpAny_bind (m := Builtin.Tuple.tupleExact _) (wpAny_newObj_type (wpAny_pure ⟨_, rfl, h⟩) hs4)
end
section
variable {X : Cx}
/-- t * 4, t not empty -/
def rRepT (K : PySem.W.Frag) : R2 := fun x y H Q => ∃ (a : Addr) (xs : List V), x = .ref a ∧ y = .int 4 ∧ SqT K H a xs ∧ xs ≠ [] ∧ xs.length ≤ 10 ∧ ∀ p, H p = none → Q (.ref p) (upd H p (.tup (xs ++ xs ++ xs ++ xs)))
theorem op_repT : OpR X (binaryOp .Mult) (rRepT X.K) := by
  intro pins s σ H x y v u Q I rx ry h
  obtain ⟨a, xs, rfl, rfl, ha, hne, hz, q⟩ := h
  cases rx
  obtain ⟨t, rfl⟩ := ry
  obtain ⟨its, r, ⟨⟨c0, d0, dt0, sl0⟩, ho, hc, n, hd⟩, _⟩ := I.tuple ha
  simp only at hc hd
  subst hc hd
  have hl := r.length
  have he : its.toArray.isEmpty = false := by
    cases its with
    | nil => exact absurd (r.nil_iff.mp rfl) hne
    | cons b c => rfl
  refine wpAny_binaryOp_repeat_ref (T := "tuple") (U := "int") (by decide) ⟨_, ho, rfl⟩ (fun s' => typeIs_int s' 4 t) noFill_tup_mul PySem.F.fills_int_mul PySem.F.slot_int_rmul repeat_tup PySem.F.slot_int_index.lookup
    (call_meets PySem.F.slot_int_rmul (typeIs_int s 4 t) PySem.F.entry_int_rmul (PySem.F.args_int_rmul_2 _ _) (rmul_tup 4 t a its.toArray n d0 sl0)
      ⟨ho, rfl, ⟨_, ho, rfl⟩, call_meets PySem.F.slot_tuple_mul ⟨_, ho, rfl⟩ PySem.F.entry_tuple_mul (PySem.F.args_tuple_mul_2 _ _) (mul_tup a its.toArray n d0 sl0 t he (by rw [List.size_toArray]; omega)) ⟨ho, ?_⟩⟩)
  have e : its.toArray ++ its.toArray ++ its.toArray ++ its.toArray = (its ++ its ++ its ++ its).toArray := by simp
  rw [e]
  refine ⟨.ref s.heap.objs.size, _, I.laid (t' := s.toks) (o := .tup (xs ++ xs ++ xs ++ xs)) (fun b ob q => Heap.get?_push_of_some _ q) (Nat.le_refl _) ?_, rfl, q _ (I.hok.fresh (Nat.le_refl _))⟩
  exact ⟨small_le (by simp only [List.length_append]; omega), _, ((r.append r).append r).append r, TupN.new _ _⟩
end
end L2

namespace L2
open PySem PySem.Spec PyProof.Rows
/-! ### what is laid anew -/
theorem laid_pen {H H1 : Hp} {p a : Addr} {o : HO} (h : upd H p o = H1) (n : H p = none) (hp : PenAt H a) : PenAt H1 a ∧ Grw a H H1 ∧ p ≠ a ∧ hide a H1 p = some o := by
  subst h
  exact ⟨hp.laid n, grw_laid n, hp.ne n, by rw [hide_ne (hp.ne n)]; exact upd_same⟩
theorem PenAt.grw {H H' : Hp} {a : Addr} (h : PenAt H a) (g : Same H H') : Grw a H H' := by
  obtain ⟨p, q, r, e⟩ := h
  exact grw_same e g
/-! ### what kind a value is -/
inductive Kd (H : Hp) : V → String → Prop
  | non : Kd H .non "NoneType"
  | bl (b : Bool) : Kd H (.bl b) "bool"
  | int (i : Int) : Kd H (.int i) "int"
  | str (z : Str) : Kd H (.str z) "str"
  | lst {a : Addr} {xs : List V} (e : H a = some (.lst xs)) : Kd H (.ref a) "list"
  | tup {a : Addr} {xs : List V} (e : H a = some (.tup xs)) : Kd H (.ref a) "tuple"
  | dK {a : Addr} {kvs : List (Key × V)} (e : H a = some (.dK kvs)) : Kd H (.ref a) "dict"
theorem Kd.mono {H H' : Hp} (g : Same H H') {x : V} {T : String} (h : Kd H x T) : Kd H' x T := by
  cases h with
  | non => exact .non
  | bl b => exact .bl b
  | int i => exact .int i
  | str z => exact .str z
  | lst e => exact .lst (g _ _ e)
  | tup e => exact .tup (g _ _ e)
  | dK e => exact .dK (g _ _ e)
theorem Kd.ty {K : PySem.W.Frag} {H : Hp} {x : V} {T : String} (h : Kd H x T) : TyOf K H x (.type T) := by
  cases h with
  | non => exact .non
  | bl b => exact .bl b
  | int i => exact .int i
  | str z => exact .str z
  | lst e => exact .lst e
  | tup e => exact .tup e
  | dK e => exact .dK e
theorem Kd.okV {H : Hp} {x : V} {T : String} (h : Kd H x T) : okV x = true := by cases h <;> rfl
def kds : List String := ["NoneType", "bool", "int", "str", "list", "tuple", "dict"]
def kus : List String := ["int", "bool", "str", "list", "tuple"]
def isKd (T U : String) : Bool := (T == U) || (T == "bool" && U == "int")
theorem kit_all : ∀ T ∈ kds, ∀ U ∈ kus, kitT T U = some (isKd T U) := by decide +kernel
theorem Kd.mem {H : Hp} {x : V} {T : String} (h : Kd H x T) : T ∈ kds := by cases h <;> decide
theorem Kd.kit {K : PySem.W.Frag} {H : Hp} {x : V} {T U : String} {b : Bool} (h : Kd H x T) (hU : U ∈ kus) (e : isKd T U = b) : PySem.W.kitOne K (.type T) (.type U) = some b := by
  subst e
  exact kit_t (kit_all T h.mem U hU)
def whV : V → Bool
  | .int _ => true
  | _ => false
def wF : V → Int → Bool
  | .int i, l => decide (l ≤ i)
  | _, _ => false
theorem Kd.wh {H : Hp} {x : V} {T : String} (h : Kd H x T) : (isKd T "int" && !isKd T "bool") = whV x := by
  cases h <;> (first | rfl | (simp [isKd, whV]))
/-! ### a module's constant -/
theorem pe_globE {X : Cx} {x : Str} {v : V} {pos : Pos} (hg : Gl X x) (h : ∃ u, X.mg x = some u ∧ RelV v u) (hd : (x == ("__debug__" : Str)) = false := by decide) : PE X (.Name x pos) (tC v) := by
  obtain ⟨u, hm, r⟩ := h
  exact pe_glob hg hm r hd
/-! ### marks -/
def letters : Str := "abcdefghijklmnopqrstuvwxyz"
def sgB (c : Nat) : Bool := !(Builtin.Str.occurrences letters ⟨#[c]⟩ 0 letters.length 1).isEmpty
def mkS (z : Str) : Bool := decide (1 ≤ z.length) && decide (z.length ≤ 8) && z.cps.toList.all sgB
def mkB : V → Bool
  | .str z => mkS z
  | _ => false
theorem words_mk : ∀ z ∈ words, mkS z = true := by decide +kernel
/-! ### things and streams, of whatever kind -/
inductive ThB (H : Hp) : V → Bool → Prop
  | no {x : V} {T : String} (h : Kd H x T) (e : isKd T "tuple" = false) : ThB H x false
  | len {a : Addr} {xs : List V} (h : H a = some (.tup xs)) (e : xs.length ≠ 4) : ThB H (.ref a) false
  | four {a : Addr} {d m n k : V} {T1 T2 T3 T4 : String} {b : Bool} (h : H a = some (.tup [d, m, n, k])) (h1 : Kd H d T1) (h2 : Kd H m T2) (h3 : Kd H n T3) (h4 : Kd H k T4) (hm : ∀ z, m = .str z → z.length ≤ 1000)
      (e : (wF d 0 && (mkB m && (wF n 0 && wF k 1))) = b) : ThB H (.ref a) b
theorem ThB.mono {H H' : Hp} (g : Same H H') {x : V} {b : Bool} (h : ThB H x b) : ThB H' x b := by
  cases h with
  | no h e => exact .no (h.mono g) e
  | len h e => exact .len (g _ _ h) e
  | four h h1 h2 h3 h4 hm e => exact .four (g _ _ h) (h1.mono g) (h2.mono g) (h3.mono g) (h4.mono g) hm e
theorem ThB.okV {H : Hp} {x : V} {b : Bool} (h : ThB H x b) : okV x = true := by
  cases h with
  | no h e => exact h.okV
  | len h e => rfl
  | four h => rfl
inductive ThBs (H : Hp) : List V → List Bool → Prop
  | nil : ThBs H [] []
  | cons {x : V} {xs : List V} {b : Bool} {bs : List Bool} : ThB H x b → ThBs H xs bs → ThBs H (x :: xs) (b :: bs)
theorem ThBs.mono {H H' : Hp} (g : Same H H') : ∀ {xs : List V} {bs : List Bool}, ThBs H xs bs → ThBs H' xs bs
  | _, _, .nil => .nil
  | _, _, .cons h r => .cons (h.mono g) (r.mono g)
theorem ThBs.length {H : Hp} : ∀ {xs : List V} {bs : List Bool}, ThBs H xs bs → xs.length = bs.length
  | _, _, .nil => rfl
  | _, _, .cons _ r => congrArg (· + 1) r.length
theorem ThBs.append {H : Hp} : ∀ {xs ys : List V} {bs cs : List Bool}, ThBs H xs bs → ThBs H ys cs → ThBs H (xs ++ ys) (bs ++ cs)
  | _, _, _, _, .nil, s => s
  | _, _, _, _, .cons h r, s => .cons h (r.append s)
theorem ThBs.take {H : Hp} : ∀ {xs : List V} {bs : List Bool} (n : Nat), ThBs H xs bs → ThBs H (xs.take n) (bs.take n)
  | _, _, 0, _ => .nil
  | _, _, _ + 1, .nil => .nil
  | _, _, n + 1, .cons h r => .cons h (r.take n)
theorem ThBs.drop {H : Hp} : ∀ {xs : List V} {bs : List Bool} (n : Nat), ThBs H xs bs → ThBs H (xs.drop n) (bs.drop n)
  | _, _, 0, r => r
  | _, _, _ + 1, .nil => .nil
  | _, _, n + 1, .cons _ r => r.drop n
theorem ThBs.get {H : Hp} : ∀ {xs : List V} {bs : List Bool} {i : Nat} {x : V}, ThBs H xs bs → xs[i]? = some x → ∃ b, bs[i]? = some b ∧ ThB H x b
  | _, _, _, _, .nil, e => by simp at e
  | _, _, 0, _, .cons h _, e => by simp at e; subst e; exact ⟨_, rfl, h⟩
  | _, _, i + 1, x, .cons _ r, e => by
    obtain ⟨b, h1, h2⟩ := ThBs.get (i := i) (x := x) r (by simpa using e)
    exact ⟨b, by simpa using h1, h2⟩
theorem ThBs.okV {H : Hp} : ∀ {xs : List V} {bs : List Bool}, ThBs H xs bs → xs.all L2.okV = true
  | _, _, .nil => rfl
  | _, _, .cons h r => by rw [List.all_cons, h.okV, r.okV]; rfl
inductive StB (H : Hp) : V → Bool → Prop
  | no {x : V} {T : String} (h : Kd H x T) (e : isKd T "list" = false) : StB H x false
  | lst {a : Addr} {xs : List V} {bs : List Bool} {b : Bool} (h : H a = some (.lst xs)) (t : ThBs H xs bs) (l : xs.length ≤ 1000) (e : bs.all id = b) : StB H (.ref a) b
theorem StB.mono {H H' : Hp} (g : Same H H') {x : V} {b : Bool} (h : StB H x b) : StB H' x b := by
  cases h with
  | no h e => exact .no (h.mono g) e
  | lst h t l e => exact .lst (g _ _ h) (t.mono g) l e
theorem pick {H : Hp} {p : Addr} {xs : List V} {d : Int} (e : H p = some (.lst xs)) (h0 : 0 ≤ d) (h1 : d < xs.length) : ∃ v, atI xs d = some v ∧ v ∈ xs := atI_in h0 h1
theorem hSqT {K : PySem.W.Frag} {H : Hp} {a c : Addr} {xs : List V} (h : hide a H c = some (.tup xs)) : SqT K H c xs := SqT.of (hide_some h).2
theorem hSqL {K : PySem.W.Frag} {H : Hp} {a c : Addr} {xs : List V} (h : hide a H c = some (.lst xs)) : SqL K H c xs := SqL.of (hide_some h).2
theorem hide_upd {H : Hp} {a p : Addr} {o : HO} (h : p ≠ a) : hide a (upd H p o) = upd (hide a H) p o := by
  funext b
  by_cases e : b = a
  · subst e
    rw [hide_self, upd_ne (Ne.symm h), hide_self]
  · rw [hide_ne e]
    by_cases q : b = p
    · subst q
      rw [upd_same, upd_same]
    · rw [upd_ne q, upd_ne q, hide_ne e]
end L2

namespace L2
open PySem PySem.Spec PyProof.Rows
/-! ### a built-in function called with keywords -/
def CallKR (X : Cx) (f : Value) (ks : List Str) (r : List V → List V → Hp → VK → Prop) : Prop :=
  ∀ (pins : List (Addr × Obj)) (s : Shared) (σ : St) (H : Hp) (xs zs : List V) (us ws : List Value) (Q : VK), Inv X pins σ H s → Vals xs us → Vals zs ws → r xs zs H Q →
    wpAny (model X.prog X.w) X.A (call f us (ks.zip ws)) (EP X pins σ Q) X.xe s
def tCBK (r : List V → List V → Hp → VK → Prop) (t tk : TA) : TE := fun σ H Q => t σ H fun vs H1 => tk σ H1 fun zs H2 => r vs zs H2 Q
section
variable {X : Cx} {x : Str} {p pos : Pos} {e : Expr} {es : List Expr} {kws : List Keyword} {ks : List Str} {t tk : TA} {id : String} {r : List V → List V → Hp → VK → Prop}
end
/-! ### what an iterable gives, collected -/
section
variable {prog : Program} {w : World} {A : Around} {E : Value → Shared → Prop} {s : Shared} {T : String} {r d : Addr} {n : Nat} {P : Nat → Value → Prop} {OK : Heap → Prop}
/-- how the collecting ends -/
def ColEnd (s : Shared) (P : Nat → Value → Prop) (n : Nat) (q : Result) (s' : Shared) : Prop :=
  ∃ (g : Heap) (tk c : Nat) (xs : Array Value), q = .ok (.ret (.ref s.heap.objs.size)) ∧ s' = { s with heap := g, toks := tk } ∧ (∀ b o, s.heap.get? b = some o → g.get? b = some o) ∧ g.get? s.heap.objs.size = some { cls := .type "list", dict := none, data := .seq xs c, slots := #[] } ∧ ItemsOf P xs n
theorem collect_src {R : List Value → Shared → Prop} (K : PySem.W.KdlSrc prog w T r d n P OK) (hh : A.handled = none) (hok : OK s.heap) (hn : n ≤ sizeLine)
    (h : ∀ (g : Heap) (tk : Nat) (xs : Array Value), (∀ b o, s.heap.get? b = some o → g.get? b = some o) → s.heap.objs.size < g.objs.size → ItemsOf P xs n → R xs.toList { s with heap := g, toks := tk }) : wpAny (model prog w) A (collect (.ref r)) R E s := by
  obtain ⟨lt1, lt2⟩ := K.there _ hok
  unfold collect
  refine wpAny_bind (wpAny_runValue (codeAny_builtin entry_proto_collect' ?_)); rw [Around.under_plainId PySem.F.plain_proto_collect _]
  refine wpAny_bind (m := newList []) (wpAny_newObj_type (wpAny_pure ⟨plainId_quiet PySem.F.plain_list_iadd _, codeAny_builtin entry_list_iadd' ?_⟩)); rw [Around.under_plainId PySem.F.plain_list_iadd _]
  have own : (s.heap.push { cls := .type "list", data := .seq ([] : List Value).toArray }).get? s.heap.objs.size = some { cls := .type "list", data := .seq #[] } := Heap.get?_push_size _ rfl
  have run := PySem.W.kdl_extend (A := A) (s := { s with heap := s.heap.push { cls := .type "list", data := .seq ([] : List Value).toArray } }) (R := ColEnd s P n) K hh (K.keep _ _ hok fun _ _ _ e => Heap.get?_push_of_some _ e) s.heap.objs.size (Nat.ne_of_gt lt1) (Nat.ne_of_gt lt2) (.ref s.heap.objs.size) 0 own
    (fun g tk xs c hk hS hx => ⟨g, tk, c, xs, rfl, rfl, fun b o e => hk b o (Nat.ne_of_lt (Heap.lt_size e)) (Heap.get?_push_of_some _ e), hS, hx⟩) hn
  refine wpAny_mono run (fun fin s' y => ?_) (fun _ _ y => by obtain ⟨_, _, _, _, e, _⟩ := y; cases e)
  cases fin with
  | done f =>
    obtain ⟨g, tk, c, xs, e, rfl, hk, hS, hx⟩ := y
    cases e
    exact wpAny_bind (m := load s.heap.objs.size) (wpAny_load hS (wpAny_pure (h g tk xs hk (Heap.lt_size hS) hx)))
  | again c1 =>
    refine ⟨y.1, codeAny_mono y.2 fun q s2 z => ?_⟩
    obtain ⟨g, tk, c, xs, rfl, rfl, hk, hS, hx⟩ := z
    exact wpAny_bind (m := load s.heap.objs.size) (wpAny_load hS (wpAny_pure (h g tk xs hk (Heap.lt_size hS) hx)))
end
/-! ### d.values(), d.items(): views -/
def vView (a d : Addr) : HO := .ext fun h => h.IsValuesView a d
def iView (a d : Addr) : HO := .ext fun h => h.IsItemsView a d
section
variable {X : Cx} {pins : List (Addr × Obj)} {σ : St} {H : Hp} {s : Shared}
def rView (w : Addr → Addr → HO) : V → List V → Hp → VK → Prop := fun x vs H Q => ∃ d kvs, x = .ref d ∧ vs = [] ∧ H d = some (.dK kvs) ∧ ∀ a, H a = none → Q (.ref a) (upd H a (w a d))
/-! ### sorted(d.values(), reverse=True), whole numbers -/
def rSortRV : List V → List V → Hp → VK → Prop := fun xs zs H Q => ∃ (v d : Addr) (kvs : List (Key × V)) (ns : List Int), xs = [.ref v] ∧ zs = [.bl true] ∧ H v = some (vView v d) ∧ H d = some (.dK kvs) ∧ kvs.map (·.2) = ns.map V.int ∧ ns.length < 64 ∧
  ∀ (p : Addr) (ms : List Int), H p = none → ms.Perm ns → ms.Pairwise (· ≥ ·) → Q (.ref p) (upd H p (.lst (ms.map V.int)))
/-! ### list(d.items()) -/
/-- pairs laid anew at as, in order -/
inductive PairsAt (H : Hp) : List V → List (Key × V) → Prop
  | nil : PairsAt H [] []
  | cons {a : Addr} {xs : List V} {k : Key} {v : V} {kvs : List (Key × V)} (h : H a = some (.tup [kV k, v])) (r : PairsAt H xs kvs) : PairsAt H (.ref a :: xs) ((k, v) :: kvs)
theorem PairsAt.mono {H H' : Hp} (g : Same H H') : ∀ {xs : List V} {kvs : List (Key × V)}, PairsAt H xs kvs → PairsAt H' xs kvs
  | _, _, .nil => .nil
  | _, _, .cons h r => .cons (g _ _ h) (r.mono g)
theorem PairsAt.length {H : Hp} : ∀ {xs : List V} {kvs : List (Key × V)}, PairsAt H xs kvs → xs.length = kvs.length
  | _, _, .nil => rfl
  | _, _, .cons _ r => congrArg (· + 1) r.length
theorem PairsAt.append {H : Hp} : ∀ {xs ys : List V} {ks ls : List (Key × V)}, PairsAt H xs ks → PairsAt H ys ls → PairsAt H (xs ++ ys) (ks ++ ls)
  | _, _, _, _, .nil, s => s
  | _, _, _, _, .cons h r, s => .cons h (r.append s)
theorem PairsAt.reverse {H : Hp} : ∀ {xs : List V} {ks : List (Key × V)}, PairsAt H xs ks → PairsAt H xs.reverse ks.reverse
  | _, _, .nil => .nil
  | _, _, .cons h r => by rw [List.reverse_cons, List.reverse_cons]; exact r.reverse.append (.cons h .nil)
theorem kV_rel {P : Program} {w : World} {k : Key} {u : Value} (h : (mixKind P w).is k u = true) : RelV (kV k) u := by
  rcases keyIs_shape (show keyIs k u = true from h) with ⟨i, t, rfl, rfl⟩ | ⟨x, t, rfl, rfl⟩
  · exact ⟨t, rfl⟩
  · exact ⟨t, rfl⟩
/-- an abstract heap with new things from n on -/
def over (H : Hp) (n : Nat) (L : Hp) : Hp := fun b => if b < n then H b else L b
theorem over_old {H L : Hp} {n : Nat} {b : Addr} (h : b < n) : over H n L b = H b := if_pos h
theorem over_new {H L : Hp} {n : Nat} {b : Addr} (h : n ≤ b) : over H n L b = L b := if_neg (Nat.not_lt.mpr h)
theorem Inv.over {L : Hp} {g : Heap} {t' : Nat} (I : Inv X pins σ H s) (k : ∀ b u, s.heap.get? b = some u → g.get? b = some u) (new : ∀ b o, s.heap.objs.size ≤ b → L b = some o → ObjOk X.prog X.w (over H s.heap.objs.size L) g b o) :
    Inv X pins σ (L2.over H s.heap.objs.size L) { s with heap := g, toks := t' } ∧ Same H (L2.over H s.heap.objs.size L) := by
  have old : ∀ b o, H b = some o → L2.over H s.heap.objs.size L b = some o := fun b o e => by rw [over_old (I.hok b o e).lt]; exact e
  have fre : ∀ b u, s.heap.get? b = some u → H b = none → L2.over H s.heap.objs.size L b = none := fun b u e n => by rw [over_old (Heap.lt_size e)]; exact n
  refine ⟨I.un ⟨fun b u e _ _ _ => k b u e, fun b u e _ _ _ => ⟨u.slots, k b u e⟩, fun b u e n _ => fre b u e n, fun b u e _ => ⟨u, k b u e⟩, fun b xs e => old b _ e, fun b o u e => old b _ e, fun b ps e => ⟨#[], by rw [old b _ e]; simp⟩⟩ ?_, old⟩
  intro b o e
  by_cases hb : b < s.heap.objs.size
  · rw [over_old hb] at e
    exact (I.hok b o e).stay (fun c u _ q => k c u q) (fun c q => old c _ q) fun c xs q => old c _ q
  · have hb := Nat.not_lt.mp hb
    rw [over_new hb] at e
    exact new b o hb e
theorem PairsAt.of {H : Hp} : ∀ {as : List Addr} {kvs : List (Key × V)}, as.length = kvs.length → (∀ (j : Nat) (a : Addr) (p : Key × V), as[j]? = some a → kvs[j]? = some p → H a = some (.tup [kV p.1, p.2])) → PairsAt H (as.map V.ref) kvs
  | [], [], _, _ => .nil
  | [], _ :: _, e, _ => by simp at e
  | _ :: _, [], e, _ => by simp at e
  | a :: as, (k, v) :: kvs, e, h => .cons (h 0 a (k, v) rfl rfl) (PairsAt.of (by simpa using e) fun j b p h1 h2 => h (j + 1) b p (by simpa using h1) (by simpa using h2))
theorem KV.get : ∀ {kvs : List (Key × V)} {ws : List (Key × Value)} {j : Nat} {p : Key × V} {q : Key × Value}, KV kvs ws → kvs[j]? = some p → ws[j]? = some q → p.1 = q.1 ∧ RelV p.2 q.2
  | _, _, _, _, _, .nil, e, _ => by simp at e
  | _, _, 0, _, _, .cons h _, e1, e2 => by
    simp at e1 e2
    subst e1 e2
    exact h
  | _, _, j + 1, _, _, .cons _ r, e1, e2 => KV.get (j := j) r (by simpa using e1) (by simpa using e2)
def rListI : List V → Hp → VK → Prop := fun xs H Q => ∃ (v d : Addr) (kvs : List (Key × V)), xs = [.ref v] ∧ H v = some (iView v d) ∧ H d = some (.dK kvs) ∧ kvs.length ≤ 1000 ∧ ∀ (H' : Hp) (p : Addr) (ys : List V), Same H H' → H p = none → H' p = some (.lst ys) → PairsAt H' ys kvs → Q (.ref p) H'
/-! ### xs[::-1] -/
def tRev (K : PySem.W.Frag) (te ts : TE) : TE := fun σ H Q => te σ H fun x H1 => ts σ H1 fun y H2 => ∃ (a : Addr) (xs : List V), x = .ref a ∧ y = .int (-1) ∧ SqL K H2 a xs ∧ ∀ p, H2 p = none → Q (.ref p) (upd H2 p (.lst xs.reverse))
/-! ### a dict while it is walked -/
theorem Inv.thaw {d : Addr} {o : Obj} {kvs : List (Key × V)} (nf : ∀ o u, X.H₀ d ≠ some (.frz o u)) (I : Inv X pins σ H s) (h : H d = some (.frz o (.dK kvs))) : Inv X pins σ (upd H d (.dK kvs)) s := by
  have nd : ∀ b, H b = none → upd H d (.dK kvs) b = none := fun b e => by rw [upd_ne (Ne.symm (ne_of_none h e))]; exact e
  have ot : ∀ b u, H b = some u → u ≠ .frz o (.dK kvs) → upd H d (.dK kvs) b = some u := fun b u e n => by rw [upd_ne (ne_of e h n)]; exact e
  refine ⟨I.ok, I.os, I.bare, ⟨I.base.keep, I.base.slot, fun b ob q n hx => nd b (I.base.free b ob q n hx), I.base.there, fun b xs e => ot b _ (I.base.tups b xs e) (by intro z; cases z), fun b ob u e => ?_, fun b ps e => ?_⟩, I.loc, I.cell, nd _ I.free, fun x c e => nd c (I.freeC x c e), fun p hp => ?_, fun b u e => ?_, I.len⟩
  · have hb : b ≠ d := fun z => nf ob u (by rw [← z]; exact e)
    rw [upd_ne hb]
    exact I.base.frzs b ob u e
  · obtain ⟨m, q⟩ := I.base.tbls b ps e
    exact ⟨m, ot b _ q (by intro z; cases z)⟩
  · obtain ⟨h1, h2, h3⟩ := I.pin p hp
    exact ⟨h1, nd _ h2, h3⟩
  · by_cases hb : b = d
    · subst hb
      rw [upd_same] at e
      cases e
      exact (I.hok b _ h).2
    · rw [upd_ne hb] at e
      exact (I.hok b u e).stay (fun _ _ _ q => q) (fun c q => ot c _ q (by intro z; cases z)) fun c xs q => ot c _ q (by intro z; cases z)
theorem Inv.freeze {d : Addr} {kvs : List (Key × V)} (I : Inv X pins σ H s) (h : H d = some (.dK kvs)) : ∃ o, Inv X pins σ (upd H d (.frz o (.dK kvs))) s ∧ ∀ o u, X.H₀ d ≠ some (.frz o u) := by
  obtain ⟨z, lo, vs, kv, o, es, ep, ho, r⟩ := (show ObjOk X.prog X.w H s.heap d (.dK kvs) from I.hok d _ h)
  refine ⟨o, I.write (x := d) (e := d) (t' := s.toks) (h' := s.heap) (by rw [h]; exact trivial) (.inl rfl) (fun _ _ _ q => q) ⟨o, ho⟩ ⟨ho, z, lo, vs, kv, o, es, ep, ho, r⟩, fun o' u e => ?_⟩
  have q := I.base.frzs d o' u e
  rw [h] at q
  cases q
def tFrz (t : TE) : TE := fun σ H Q => ∃ (d : Addr) (kvs : List (Key × V)), H d = some (.dK kvs) ∧ ∀ o, t σ (upd H d (.frz o (.dK kvs))) fun v H2 => H2 d = some (.frz o (.dK kvs)) ∧ Q v (upd H2 d (.dK kvs))
theorem pe_frz {e : Expr} {t : TE} (h : PE X e t) : PE X e (tFrz t) := by
  intro pins s σ H Q I hw
  obtain ⟨d, kvs, hd, q⟩ := hw
  obtain ⟨o, I1, nf⟩ := I.freeze hd
  exact thn (h pins s σ _ _ I1 (q o)) fun v s1 ⟨x, H1, I2, r, hd2, q2⟩ => ⟨x, _, I2.thaw nf hd2, r, q2⟩
def frzE (D : Ends) (d : Addr) (kvs : List (Key × V)) (o : Obj) : Ends where
  nx := fun σ2 H2 => H2 d = some (.frz o (.dK kvs)) ∧ D.nx σ2 (upd H2 d (.dK kvs))
  rt := fun v H2 => H2 d = some (.frz o (.dK kvs)) ∧ D.rt v (upd H2 d (.dK kvs))
  bk := fun σ2 H2 => H2 d = some (.frz o (.dK kvs)) ∧ D.bk σ2 (upd H2 d (.dK kvs))
  ct := fun σ2 H2 => H2 d = some (.frz o (.dK kvs)) ∧ D.ct σ2 (upd H2 d (.dK kvs))
def sFrz (t : TS) : TS := fun D σ H => ∃ (d : Addr) (kvs : List (Key × V)), H d = some (.dK kvs) ∧ ∀ o, t (frzE D d kvs o) σ (upd H d (.frz o (.dK kvs)))
def Itd (d : Addr) (kvs : List (Key × V)) (o : Obj) : It := ⟨fun i H => i < kvs.length ∧ H d = some (.frz o (.dK kvs)), fun i H x H' => H' = H ∧ ∃ p, kvs[i]? = some p ∧ x = kV p.1, fun i H => kvs.length ≤ i ∧ H d = some (.frz o (.dK kvs))⟩
theorem turn_dict {P : Program} {w : World} {K : PySem.W.Frag} {tg : Expr} {d it : Addr} {kvs : List (Key × V)} {o : Obj} {ws : List (Key × Value)} {ep : Nat} (kv : KV kvs ws) (hat : ∀ h : Heap, h.get? d = some o → h.DictAt (mixKind P w) d ws ep) :
    Turn P w K tg (Itd d kvs o) [it] it (fun i h => h.IsKeyIter it d i ws.length ep) where
  mem := by simp
  obj := fun i h st b hb => by
    obtain ⟨q, e, c, dd⟩ := st
    have z : b = it := by simpa using hb
    subst z
    exact ⟨q, e, fun v z => by rw [dd] at z; cases z⟩
  keep := fun i h h' st k => st.at fun q e => k it (by simp) q e
  item := by
    intro X hP hw hK hc i pins s σ H E I hf st hg
    subst hP hw hK
    obtain ⟨hi, hd⟩ := hg
    obtain ⟨ho, _⟩ := I.hok d _ hd
    have kl := kv.length
    obtain ⟨f0, f1, f2, f3, f4, f5⟩ := hf it (by simp)
    have e1 : kvs[i]? = some kvs[i] := by simp [hi]
    have e2 : ws[i]? = some ws[i] := by simp
    obtain ⟨r1, r2⟩ := KV.get kv e1 e2
    refine wpAny_pyNext_dict_item st (hat _ ho) (k := ws[i].1) (v := ws[i].2) e2 fun key h' hkey st' sb => ?_
    obtain ⟨q, e, c, dd⟩ := id st'
    have I1 : Inv X pins σ H { s with heap := h' } := I.turned (t' := s.toks) (fun b ob hb eb => (sb.2 b hb).trans eb) f0 f1 f3 f4 f5
    exact ⟨key, rfl, go_of (s := { s with heap := h' }) e c dd (by decide) ⟨kV kvs[i].1, H, I1, by rw [r1]; exact kV_rel hkey, ⟨rfl, _, e1, rfl⟩, st', fun b hb => (hf b hb).1⟩⟩
  done := by
    intro X hP hw hK hc i pins s σ H E I hf st hg
    subst hP hw hK
    obtain ⟨hi, hd⟩ := hg
    obtain ⟨ho, _⟩ := I.hok d _ hd
    have kl := kv.length
    obtain ⟨f0, f1, f2, f3, f4, f5⟩ := hf it (by simp)
    exact wpAny_pyNext_dict_end (I.ok.hd hc) st (hat _ ho) (by simp; omega) fun h' eb => ⟨rfl, I.turned (t' := s.toks) (fun b ob hb e => eb b ob hb e) f0 f1 f3 f4 f5⟩
  self := fun _ _ _ _ _ st h => wpAny_pyIter_keyiter st h
def iDict (tl : TE) : TI := fun σ H R => tl σ H fun x H1 => ∃ (d : Addr) (o : Obj) (kvs : List (Key × V)), x = .ref d ∧ H1 d = some (.frz o (.dK kvs)) ∧ R (Itd d kvs o) H1
theorem pi_dict {tg l : Expr} {tl : TE} (hl : PE X l tl) : PI X tg l (iDict tl) := by
  intro pins s σ H R I h
  refine thn (hl pins s σ H _ I h) fun v s1 ⟨x, H1, I1, r1, q1⟩ => ?_
  obtain ⟨d, o, kvs, rfl, hd, q⟩ := q1
  cases r1
  obtain ⟨ho, z, lo, ws, kv, hD⟩ := (show ObjOk X.prog X.w H1 s1.heap d (.frz o (.dK kvs)) from I1.hok d _ hd)
  obtain ⟨ep, hat⟩ := hD.dictAt
  have all : ∀ g : Heap, g.get? d = some o → g.DictAt (mixKind X.prog X.w) d ws ep := fun g e => hat.at' fun o' e' => by
    rw [ho] at e'
    cases e'
    exact e
  refine wpAny_pyIter_dict lo hat ⟨s1.heap.objs.size, [s1.heap.objs.size], _, _, H1, rfl, I1.kept (t' := s1.toks) (fun b ob e => Heap.get?_push_of_some _ e), turn_dict kv all, ⟨_, Heap.get?_push_size _ rfl, rfl, rfl⟩, fun b hb => ?_, q⟩
  have e : b = s1.heap.objs.size := by simpa using hb
  subst e
  exact I1.fpOk (Nat.le_refl _) (I1.hok.fresh (Nat.le_refl _))
theorem comp_dict {d : Addr} {o : Obj} {kvs : List (Key × V)} {k : Nat} {g : TG} {tt : TT} {te : TE} {σ : St} {H : Hp} {Q : VK} (Pv : Nat → List V → Hp → Prop) (h0 : Pv 0 [] H) (hl : ∀ i ys H, Pv i ys H → H d = some (.frz o (.dK kvs)))
    (hs : ∀ i p ys H (C : List V → Hp → Prop), kvs[i]? = some p → Pv i ys H → (∀ ys' H', Pv (i + 1) ys' H' → C ys' H') → ys.length < sizeLine ∧ g (kV p.1) (List.replicate k none ++ σ) H fun σ2 H2 => Wk σ2 (List.replicate k none ++ σ) ∧ tt σ2 H2 fun ok H3 =>
      if ok = true then te σ2 H3 fun y H4 => C (ys ++ [y]) H4 else C ys H3)
    (hd : ∀ ys H, Pv kvs.length ys H → ys.length ≤ sizeLine ∧ ∀ p, H p = none → Q (.ref p) (upd H p (.lst ys))) : CompR (Itd d kvs o) H k g tt te σ Q := by
  refine ⟨fun i m ys H => m = kvs.length - i ∧ i ≤ kvs.length ∧ Pv i ys H, ⟨kvs.length, by simp, Nat.zero_le _, h0⟩, ?_⟩
  rintro i m ys H ⟨rfl, hi, p⟩
  have q := hl i ys H p
  by_cases hlt : i < kvs.length
  · have r := hs i kvs[i] ys H (fun ys' H' => ∃ m', m' < kvs.length - i ∧ m' = kvs.length - (i + 1) ∧ i + 1 ≤ kvs.length ∧ Pv (i + 1) ys' H') (by simp [hlt]) p fun ys' H' p' => ⟨_, by omega, rfl, hlt, p'⟩
    refine .inr ⟨⟨hlt, q⟩, r.1, fun v H' y => ?_⟩
    obtain ⟨e, p', hp', rfl⟩ := y
    subst e
    have ep : kvs[i] = p' := by simpa [hlt] using hp'
    rw [← ep]
    exact r.2
  · have e : i = kvs.length := by omega
    subst e
    exact .inl ⟨⟨Nat.le_refl _, q⟩, hd ys H p⟩
/-! ### xs.count(n), whole numbers -/
def rCount (K : PySem.W.Frag) : V → List V → Hp → VK → Prop := fun x vs H Q => ∃ (p : Addr) (ns : List Int) (n : Int), x = .ref p ∧ vs = [.int n] ∧ SqL K H p (ns.map V.int) ∧ Q (.int (ns.count n : Nat)) H
/-! ### dict(d) -/
end
end L2

namespace L2
open PySem PySem.Spec PyProof.Rows
/-! ### dict(xs), xs a list of pairs -/
section
variable {prog : Program} {w : World} {A : Around} {E : Value → Shared → Prop} {s : Shared}
/-- a pair at hand -/
def PairT {κ : Type} [DecidableEq κ] (knd : PySem.KeyKind prog w κ) (h : Heap) (p : κ × Value) (v : Value) (no : List Addr) : Prop :=
  ∃ a o key n, v = .ref a ∧ a ∉ no ∧ h.get? a = some o ∧ o.cls = .type "tuple" ∧ o.data = .seq #[key, p.2] n ∧ knd.is p.1 key = true
end
section
variable {X : Cx} {pins : List (Addr × Obj)} {σ : St} {H : Hp} {s : Shared}
def rDictL (K : PySem.W.Frag) : List V → Hp → VK → Prop := fun xs H Q => ∃ (l : Addr) (ys : List V) (kvs : List (Key × V)), xs = [.ref l] ∧ SqL K H l ys ∧ PairsAt H ys kvs ∧ kvs.length ≤ 1000 ∧ ∀ p, H p = none → Q (.ref p) (upd H p (.dK (mergeK [] kvs)))
end
end L2

namespace L2
open PySem PySem.Spec PyProof.Rows
/-! ### // by a divisor of any usual size -/
def CDivB (i j : Int) : Prop := 0 < j ∧ j < 1000000000000000000000000000000000000000000000000000000000000
theorem op_fdivB {X : Cx} : OpR X (binaryOp .FloorDiv) (rI CDivB fun i j => .int (i / j)) := opI fun i j _ _ _ _ _ hc q => by
  have h1 : (0 : Int) < j := hc.1
  have h2 : j < 1000000000000000000000000000000000000000000000000000000000000 := hc.2
  refine floordiv_int (by omega) (by rw [Int.fdiv_eq_ediv_of_nonneg i (by omega)]; exact q) (.inl (PyProof.noPylong_of_log2 ?_))
  have hn : j.natAbs ≠ 0 := by omega
  have hl : j.natAbs < 2 ^ 400 := Nat.lt_of_lt_of_le (show j.natAbs < 1000000000000000000000000000000000000000000000000000000000000 by omega) (by decide +kernel)
  exact Nat.lt_trans ((Nat.log2_lt hn).mpr hl) (by decide)
/-! ### texts in order -/
def leS (a b : Str) : Bool := !decide (b.cps.toList < a.cps.toList)
theorem leS_total (a b : Str) : (leS a b || leS b a) = true := by
  unfold leS
  by_cases h : b.cps.toList < a.cps.toList
  · have h2 : ¬ a.cps.toList < b.cps.toList := fun q => List.lt_irrefl _ (List.lt_trans h q)
    simp [h2]
  · simp [h]
theorem leS_trans (a b c : Str) (h1 : leS a b = true) (h2 : leS b c = true) : leS a c = true := by
  unfold leS at *
  simp only [Bool.not_eq_true', decide_eq_false_iff_not] at *
  exact fun q => (List.not_lt.mp h1 : a.cps.toList ≤ b.cps.toList) |> fun x => (List.le_trans x (List.not_lt.mp h2)) q
theorem leS_anti {a b : Str} (h1 : leS a b = true) (h2 : leS b a = true) : a = b := by
  unfold leS at *
  simp only [Bool.not_eq_true', decide_eq_false_iff_not] at *
  have e : a.cps.toList = b.cps.toList := List.le_antisymm (List.not_lt.mp h1) (List.not_lt.mp h2)
  obtain ⟨⟨x⟩⟩ := a
  obtain ⟨⟨y⟩⟩ := b
  simp at e
  rw [e]
def srtS (zs : List Str) : List Str := zs.mergeSort leS
theorem srtS_perm (zs : List Str) : (srtS zs).Perm zs := List.mergeSort_perm _ _
theorem srtS_pw (zs : List Str) : (srtS zs).Pairwise (fun a b => leS a b = true) := List.pairwise_mergeSort leS_trans leS_total zs
theorem riseS_eq : ∀ {l m : List Str}, l.Perm m → l.Pairwise (fun a b => leS a b = true) → m.Pairwise (fun a b => leS a b = true) → l = m
  | [], m, p, _, _ => List.Perm.nil_eq p
  | a :: l, [], p, _, _ => absurd p.length_eq (by simp)
  | a :: l, b :: m, p, h1, h2 => by
    have e : a = b := by
      rcases List.mem_cons.mp (p.mem_iff.mp List.mem_cons_self) with q | q
      · exact q
      · rcases List.mem_cons.mp (p.mem_iff.mpr List.mem_cons_self) with r | r
        · exact r.symm
        · exact leS_anti ((List.pairwise_cons.mp h1).1 b r) ((List.pairwise_cons.mp h2).1 a q)
    subst e
    rw [riseS_eq ((List.perm_cons a).mp p) (List.pairwise_cons.mp h1).2 (List.pairwise_cons.mp h2).2]
theorem risingS_pw : ∀ (p : Str) (l : List Str), risingS p l = true → (p :: l).Pairwise (fun a b => leS a b = true)
  | p, [], _ => List.pairwise_singleton _ _
  | p, x :: r, h => by
    have h : (!ltCps x.cps.toList p.cps.toList && risingS x r) = true := h
    rw [Bool.and_eq_true] at h
    have ih := risingS_pw x r h.2
    have e : leS p x = true := by
      unfold leS
      rw [← ltCps_eq]
      exact h.1
    refine List.pairwise_cons.mpr ⟨fun y hy => ?_, ih⟩
    rcases List.mem_cons.mp hy with rfl | hy
    · exact e
    · exact leS_trans p x y e ((List.pairwise_cons.mp ih).1 y hy)
theorem sortedS_pw : ∀ {l : List Str}, sortedS l = true → l.Pairwise (fun a b => leS a b = true)
  | [], _ => List.Pairwise.nil
  | x :: r, h => risingS_pw x r h
theorem srtS_of {l zs : List Str} (p : l.Perm zs) (h : sortedS l = true) : l = srtS zs := riseS_eq (p.trans (srtS_perm zs).symm) (sortedS_pw h) (srtS_pw zs)
section
variable {X : Cx}
theorem vals_strs : ∀ {us : List Value} {zs : List Str}, StrsAre us zs → Vals (zs.map V.str) us
  | _, _, .nil => .nil
  | _, _, .cons x t r => .cons ⟨t, rfl⟩ (vals_strs r)
/-- sorted(d), the keys texts -/
def rSortD : List V → Hp → VK → Prop := fun xs H Q => ∃ (d : Addr) (kvs : List (Key × V)) (zs : List Str), xs = [.ref d] ∧ H d = some (.dK kvs) ∧ kvs.map (·.1) = zs.map Sum.inr ∧ zs.length < 64 ∧ ∀ p, H p = none → Q (.ref p) (upd H p (.lst ((srtS zs).map V.str)))
theorem keys_strs {P : Program} {w : World} : ∀ {us : List Value} {ws : List (Key × Value)} {zs : List Str}, us.length = ws.length → (∀ (j : Nat) (u : Value), us[j]? = some u → ∃ k x, ws[j]? = some (k, x) ∧ (mixKind P w).is k u = true) → ws.map (·.1) = zs.map Sum.inr → StrsAre us zs
  | [], [], [], _, _, _ => .nil
  | [], [], _ :: _, _, _, e => by simp at e
  | [], _ :: _, _, e, _, _ => by simp at e
  | _ :: _, [], _, e, _, _ => by simp at e
  | _ :: _, _ :: _, [], _, _, e => by simp at e
  | u :: us, (k, x) :: ws, z :: zs, hl, h, e => by
    rw [List.map_cons, List.map_cons] at e
    injection e with e1 e2
    obtain ⟨k', x', q, hk⟩ := h 0 u rfl
    have q : (k, x) = (k', x') := by simpa using q
    cases q
    have e1 : k = Sum.inr z := e1
    subst e1
    obtain ⟨t, rfl⟩ := kV_rel hk
    exact .cons z t (keys_strs (by simpa using hl) (fun j v hv => by simpa using h (j + 1) v (by simpa using hv)) e2)
theorem call_sortD (hc : X.calm = true) : CallR X (.builtin "sorted") rSortD := by
  intro pins s σ H xs us Q I rx h
  obtain ⟨d, kvs, zs, rfl, hd, hzs, h64, q⟩ := h
  obtain ⟨u, rfl, ru⟩ := vals1 rx
  cases ru
  obtain ⟨_, lo, es, kv, hD⟩ := dk_of I.hok hd
  obtain ⟨ep, hat⟩ := hD.dictAt
  have kk : es.map (·.1) = zs.map Sum.inr := by rw [← hzs, KV.keys kv]
  have hl : es.length = zs.length := by
    have e := congrArg List.length kk
    rw [List.length_map, List.length_map] at e
    exact e
  have hh : X.A.in1.handled = none := by simpa using I.ok.hd hc
  refine Calls.call_function_entry kind_sorted plain_sorted entry_sorted (args_sorted1 _) ?_
  unfold Builtin.«sorted»
  refine wpAny_bind (m := checkCount "sorted" 1 1 _) (wpAny_pure ?_)
  refine wpAny_bind (collect_src (A := X.A.in1) (PySem.W.kdl_dict (knd := mixKind X.prog X.w) (kvs := es) (ep := ep) lo) hh hat (small_le (by omega)) fun g tk acc hk hsz hacc => ?_)
  have al : acc.toList.length = es.length := by rw [Array.length_toList]; exact hacc.1
  have hS : StrsAre acc.toList zs := keys_strs (P := X.prog) (w := X.w) al (fun j u e => hacc.2 j u (by rw [← Array.getElem?_toList]; exact e)) kk
  refine wpAny_bind (wpAny_newList ?_ (by exact small_le (by omega)))
  have hoL : (g.push (seqObj "list" acc.toList.toArray 0)).get? g.objs.size = some (seqObj "list" acc.toList.toArray 0) := Heap.get?_push_size _ rfl
  refine wpAny_bind (wpAny_holding (wpAny_call_entry slot_list_sort ⟨_, hoL, rfl⟩ entry_list_sort (list_sort_treeK strKind_oneLt hoL hS.keysOf (fun v1 v2 rest e => keyKind_strs (by rw [← e]; exact hS)) (by omega) fun st' b1 b2 => ⟨_, rfl, ?_⟩) (args_list_sort _)))
  refine wpAny_pure ⟨_, rfl, ?_⟩
  obtain ⟨ss, a1, a2, a3⟩ := sorted_out_str hS b1 b2
  have ess := srtS_of a2 a3
  subst ess
  obtain ⟨e2, he2⟩ := sortedHeap_at (vs := acc.toList) (out := (arrOf st').map (·.2)) hoL
  have hz : s.heap.objs.size ≤ g.objs.size := Nat.le_of_lt hsz
  refine ⟨.ref g.objs.size, _, I.laid (t' := tk) (o := .lst ((srtS zs).map V.str)) (fun b o e => ?_) hz ?_, rfl, q _ (I.hok.fresh hz)⟩
  · have e' := hk b o e
    have hlt := Heap.lt_size e'
    rw [sortedHeap_old (Nat.ne_of_lt hlt) (by rw [size_push']; exact Nat.lt_succ_of_lt hlt)]
    exact Heap.get?_push_of_some _ e'
  · refine ⟨?_, ((arrOf st').map (·.2)).toList, e2, vals_strs a1, by rw [Array.toArray_toList]; exact he2⟩
    rw [List.length_map, (srtS_perm zs).length_eq]
    exact small_le (by omega)
end
/-! ### sorted(xs) of a list -/
def srtI (ns : List Int) : List Int := ns.mergeSort fun a b => decide (a ≤ b)
section
variable {X : Cx}
def rSortI (K : PySem.W.Frag) : List V → Hp → VK → Prop := fun xs H Q => ∃ (p : Addr) (ns : List Int), xs = [.ref p] ∧ SqL K H p (ns.map V.int) ∧ ns.length < 64 ∧ ∀ q, H q = none → Q (.ref q) (upd H q (.lst ((srtI ns).map V.int)))
def rSortS (K : PySem.W.Frag) : List V → Hp → VK → Prop := fun xs H Q => ∃ (p : Addr) (zs : List Str), xs = [.ref p] ∧ SqL K H p (zs.map V.str) ∧ zs.length < 64 ∧ ∀ q, H q = none → Q (.ref q) (upd H q (.lst ((srtS zs).map V.str)))
end
end L2

namespace L2
open PySem PySem.Spec PyProof.Rows
/-! ### dicts from texts to numbers -/
abbrev Ps := List (Str × Int)
def kvOf (ps : Ps) : List (Key × V) := ps.map fun p => (Sum.inr p.1, V.int p.2)
def nsOf (ps : Ps) : List Int := ps.map (·.2)
structure PsOk (ps : Ps) : Prop where
  nd : (ps.map (·.1)).Nodup
  ok : ∀ p ∈ ps, PyData.strOk p.1 = true
  len : ps.length ≤ 50
theorem kvOf_len (ps : Ps) : (kvOf ps).length = ps.length := List.length_map _
theorem nsOf_len (ps : Ps) : (nsOf ps).length = ps.length := List.length_map _
theorem kvOf_keys (ps : Ps) : (kvOf ps).map (·.1) = (ps.map (·.1)).map Sum.inr := by unfold kvOf; rw [List.map_map, List.map_map]; rfl
theorem val_ps : ∀ {ps : Ps} {i : Nat} {p : Str × Int}, (ps.map (·.1)).Nodup → ps[i]? = some p → valV (kvOf ps) (Sum.inr p.1) = some (.int p.2)
  | [], _, _, _, e => by simp at e
  | q :: ps, 0, p, _, e => by
    have e : q = p := by simpa using e
    subst e
    exact valV_pos rfl
  | q :: ps, i + 1, p, h, e => by
    have e' : ps[i]? = some p := by simpa using e
    have h := List.nodup_cons.mp h
    have ne : ¬ (Sum.inr q.1 : Key) = Sum.inr p.1 := fun z => h.1 (by show q.1 ∈ _; rw [Sum.inr.inj z]; exact List.mem_map.mpr ⟨p, List.mem_of_getElem? e', rfl⟩)
    exact (valV_neg ne).trans (val_ps h.2 e')
def pD (p : Str × Int) : PyData := .tuple [.str p.1, .int p.2]
theorem pairs_dvs {H : Hp} : ∀ {ps : Ps} {ys : List V}, PairsAt H ys (kvOf ps) → DVs H ys (ps.map pD)
  | [], _, h => by cases h; exact .nil
  | p :: ps, _, h => by
    cases h with
    | cons e r => exact .cons (.tup e (.cons (.str _) (.cons (.int _) .nil))) (pairs_dvs r)
theorem lay_ps {ps : Ps} (h : ∀ p ∈ ps, PyData.strOk p.1 = true) : (PyData.list (ps.map pD)).canLay0 = true ∧ (PyData.list (ps.map pD)).depth ≤ 2 := lay_list (n := 1) ps fun p hp => by
  refine ⟨?_, ?_⟩
  · simp [pD, PyData.canLay0, PyData.canLayAll0, h p hp]
  · simp [pD, PyData.depth, PyData.depthAll]
/-! ### tallies -/
structure Ty where
  room : Int
  cs : Ps
  lt : Int
  total : Int
def Ty.D (t : Ty) : PyData := .tuple [.int t.room, .tuple (t.cs.map pD), .int t.lt, .int t.total]
def Ty.sum (t : Ty) : Int := (nsOf t.cs).sum
structure Ty.Ok (t : Ty) : Prop where
  room1 : 1 ≤ t.room
  room2 : t.room ≤ 20
  nd : (t.cs.map (·.1)).Nodup
  rise : (t.cs.map (·.1)).Pairwise (fun a b => leS a b = true)
  word : ∀ p ∈ t.cs, p.1 ∈ words
  pos : ∀ p ∈ t.cs, 1 ≤ p.2
  len : (t.cs.length : Int) ≤ t.room
  lt0 : 0 ≤ t.lt
  lo : (t.room + 1) * t.lt ≤ t.total - t.sum
  hi : t.total - t.sum ≤ 2 * t.room * t.lt
theorem DVs.pairs_inv {H : Hp} : ∀ {ps : Ps} {ys : List V}, DVs H ys (ps.map pD) → PairsAt H ys (kvOf ps)
  | [], _, h => by rw [h.nil_inv]; exact .nil
  | p :: ps, _, h => by
    obtain ⟨x, r, rfl, h1, h2⟩ := DVs.cons_inv h
    obtain ⟨a, xs, rfl, e, q⟩ := DV.tup_inv h1
    obtain ⟨_, _, rfl, k1, q⟩ := q.cons_inv
    obtain ⟨_, _, rfl, k2, q⟩ := q.cons_inv
    have := q.nil_inv
    subst this
    cases k1
    cases k2
    exact .cons e (DVs.pairs_inv h2)
theorem DV.ty_inv {H : Hp} {v : V} {t : Ty} (h : DV H v t.D) : ∃ a b rows, v = .ref a ∧ H a = some (.tup [.int t.room, .ref b, .int t.lt, .int t.total]) ∧ H b = some (.tup rows) ∧ PairsAt H rows (kvOf t.cs) := by
  obtain ⟨a, xs, rfl, e, q⟩ := DV.tup_inv h
  obtain ⟨_, _, rfl, k1, q⟩ := q.cons_inv
  obtain ⟨_, _, rfl, k2, q⟩ := q.cons_inv
  obtain ⟨_, _, rfl, k3, q⟩ := q.cons_inv
  obtain ⟨_, _, rfl, k4, q⟩ := q.cons_inv
  have := q.nil_inv
  subst this
  cases k1
  cases k3
  cases k4
  obtain ⟨b, rows, rfl, e2, q2⟩ := DV.tup_inv k2
  exact ⟨a, b, rows, rfl, e, e2, DVs.pairs_inv q2⟩
theorem Ty.dv {H : Hp} {a b : Addr} {rows : List V} {t : Ty} (e : H a = some (.tup [.int t.room, .ref b, .int t.lt, .int t.total])) (e2 : H b = some (.tup rows)) (p : PairsAt H rows (kvOf t.cs)) : DV H (.ref a) t.D :=
  .tup e (.cons (.int _) (.cons (.tup e2 (pairs_dvs p)) (.cons (.int _) (.cons (.int _) .nil))))
/-- the pairs of a dict, by rising keys -/
def look (ps : Ps) (z : Str) : Int := match ps with
  | [] => 0
  | p :: r => if p.1 = z then p.2 else look r z
theorem look_in : ∀ {ps : Ps} {p : Str × Int}, (ps.map (·.1)).Nodup → p ∈ ps → look ps p.1 = p.2
  | q :: ps, p, h, hp => by
    rcases List.mem_cons.mp hp with rfl | hp
    · exact if_pos rfl
    · have h := List.nodup_cons.mp h
      have ne : q.1 ≠ p.1 := fun e => h.1 (by show q.1 ∈ _; rw [e]; exact List.mem_map.mpr ⟨p, hp, rfl⟩)
      show (if q.1 = p.1 then q.2 else look ps p.1) = p.2
      rw [if_neg ne]
      exact look_in h.2 hp
theorem look_val {ps : Ps} {z : Str} (h : (ps.map (·.1)).Nodup) (hz : z ∈ ps.map (·.1)) : valV (kvOf ps) (Sum.inr z) = some (.int (look ps z)) := by
  obtain ⟨p, hp, rfl⟩ := List.mem_map.mp hz
  obtain ⟨i, hi⟩ := List.mem_iff_getElem?.mp hp
  rw [look_in h hp]
  exact val_ps h hi
def srtP (ps : Ps) : Ps := (srtS (ps.map (·.1))).map fun z => (z, look ps z)
theorem srtP_keys (ps : Ps) : (srtP ps).map (·.1) = srtS (ps.map (·.1)) := by
  unfold srtP
  rw [List.map_map]
  exact List.map_id _
theorem map_look {ps : Ps} (h : (ps.map (·.1)).Nodup) : (ps.map (·.1)).map (fun z => (z, look ps z)) = ps := by
  rw [List.map_map]
  have e : ∀ p ∈ ps, ((fun z => (z, look ps z)) ∘ fun p : Str × Int => p.1) p = p := fun p hp => by
    show (p.1, look ps p.1) = p
    rw [look_in h hp]
  rw [List.map_congr_left e]
  exact List.map_id _
theorem srtP_perm {ps : Ps} (h : (ps.map (·.1)).Nodup) : (srtP ps).Perm ps := by
  have q := (srtS_perm (ps.map (·.1))).map fun z => (z, look ps z)
  rw [map_look h] at q
  exact q
theorem put_psW {ps : Ps} {z : Str} {n : Int} {B : Int} (h1 : (ps.map (·.1)).Nodup) (h2 : ∀ p ∈ ps, p.1 ∈ words ∧ 1 ≤ p.2 ∧ p.2 ≤ B) (hz : z ∈ words) (hn : 1 ≤ n ∧ n ≤ B) : ∃ qs : Ps, putK (kvOf ps) (Sum.inr z) (.int n) = kvOf qs ∧ (qs.map (·.1)).Nodup ∧ (∀ p ∈ qs, p.1 ∈ words ∧ 1 ≤ p.2 ∧ p.2 ≤ B) ∧ qs.length ≤ ps.length + 1 := by
  by_cases h : z ∈ ps.map (·.1)
  · refine ⟨ps.map fun p => if p.1 = z then (p.1, n) else p, ?_, ?_, ?_, by rw [List.length_map]; omega⟩
    · unfold putK
      rw [if_pos ?_]
      · unfold kvOf
        rw [List.map_map, List.map_map]
        refine List.map_congr_left fun p hp => ?_
        by_cases e : p.1 = z
        · simp [e]
        · have e' : ¬ (Sum.inr p.1 : Key) = Sum.inr z := fun q => e (Sum.inr.inj q)
          simp [e]
      · obtain ⟨p, hp, e⟩ := List.mem_map.mp h
        exact List.any_eq_true.mpr ⟨(Sum.inr p.1, .int p.2), List.mem_map.mpr ⟨p, hp, rfl⟩, decide_eq_true (by rw [e])⟩
    · have e : (ps.map fun p => if p.1 = z then (p.1, n) else p).map (·.1) = ps.map (·.1) := by
        rw [List.map_map]
        refine List.map_congr_left fun p hp => ?_
        show (if p.1 = z then (p.1, n) else p).1 = p.1
        split <;> rfl
      rw [e]
      exact h1
    · intro p hp
      obtain ⟨q, hq, rfl⟩ := List.mem_map.mp hp
      have := h2 q hq
      split
      · exact ⟨this.1, hn⟩
      · exact this
  · refine ⟨ps ++ [(z, n)], ?_, ?_, ?_, by rw [List.length_append]; exact Nat.le_refl _⟩
    · unfold putK
      rw [if_neg ?_]
      · unfold kvOf
        rw [List.map_append]
        rfl
      · intro q
        obtain ⟨kv, hkv, e⟩ := List.any_eq_true.mp q
        obtain ⟨p, hp, rfl⟩ := List.mem_map.mp hkv
        have e : (Sum.inr p.1 : Key) = Sum.inr z := of_decide_eq_true e
        exact h (List.mem_map.mpr ⟨p, hp, Sum.inr.inj e⟩)
    · rw [List.map_append]
      exact nd_snoc h1 h
    · intro p hp
      rcases List.mem_append.mp hp with q | q
      · exact h2 p q
      · rw [List.mem_singleton.mp q]; exact ⟨hz, hn⟩
theorem perm_sum {l m : List Int} (p : l.Perm m) : l.sum = m.sum := by
  induction p with
  | nil => rfl
  | cons x _ ih => rw [List.sum_cons, List.sum_cons, ih]
  | swap x y l => simp only [List.sum_cons]; omega
  | trans _ _ a b => exact a.trans b
end L2

namespace L2
open PySem PySem.Spec PyProof.Rows
/-! ### cutting a text -/
theorem strOk_of {z : Str} (h : ∀ c ∈ z.cps.toList, c < 0x110000) : PyData.strOk z = true :=
  Array.all_eq_true_iff_forall_mem.mpr fun c hc => decide_eq_true (h c (Array.mem_def.mp hc))
/-! ### a pen is no tuple -/
theorem PenAt.tup {H : Hp} {a p : Addr} {xs : List V} (h : PenAt H a) (e : H p = some (.tup xs)) : hide a H p = some (.tup xs) := by
  have ne : p ≠ a := fun q => by
    subst q
    obtain ⟨_, _, _, e'⟩ := h
    rw [e] at e'
    cases e'
  rw [hide_ne ne]
  exact e
theorem PenAt.pairs {H : Hp} {a : Addr} (h : PenAt H a) : ∀ {xs : List V} {kvs : List (Key × V)}, PairsAt H xs kvs → PairsAt (hide a H) xs kvs
  | _, _, .nil => .nil
  | _, _, .cons e r => .cons (h.tup e) (PenAt.pairs h r)
theorem PenAt.ty {H : Hp} {a : Addr} {v : V} {t : Ty} (h : PenAt H a) (d : DV H v t.D) : DV (hide a H) v t.D := by
  obtain ⟨p, b, rows, rfl, e1, e2, pa⟩ := DV.ty_inv d
  exact Ty.dv (h.tup e1) (h.tup e2) (h.pairs pa)
/-! ### pairs one by one -/
theorem PairsAt.get {H : Hp} : ∀ {xs : List V} {kvs : List (Key × V)}, PairsAt H xs kvs → ∀ {i : Nat} {x : V}, xs[i]? = some x → ∃ (a : Addr) (k : Key) (v : V), x = .ref a ∧ kvs[i]? = some (k, v) ∧ H a = some (.tup [kV k, v])
  | _, _, .nil, i, x, e => by simp at e
  | _, _, .cons (a := a) (k := k) (v := v) h r, 0, x, e => ⟨a, k, v, by simpa using e.symm, rfl, h⟩
  | _, _, .cons h r, i + 1, x, e => by
    obtain ⟨a, k, v, e1, e2, e3⟩ := PairsAt.get r (show _ by simpa using e)
    exact ⟨a, k, v, e1, by simpa using e2, e3⟩
theorem PairsAt.getP {H : Hp} {xs : List V} {ps : Ps} (h : PairsAt H xs (kvOf ps)) {i : Nat} {x : V} (e : xs[i]? = some x) : ∃ (a : Addr) (p : Str × Int), x = .ref a ∧ ps[i]? = some p ∧ H a = some (.tup [.str p.1, .int p.2]) := by
  obtain ⟨a, k, v, e1, e2, e3⟩ := h.get e
  unfold kvOf at e2
  rw [List.getElem?_map] at e2
  obtain ⟨p, hp, q⟩ := Option.map_eq_some_iff.mp e2
  cases q
  exact ⟨a, p, e1, hp, e3⟩
def rSlS : V → Option Int → Option Int → Hp → VK → Prop := fun x lo hi H Q => ∃ z, x = .str z ∧ z.length ≤ sizeLine ∧ Q (.str (Txt.slice z lo hi)) H
section
variable {X : Cx}
/-! ### dict(tuple of pairs) -/
def rDictT : List V → Hp → VK → Prop := fun xs H Q => ∃ (l : Addr) (ys : List V) (kvs : List (Key × V)), xs = [.ref l] ∧ H l = some (.tup ys) ∧ PairsAt H ys kvs ∧ kvs.length ≤ 1000 ∧ ∀ p, H p = none → Q (.ref p) (upd H p (.dK (mergeK [] kvs)))
end
end L2

namespace L2
open PySem PySem.Spec PyProof.Rows
/-! ### sorted lists, falling -/
def srt (ns : List Int) : List Int := ns.mergeSort fun a b => decide (b ≤ a)
/-- the cut, as a number -/
def cutM (room : Int) (ns : List Int) : Int := if (ns.length : Int) ≤ room then 0 else (srt ns).getD room.toNat 0
/-! ### two tallies as one -/
def keysM (ps qs : Ps) : List Str := ps.map (·.1) ++ (qs.map (·.1)).filter fun z => decide (z ∉ ps.map (·.1))
def sumM (ps qs : Ps) (z : Str) : Int := look ps z + look qs z
def cutT (room : Int) (ps qs : Ps) : Int := cutM room ((keysM ps qs).map (sumM ps qs))
def csM (room : Int) (ps qs : Ps) : Ps := ((srtS (keysM ps qs)).filter fun z => decide (cutT room ps qs < sumM ps qs z)).map fun z => (z, sumM ps qs z - cutT room ps qs)
def mergeT (a b : Ty) : Ty := ⟨a.room, csM a.room a.cs b.cs, a.lt + b.lt + cutT a.room a.cs b.cs, a.total + b.total⟩
theorem keysM_mem {ps qs : Ps} {z : Str} : z ∈ keysM ps qs ↔ z ∈ ps.map (·.1) ∨ z ∈ qs.map (·.1) := by
  unfold keysM
  rw [List.mem_append, List.mem_filter]
  by_cases h : z ∈ ps.map (·.1)
  · exact ⟨fun _ => .inl h, fun _ => .inl h⟩
  · refine ⟨fun q => q.elim .inl fun q => .inr q.1, fun q => q.elim .inl fun q => .inr ⟨q, decide_eq_true h⟩⟩
theorem look_nn {ps : Ps} (h : ∀ p ∈ ps, 1 ≤ p.2) (z : Str) : 0 ≤ look ps z := by
  induction ps with
  | nil => exact Int.le_refl _
  | cons p ps ih =>
    show 0 ≤ if p.1 = z then p.2 else look ps z
    have := h p List.mem_cons_self
    have := ih fun q hq => h q (List.mem_cons_of_mem _ hq)
    split <;> omega
theorem look_pos {ps : Ps} (h : ∀ p ∈ ps, 1 ≤ p.2) (nd : (ps.map (·.1)).Nodup) {z : Str} (hz : z ∈ ps.map (·.1)) : 1 ≤ look ps z := by
  obtain ⟨p, hp, rfl⟩ := List.mem_map.mp hz
  rw [look_in nd hp]
  exact h p hp
/-! ### sums cut -/
end L2

namespace L2
open PySem PySem.Spec PyProof.Rows
/-! ### a comprehension's own name that is a local one's, too -/
def Cx.ren (X : Cx) (N' : List Str) : Cx := { X with N := N' }
theorem Cx.Ok.ren {X : Cx} {N' : List Str} (o : X.Ok) : (X.ren N').Ok := ⟨o.mod, o.kind, o.glob, o.blt, o.above, o.inj, o.has, o.cab, o.hd, o.frames, o.stk, o.exf, o.bs, o.bsz, o.noex, o.exfs, o.funs, o.frf⟩
/-- where the names differ nothing is known -/
def Hid : List Str → List Str → St → Prop
  | [], [], [] => True
  | a :: N, b :: N', o :: σ => (a = b ∨ o = none) ∧ Hid N N' σ
  | _, _, _ => False
theorem Hid.at : ∀ {N N' : List Str} {σ : St}, Hid N N' σ → ∀ i : Nat, N[i]? = N'[i]? ∨ σ[i]? = some none
  | [], [], [], _, i => .inl rfl
  | a :: N, b :: N', o :: σ, h, 0 => by
    rcases h.1 with q | q
    · exact .inl (by rw [q]; rfl)
    · exact .inr (by rw [q]; rfl)
  | a :: N, b :: N', o :: σ, h, i + 1 => by
    simpa using Hid.at (N := N) (N' := N') (σ := σ) h.2 i
section
variable {X : Cx} {N' : List Str} {pins : List (Addr × Obj)} {σ : St} {H : Hp} {s : Shared}
theorem Inv.ren (I : Inv X pins σ H s) (hl : N'.length = X.N.length) (h : Hid X.N N' σ) : Inv (X.ren N') pins σ H s := by
  refine ⟨I.ok.ren, I.os, I.bare, I.base, ?_, I.cell, I.free, I.freeC, I.pin, I.hok, I.len.trans hl.symm⟩
  obtain ⟨m, hn, hm⟩ := I.loc
  refine ⟨m, hn, fun i x v e1 e2 e3 => hm i x v ?_ e2 e3⟩
  rcases h.at i with q | q
  · exact q.trans e1
  · rw [e2] at q; cases q
def tRen (N N' : List Str) (t : TE) : TE := fun σ H Q => Hid N N' σ ∧ t σ H Q
def tForget (i : Nat) (t : TS) : TS := fun D σ H => t D (σ.set i none) H
end
end L2

namespace L2
open PySem PySem.Spec PyProof.Rows
/-! ### the dict of sums as it is filled -/
def mrgP (ps qs : Ps) : Ps := (keysM ps qs).map fun z => (z, sumM ps qs z)
end L2

namespace L2
open PySem PySem.Spec PyProof.Rows
/-! ### an exception on its way -/
theorem mem_frs {l : List Env} {env : Env} {b : Addr} (h : env ∈ l) (e : env.frame = some b) : b ∈ frs l := List.mem_filterMap.mpr ⟨env, h, e⟩
/-- the frames that it has still to leave; its address, its newest entry, its class -/
structure Fly (l : List Env) (a T : Addr) (cls : Value) (h : Heap) : Prop where
  fr : ∃ B, h.FunFrames B l
  ne : T ≠ a
  ex : ∃ oe vs oT ts a0, h.get? a = some oe ∧ (oe.cls = cls ∧ vs[0]? = some a0) ∧ oe.data = .fields vs ∧ vs[1]? = some (.ref T) ∧ h.get? T = some oT ∧ oT.data = .fields ts ∧ ts[3]? = some .none
/-- all but the exception, its entry and the frames is kept; of the frames the slots may change -/
structure Kp (l : List Env) (a T : Addr) (h h' : Heap) : Prop where
  keep : ∀ b o, h.get? b = some o → b ≠ a → b ≠ T → b ∉ frs l → h'.get? b = some o
  slot : ∀ b o, h.get? b = some o → b ∈ frs l → ∃ sl, h'.get? b = some { o with slots := sl }
theorem Kp.trans {l : List Env} {a T T1 : Addr} {h h1 h2 : Heap} (x : Kp l a T h h1) (y : Kp l a T1 h1 h2) (f : ∀ b o, h.get? b = some o → b = T1 → b = T) : Kp l a T h h2 where
  keep := fun b o e n1 n2 n3 => y.keep b o (x.keep b o e n1 n2 n3) n1 (fun z => n2 (f b o e z)) n3
  slot := fun b o e n => by
    obtain ⟨sl, e1⟩ := x.slot b o e n
    obtain ⟨sl', e2⟩ := y.slot b _ e1 n
    exact ⟨sl', e2⟩
abbrev fb (l : List Env) (a T : Addr) (h : Heap) : Heap := PySem.W.hideAll h (a :: T :: frs l)
theorem Fly.w {l : List Env} {a T : Addr} {cls : Value} {h : Heap} (F : Fly l a T cls h) : ∃ a0, Heap.FlyingW (fb l a T h) l a cls a0 h := by
  obtain ⟨B, fr⟩ := F.fr
  obtain ⟨oe, vs, oT, ts, a0, e1, e2, e3, e4, e5, e6, e7⟩ := F.ex
  refine ⟨a0, fun b o q => PySem.W.of_hideAll _ q, PySem.W.hideAll_none _ (.head _), PySem.W.funFrames_hide fr fun env he b hb => .tail _ (.tail _ (mem_frs he hb)), oe, vs, T, oT, ts, e1, e2, e3, e4, PySem.W.hideAll_none _ (.tail _ (.head _)), F.ne, e5, e6, e7⟩
section
variable {M : Model} {A : Around} {E : Value → Shared → Prop} {s : Shared} {env : Env} {outer : List Env} {L a T : Addr} {cls : Value} {Q : Unit → Shared → Prop}
end
theorem ObjOk.has {P : Program} {w : World} {H : Hp} {h : Heap} {a : Addr} {o : HO} (x : ObjOk P w H h a o) : ∃ ob, h.get? a = some ob := by
  cases o with
  | lst xs => obtain ⟨_, _, _, _, e⟩ := x; exact ⟨_, e⟩
  | tup xs => obtain ⟨_, _, _, _, e, _⟩ := x; exact ⟨_, e⟩
  | dK kvs => obtain ⟨_, _, _, _, o, _, _, e, _⟩ := x; exact ⟨_, e⟩
  | dT kvs => obtain ⟨_, _, _, _, o, _, _, e, _⟩ := x; exact ⟨_, e⟩
  | set S n => obtain ⟨o, _, _, _, e, _⟩ := x; exact ⟨_, e⟩
  | ins C dx fs => obtain ⟨_, _, _, e, _⟩ := x; exact ⟨_, e⟩
  | own y => obtain ⟨_, e⟩ := x; exact ⟨_, e⟩
  | xd fs => obtain ⟨_, ⟨_, _, _, e, _⟩, _⟩ := x; exact ⟨_, e⟩
  | rng lo hi => obtain ⟨_, _, _, e⟩ := x; exact ⟨_, e⟩
  | frz ob u => obtain ⟨e, _⟩ := x; exact ⟨_, e⟩
  | tbl ps => exact ⟨_, (show h.get? a = some _ from x)⟩
  | met f y => exact ⟨_, (show h.get? a = some _ from x)⟩
  | ext φ => obtain ⟨_, ⟨_, e⟩, _⟩ := x; exact ⟨_, e⟩
theorem HOk.no {P : Program} {w : World} {H : Hp} {h : Heap} {a : Addr} (x : HOk P w H h) (e : h.get? a = none) : H a = none := by
  cases q : H a with
  | none => rfl
  | some o =>
    obtain ⟨ob, z⟩ := (x a o q).has
    rw [e] at z
    cases z
theorem HOk.kp {P : Program} {w : World} {H : Hp} {h h' : Heap} {l : List Env} {a T : Addr} (x : HOk P w H h) (k : Kp l a T h h') (ha : H a = none) (hT : H T = none) (hl : ∀ b ∈ frs l, H b = none) : HOk P w H h' := fun b u e => by
  refine (x b u e).stay (fun c v hc q => ?_) (fun _ q => q) fun _ _ q => q
  have nn : H c ≠ none := by
    rcases hc with z | z
    · rw [z, e]; exact fun q => nomatch q
    · rw [z]; exact fun q => nomatch q
  exact k.keep c v q (fun z => nn (z ▸ ha)) (fun z => nn (z ▸ hT)) fun z => nn (hl c z)
end L2

namespace L2
open PySem PySem.Spec PyProof.Rows
/-- how an exception lies behind a call -/
def CX1 (P : Program) (w : World) : CXT := fun outer H s E e s' => ∃ (a T C : Addr) (H' : Hp), e = .ref a ∧ s'.os = s.os ∧ AllBare s'.gens ∧ Un (frs outer) [] H H' s.heap s'.heap ∧ HOk P w H' s'.heap ∧
  Fly outer a T (.ref C) s'.heap ∧ s.heap.get? a = none ∧ s.heap.get? T = none ∧ H' a = none ∧ H' T = none ∧ E (.ref C) none H'
section
variable {P : Program} {w : World} {K : PySem.W.Frag} {mg : Str → Option Value} {base : Heap} {N : List Str} {qual : Str} {scope : Scope} {f : Addr} {cd : Value} {A : Around} {outer : List Env} {s : Shared} {H : Hp} {E : XK}
abbrev cx1 (P : Program) (w : World) (K : PySem.W.Frag) (mg : Str → Option Value) (base : Heap) (N : List Str) (qual : Str) (scope : Scope) (f : Addr) (cd : Value) (A : Around) (outer : List Env) (s : Shared) (H : Hp) (E : XK) : Cx := cxOf (CX1 P w) P w K mg base N qual scope f cd A outer s H E
theorem Inv.gone {X : Cx} {pins : List (Addr × Obj)} {σ : St} {H : Hp} {s : Shared} (I : Inv X pins σ H s) (hx : X.ex = []) {b : Addr} (e : s.heap.get? b = none) : X.s₀.heap.get? b = none := by
  cases z : X.s₀.heap.get? b with
  | none => rfl
  | some o =>
    obtain ⟨o', e'⟩ := I.base.there b o z (by rw [hx]; simp)
    rw [e] at e'
    cases e'
/-- raise C(..), C an own class of exceptions -/
def tRaise (C : Addr) (E : XK) (ta : TA) : TS := fun _ σ H => ta σ H fun vs H1 => vs.length ≤ 1000 ∧ E (.ref C) none H1
end
/-! ### a def of the module that may raise, by its name -/
structure HasX (P : Program) (w : World) (K : PySem.W.Frag) (mg : Str → Option Value) (base : Heap) (x : Str) (k : Nat) (ps : List Str) (sp : Sp) : Prop where
  ex : ∃ f fd, FnOk P w K mg base (CX1 P w) k f fd ps sp ∧ Binds K fd ps [] ∧ PySem.W.keepIn K (.ref f) = true ∧ mg x = some (.ref f)
theorem HasX.of {P : Program} {w : World} {K : PySem.W.Frag} {mg : Str → Option Value} {base : Heap} {x : Str} {k : Nat} {ps : List Str} {sp : Sp} {f : Addr} {fd : FuncData} (F : FnOk P w K mg base (CX1 P w) k f fd ps sp) (b : Binds K fd ps []) (kp : PySem.W.keepIn K (.ref f) = true) (m : mg x = some (.ref f)) : HasX P w K mg base x k ps sp := ⟨f, fd, F, b, kp, m⟩
section
variable {P : Program} {w : World} {K : PySem.W.Frag} {mg : Str → Option Value} {base : Heap} {N : List Str} {qual : Str} {scope : Scope} {f : Addr} {cd : Value} {A : Around} {outer : List Env} {s : Shared} {H : Hp} {E : XK}
variable {j k : Nat} {ps : List Str} {sp : Sp} {x : Str} {p pos : Pos} {e : Expr} {es : List Expr} {t : TA}
end
end L2

namespace L2
open PySem PySem.Spec PyProof.Rows
/-! ### isinstance of an exception of an own class -/
structure ExcK (K : PySem.W.Frag) (C : Addr) : Prop where
  ga : PySem.W.findIn K (.ref C) "__getattribute__" = some (some (.builtin "BaseException.__getattribute__"))
  gr : PySem.W.findIn K (.ref C) "__getattr__" = some none
  cl : PySem.W.findIn K (.ref C) "__class__" = some (some (.builtin "object.__class__"))
  sb : PySem.W.subIn K (.ref C) (.type "BaseException") = some true
  so : PySem.W.subIn K (.ref C) (.type "object") = some true
  ob : ∃ oc od cdt sl, K.lookup C = some ⟨oc, od, .cls cdt, sl⟩
section
variable {prog : Program} {w : World} {A : Around} {E : Value → Shared → Prop} {h : Heap} {g : Array GenState} {d : Drawn} {t : Nat} {os : OsState} {a C : Addr} {o : Obj} {K : PySem.W.Frag}
end
end L2

namespace L2
open PySem PySem.Spec PyProof.Rows
/-- an exception of the class at C, that stands at a -/
def xo (C a : Addr) : HO := .ext fun h => ∃ o, h.get? a = some o ∧ o.cls = .ref C
theorem HOk.more {P : Program} {w : World} {H : Hp} {h : Heap} {a : Addr} {o : HO} (x : HOk P w H h) (hn : H a = none) (new : ObjOk P w (upd H a o) h a o) : HOk P w (upd H a o) h := fun b u e => by
  by_cases hb : b = a
  · subst hb; rw [upd_same] at e; cases e; exact new
  · rw [upd_ne hb] at e
    exact (x b u e).stay (fun c v _ q => q) (fun c q => by rw [upd_ne (ne_of_none q hn)]; exact q) fun c xs q => by rw [upd_ne (ne_of_none q hn)]; exact q
theorem Un.more {fs : List Addr} {H H' : Hp} {h h' : Heap} {a : Addr} {o : HO} (u : Un fs [] H H' h h') (na : h.get? a = none) (hn : H' a = none) : Un fs [] H (upd H' a o) h h' where
  keep := u.keep
  slot := u.slot
  free := fun b ob q n hx => by
    rw [upd_ne (fun z => by rw [z, na] at q; cases q)]
    exact u.free b ob q n hx
  there := u.there
  tups := fun b xs q => by rw [upd_ne (ne_of_none (u.tups b xs q) hn)]; exact u.tups b xs q
  frzs := fun b ob xs q => by rw [upd_ne (ne_of_none (u.frzs b ob xs q) hn)]; exact u.frzs b ob xs q
  tbls := fun b ps q => by
    obtain ⟨m, e⟩ := u.tbls b ps q
    exact ⟨m, by rw [upd_ne (ne_of_none e hn)]; exact e⟩
theorem Un.kp {l : List Env} {H H' : Hp} {h h1 h2 : Heap} {a T : Addr} (u : Un (frs l) [] H H' h h1) (k : Kp l a T h1 h2) (na : h.get? a = none) (nT : h.get? T = none) : Un (frs l) [] H H' h h2 := by
  have n1 : ∀ b o, h.get? b = some o → b ≠ a := fun b o e z => by rw [z, na] at e; cases e
  have n2 : ∀ b o, h.get? b = some o → b ≠ T := fun b o e z => by rw [z, nT] at e; cases e
  refine ⟨fun b o e n hb hx => k.keep b o (u.keep b o e n hb hx) (n1 b o e) (n2 b o e) hb, fun b o e n hb hx => ?_, u.free, fun b o e hx => ?_, u.tups, u.frzs, u.tbls⟩
  · obtain ⟨sl, e1⟩ := u.slot b o e n hb hx
    obtain ⟨sl', e2⟩ := k.slot b _ e1 hb
    exact ⟨sl', e2⟩
  · obtain ⟨o', e1⟩ := u.there b o e hx
    by_cases hb : b ∈ frs l
    · obtain ⟨sl', e2⟩ := k.slot b _ e1 hb
      exact ⟨_, e2⟩
    · exact ⟨_, k.keep b o' e1 (n1 b o e) (n2 b o e) hb⟩
/-- within an except suite -/
abbrev Cx.held (X : Cx) (a : Addr) (E : Value → Shared → Prop) : Cx := { X with A := X.A.mark (some (.ref a)), calm := false, xe := E }
theorem Inv.held {X : Cx} {pins : List (Addr × Obj)} {σ : St} {H : Hp} {s : Shared} (I : Inv X pins σ H s) (a : Addr) (E : Value → Shared → Prop) : Inv (X.held a E) pins σ H s :=
  have ok := I.ok
  ⟨⟨ok.mod, ok.kind, ok.glob, ok.blt, ok.above, ok.inj, ok.has, ok.cab, fun z => Bool.noConfusion z, ok.frames, ok.stk, ok.exf, ok.bs, ok.bsz, ok.noex, ok.exfs, ok.funs, ok.frf⟩, I.os, I.bare, I.base, I.loc, I.cell, I.free, I.freeC, I.pin, I.hok, I.len⟩
section
variable {X : Cx} {pins : List (Addr × Obj)} {σ : St} {H : Hp} {s : Shared}
end
/-! ### try: f(..) except S as e: suite -/
def tTry (K : PySem.W.Frag) (S : Addr) (sp : Sp) (i : Nat) (ta : TA) (tb : TS) : TS := fun D σ H => ta σ H fun vs H1 => sp vs H1 (fun _ H2 => D.nx σ H2) (fun cv _ H2 => ∃ C, cv = .ref C ∧ PySem.W.exmOne K (.ref C) (.ref S) = some true ∧
  ∀ a, H2 a = none → tb { nx := fun σ' H3 => (∃ v, σ'[i]? = some (some v)) ∧ D.nx (σ'.set i none) H3, rt := fun _ _ => False } (σ.set i (some (.ref a))) (upd H2 a (xo C a)))
section
variable {X : Cx} {x c n : Str} {p pos cpos epos np hpos : Pos} {e : Expr} {es : List Expr} {ta : TA} {tb : TS} {b₀ : Stmt} {suite : List Stmt} {j k i : Nat} {ps : List Str} {sp : Sp} {S : Addr}
end
/-! ### isinstance(x, C), isinstance(x, (C, ..)), C own classes too -/
def cVal : V → Value
  | .ref D => .ref D
  | .ty T => .type T
  | _ => .none
def isCl : V → Bool
  | .ref _ => true
  | .ty _ => true
  | _ => false
theorem cVal_of {c : V} {u : Value} (h : isCl c = true) (r : RelV c u) : u = cVal c := by
  cases c <;> first | exact r | cases h
theorem cVals_of : ∀ {cs : List V} {us : List Value}, cs.all isCl = true → Vals cs us → us = cs.map cVal
  | [], _, _, r => by cases r; rfl
  | c :: cs, _, h, r => by
    cases r with
    | cons r1 r2 =>
      rw [List.all_cons, Bool.and_eq_true] at h
      rw [cVal_of h.1 r1, cVals_of h.2 r2]
      rfl
inductive TyX (K : PySem.W.Frag) (H : Hp) : V → Value → Prop
  | non : TyX K H .non (.type "NoneType")
  | exc {a C : Addr} (k : ExcK K C) (e : H a = some (xo C a)) : TyX K H (.ref a) (.ref C)
def rIsX (K : PySem.W.Frag) : List V → Hp → VK → Prop := fun xs H Q => ∃ x c t b, xs = [x, c] ∧ TyX K H x t ∧ ((isCl c = true ∧ PySem.W.kitOne K t (cVal c) = some b) ∨ ∃ tp cs, c = .ref tp ∧ H tp = some (.tup cs) ∧ cs.all isCl = true ∧ PySem.W.kitAny K t (cs.map cVal) = some b) ∧ Q (.bl b) H
end L2

namespace L2
open PySem PySem.Spec PyProof.Rows
/-! ### the tally of nothing -/
def Ty.zero (room : Int) : Ty := ⟨room, [], 0, 0⟩
/-! ### own classes of exceptions -/
end L2

namespace L2
open PySem PySem.Spec PyProof.Rows
/-! ### products of great numbers -/
theorem bits_le {a : Int} (h : a.natAbs < 2 ^ 400) : Builtin.Int.intBits a ≤ 400 := by
  unfold Builtin.Int.intBits
  split
  · exact Nat.zero_le _
  · rename_i hz
    have hn : a.natAbs ≠ 0 := fun z => hz (by simpa using Int.natAbs_eq_zero.mp z)
    exact (Nat.log2_lt hn).mpr h
def big : Int := 1000000000000000000000000000000000000000000000000000000000000000000000000000000
theorem big_lt {a : Int} (h1 : -big < a) (h2 : a < big) : a.natAbs < 2 ^ 400 := by
  have e : big.natAbs < 2 ^ 400 := by decide +kernel
  have : a.natAbs < big.natAbs := by
    have : big.natAbs = big.toNat := rfl
    have hb : (0 : Int) < big := by decide
    omega
  omega
def CMulB (i j : Int) : Prop := (-big < i ∧ i < big) ∧ -big < j ∧ j < big
theorem CMulB.ok {i j : Int} (h : CMulB i j) : IntMulOk i j := by
  have h1 := bits_le (big_lt h.1.1 h.1.2)
  have h2 := bits_le (big_lt h.2.1 h.2.2)
  have e : Builtin.Int.intTooBig ((Builtin.Int.intBits i : Int) + (Builtin.Int.intBits j : Int)) = false := by
    unfold Builtin.Int.intTooBig
    refine decide_eq_false fun q => ?_
    have : (800 : Int) ≤ bitsLine := by decide +kernel
    omega
  unfold IntMulOk
  rw [e, Bool.and_false]
  exact Bool.false_ne_true
/-! ### comprehensions over a tuple -/
theorem comp_tup {K : PySem.W.Frag} {a : Addr} {xs : List V} {k : Nat} {g : TG} {tt : TT} {te : TE} {σ : St} {H : Hp} {Q : VK} (Pv : Nat → List V → Hp → Prop) (h0 : Pv 0 [] H) (hl : ∀ i ys H, i ≤ xs.length → Pv i ys H → SqT K H a xs)
    (hs : ∀ i x ys H (C : List V → Hp → Prop), xs[i]? = some x → Pv i ys H → (∀ ys' H', Pv (i + 1) ys' H' → C ys' H') → ys.length < sizeLine ∧ g x (List.replicate k none ++ σ) H fun σ2 H2 => Wk σ2 (List.replicate k none ++ σ) ∧ tt σ2 H2 fun ok H3 =>
      if ok = true then te σ2 H3 fun y H4 => C (ys ++ [y]) H4 else C ys H3)
    (hd : ∀ ys H, Pv xs.length ys H → ys.length ≤ sizeLine ∧ ∀ p, H p = none → Q (.ref p) (upd H p (.lst ys))) :
    CompR (Itt K a) H k g tt te σ Q := by
  refine ⟨fun i m ys H => m = xs.length - i ∧ i ≤ xs.length ∧ Pv i ys H, ⟨xs.length, by simp, Nat.zero_le _, h0⟩, ?_⟩
  rintro i m ys H ⟨rfl, hi, p⟩
  have q := hl i ys H hi p
  by_cases hlt : i < xs.length
  · have r := hs i xs[i] ys H (fun ys' H' => ∃ m', m' < xs.length - i ∧ m' = xs.length - (i + 1) ∧ i + 1 ≤ xs.length ∧ Pv (i + 1) ys' H') (by simp [hlt]) p fun ys' H' p' => ⟨_, by omega, rfl, hlt, p'⟩
    refine .inr ⟨⟨xs, xs[i], q, by simp [hlt]⟩, r.1, fun x H' y => ?_⟩
    obtain ⟨e, y⟩ := y
    subst e
    have ex : xs[i]? = some x := y xs q
    have ex2 : xs[i] = x := by simpa [hlt] using ex
    rw [← ex2]
    exact r.2
  · have e : i = xs.length := by omega
    subst e
    exact .inl ⟨⟨xs, q, Nat.le_refl _⟩, hd ys H p⟩
/-- over pairs of a mark and a count, whose elements are plain values -/
theorem comp_pairs {K : PySem.W.Frag} {a : Addr} {xs : List V} {ps : Ps} {k : Nat} {g : TG} {tt : TT} {te : TE} {σ : St} {H : Hp} {Q : VK} (p : Str × Int → Bool) (f : Str × Int → V) (e : H a = some (.tup xs)) (pa : PairsAt H xs (kvOf ps)) (hl : ps.length ≤ 100000)
    (hs : ∀ (t : Str × Int) (c : Addr) (ys : List V) (C : List V → Hp → Prop), t ∈ ps → H c = some (.tup [.str t.1, .int t.2]) → (p t = true → C (ys ++ [f t]) H) → (p t = false → C ys H) → g (.ref c) (List.replicate k none ++ σ) H fun σ2 H2 => Wk σ2 (List.replicate k none ++ σ) ∧ tt σ2 H2 fun ok H3 =>
      if ok = true then te σ2 H3 fun y H4 => C (ys ++ [y]) H4 else C ys H3)
    (hd : ∀ q, H q = none → Q (.ref q) (upd H q (.lst ((ps.filter p).map f)))) :
    CompR (Itt K a) H k g tt te σ Q := by
  have dl := pa.length
  rw [kvOf_len] at dl
  have le : ∀ i, (((ps.take i).filter p).map f).length ≤ 100000 := fun i => by
    rw [List.length_map]
    have h1 := List.length_filter_le p (ps.take i)
    rw [List.length_take] at h1
    omega
  refine comp_tup (xs := xs) (fun i ys H' => H' = H ∧ ys = ((ps.take i).filter p).map f) ⟨rfl, rfl⟩ ?_ ?_ ?_
  · rintro i ys H' _ ⟨rfl, _⟩
    exact SqT.of e
  · rintro i x ys H' C hx ⟨rfl, rfl⟩ hC
    obtain ⟨c, t, rfl, ht, ec⟩ := pa.getP hx
    refine ⟨small_lt (by have := le i; omega), hs t c _ C (List.mem_of_getElem? ht) ec (fun hp => hC _ _ ⟨rfl, ?_⟩) (fun hp => hC _ _ ⟨rfl, ?_⟩)⟩
    · rw [take_one ht, List.filter_append, List.map_append, List.filter_cons, hp]
      rfl
    · rw [take_one ht, List.filter_append, List.filter_cons, hp]
      simp
  · rintro ys H' ⟨rfl, rfl⟩
    rw [dl, List.take_length]
    refine ⟨small_le (by have := le ps.length; rw [List.take_length] at this; omega), hd⟩
/-! ### one def, several promises -/
section
variable {P : Program} {w : World} {K : PySem.W.Frag} {mg : Str → Option Value} {base : Heap} {CX : CXT} {k : Nat} {f : Addr} {fd : FuncData} {ps : List Str} {sp sp' : Sp}
theorem FnOk.or (F : FnOk P w K mg base CX k f fd ps sp) (G : FnOk P w K mg base CX k f fd ps sp') : FnOk P w K mg base CX k f fd ps (fun vs H Q E => sp vs H Q E ∨ sp' vs H Q E) :=
  ⟨fun vs H Q E h => h.elim (F.len _ _ _ _) (G.len _ _ _ _), fun A outer s H args us vs Q E hr e0 hb r h => h.elim (F.run A outer s H args us vs Q E hr e0 hb r) (G.run A outer s H args us vs Q E hr e0 hb r)⟩
end
/-! ### how great a tally's numbers are -/
theorem Ty.tot {t : Ty} (h : t.Ok) (h1 : t.lt ≤ 1000000000000000000) (h2 : ∀ p ∈ t.cs, p.2 ≤ 1000000000) : 0 ≤ t.total ∧ t.total ≤ 50000000000000000000 := by
  have lo := h.lo
  have hi := h.hi
  have l0 := h.lt0
  have r1 := h.room1
  have r2 := h.room2
  have s : 0 ≤ t.sum ∧ t.sum ≤ 1000000000 * t.cs.length := by
    have pos := h.pos
    have : ∀ ps : Ps, (∀ p ∈ ps, 1 ≤ p.2) → (∀ p ∈ ps, p.2 ≤ 1000000000) → 0 ≤ (nsOf ps).sum ∧ (nsOf ps).sum ≤ 1000000000 * (ps.length : Int) := fun ps => by
      induction ps with
      | nil => intro _ _; exact ⟨Int.le_refl _, Int.le_refl _⟩
      | cons p ps ih =>
        intro a b
        obtain ⟨i1, i2⟩ := ih (fun q hq => a q (.tail _ hq)) (fun q hq => b q (.tail _ hq))
        have x := a p (.head _)
        have y := b p (.head _)
        show 0 ≤ p.2 + (nsOf ps).sum ∧ p.2 + (nsOf ps).sum ≤ 1000000000 * ((ps.length + 1 : Nat) : Int)
        omega
    exact this t.cs pos h2
  have ln := h.len
  have m1 : 0 ≤ (t.room + 1) * t.lt := Int.mul_nonneg (by omega) l0
  have m2 : 2 * t.room * t.lt ≤ 40 * t.lt := Int.mul_le_mul_of_nonneg_right (by omega) l0
  omega
end L2

namespace L2
open PySem PySem.Spec PyProof.Rows
/-! ### a function that stands in a local name -/
def Cal (base : Heap) (f : Addr) : Prop := ∃ oc od fd sl, base.get? f = some ⟨oc, od, .func fd, sl⟩
theorem keeps_cal {M : Model} {f : Addr} {base : Heap} (c : Cal base f) (h : Heap) (k : ∀ b o, base.get? b = some o → h.get? b = some o) : ∃ q, (q = Keeper.frame ∨ q = Keeper.machine ∨ q = Keeper.boundFrame) ∧ PySem.W.Looks M h (keeperOf (.ref f)) q := by
  obtain ⟨oc, od, fd, sl, e⟩ := c
  refine ⟨.frame, .inl rfl, fun A Q E s kk q => ?_⟩
  exact wpAny_bind (wpAny_load (kk _ _ (k _ _ e)) (wpAny_pure q))
def tCallV (P : Program) (w : World) (K : PySem.W.Frag) (mg : Str → Option Value) (base : Heap) (k i : Nat) (t : TA) : TE := fun σ H Q => ∃ (f : Addr) (fd : FuncData) (ps : List Str) (sp : Sp), σ[i]? = some (some (.ref f)) ∧ FnOk P w K mg base CX0 k f fd ps sp ∧ Binds K fd ps [] ∧ Cal base f ∧
  t σ H fun vs H1 => sp vs H1 Q E0
section
variable {X : Cx} {k i : Nat} {x : Str} {p pos : Pos} {e : Expr} {es : List Expr} {t : TA}
theorem pe_callV (hr : Room k X.A) (ha : PA X (e :: es) t) (hN : X.N[i]? = some x := by rfl) (hv : Vis X.env.scope x := by first | exact Or.inl rfl | exact Or.inr (Or.inl rfl) | exact Or.inr (Or.inr rfl)) (hd : (x == ("__debug__" : Str)) = false := by decide) (hcd : (x == ("__classdict__" : Str)) = false := by decide)
    (he : starEach (e :: es) X.env = (false, eval e X.env) :: starEach es X.env := by rfl) (hpl : (backTo pos (starEach es X.env)).any (·.1) = false := by rfl) :
    PE X (.Call (.Name x p) (e :: es) [] pos) (tCallV X.prog X.w X.K X.mg X.base k i t) := by
  intro pins s σ H Q I h
  obtain ⟨f, fd, ps, sp, hs, F, b, c, q⟩ := h
  refine wpAny_Call_Name_kw (thn (pe_var hN hv hd hcd pins s σ H (fun v H' => v = .ref f ∧ H' = H) I ⟨_, hs, rfl, rfl⟩) fun u s1 z => ?_)
  obtain ⟨v, H', I1, r, rfl, rfl⟩ := z
  cases (show u = Value.ref f from r)
  have hh := ha pos pins s1 σ H' _ I1 q
  show wpAny _ _ (callWith pos (.ref f) [] (backTo pos (starEach (e :: es) X.env)) []) _ _ _
  rw [he] at hh ⊢
  refine PySem.W.callWith_of (P := fun h => ∀ b o, X.base.get? b = some o → h.get? b = some o) (by show ((false || (backTo pos (starEach es X.env)).any (·.1)) || false) = false; rw [hpl]; rfl) (fun h k => keeps_cal c h k) (Calls.evalArgs_plain (thn hh fun us s2 z => ?_))
  obtain ⟨vs, H2, I2, r2, q2⟩ := z
  exact ⟨I2.bk, run_fn (dvs := []) (ds := []) F hr b .nil pass0 I2 r2 (by rw [List.append_nil]; exact q2)⟩
end
/-! ### the table of a code object in which a lambda is made -/
def crO (q : Str) (c : Addr) : HO := .ext fun h => h.CodeRec (.ref c) q
structure LamAt (T : Addr) (pos : Pos) (q : Str) (H : Hp) : Prop where
  tab : H T = some (.tbl #[]) ∨ ∃ c, H T = some (.tbl #[rawInt pos.line, rawInt pos.col, .ref c]) ∧ H c = some (crO q c)
theorem LamAt.mono {T : Addr} {pos : Pos} {q : Str} {H H' : Hp} (h : LamAt T pos q H) (g : Same H H') : LamAt T pos q H' := by
  rcases h.tab with e | ⟨c, e, ec⟩
  · exact ⟨.inl (g _ _ e)⟩
  · exact ⟨.inr ⟨c, g _ _ e, g _ _ ec⟩⟩
end L2

namespace L2
open PySem PySem.Spec PyProof.Rows
/-- the context of a lambda's body, at its entry -/
def lamCx (P : Program) (w : World) (K : PySem.W.Frag) (mg : Str → Option Value) (base : Heap) (N : List Str) (qual : Str) (sc : Scope) (f : Addr) (cd : Value) (cl : List (Str × Addr)) (A : Around) (outer : List Env) (s : Shared) (H : Hp) : Cx where
  prog := P
  w := w
  K := K
  mg := mg
  base := base
  A := A.deeper (PySem.W.envX qual sc s.heap.objs.size f cd cl)
  N := N
  s₀ := s
  H₀ := H
  env := PySem.W.envX qual sc s.heap.objs.size f cd cl
  outer := outer
  stack := PySem.W.envX qual sc s.heap.objs.size f cd cl :: outer
  ex := []
  calm := true
  fn := fun _ => false
  pn := []
  xe := fun _ _ => False
/-- what a lambda's scope is: parameters ps, names fr of the function around it -/
structure LamScope (ps fr : List Str) (sc : Scope) : Prop where
  kind : sc.kind = .function
  co : sc.isCoroutine = false
  gen : sc.isGenerator = false
  cell : ∀ x ∈ sc.names, x.2 ≠ .cell
  par : ∀ x ∈ ps, sc.names.lookup x = some .local
  free : ∀ x, sc.names.lookup x = some .free → x ∈ fr
  fre : ∀ x ∈ fr, sc.names.lookup x = some .free
  nd : (ps ++ fr).Nodup
end L2

namespace L2
open PySem PySem.Spec PyProof.Rows
/-- an object, known to the sign -/
def foO (ob : Obj) (a : Addr) : HO := .ext fun h => h.get? a = some ob
/-- a lambda is made: the table of the code around it has its code now -/
def tLam (T : Addr) (pos : Pos) (q : Str) (mk : Value → Addr → Value → Obj) : TE := fun σ H Q => LamAt T pos q H ∧ ∀ (a c : Addr) (pm ctv : Value) (H' : Hp), Same (hide T H) (hide T H') → H a = none → a ≠ c → H' T = some (.tbl #[rawInt pos.line, rawInt pos.col, .ref c]) → H' c = some (crO q c) →
  H' a = some (foO (mk pm c ctv) a) → Q (.ref a) H'
section
variable {X : Cx} {params : Arguments} {body : Expr} {sc : Scope} {pos : Pos} {c T : Addr}
end
end L2

namespace L2
open PySem PySem.Spec PyProof.Rows
/-! ### a wider base -/
def addB (base h : Heap) (as : List Addr) : Heap := PySem.W.hideAll h ((List.range h.objs.size).filter fun b => (base.get? b).isNone && !decide (b ∈ as))
theorem Inv.drop {X : Cx} {pins : List (Addr × Obj)} {σ : St} {H : Hp} {s : Shared} {a : Addr} {φ : Heap → Prop} (I : Inv X pins σ H s) (ea : H a = some (.ext φ)) : Inv X pins σ (hide a H) s := by
  have nn : ∀ b, H b = none → hide a H b = none := fun b n => by
    by_cases z : b = a
    · rw [z]; exact hide_self
    · rw [hide_ne z]; exact n
  have ne : ∀ b u, H b = some u → (∀ ψ, u ≠ .ext ψ) → hide a H b = some u := fun b u e n => by
    rw [hide_ne (fun z => by rw [z, ea] at e; exact n φ (Option.some.inj e).symm)]
    exact e
  refine ⟨I.ok, I.os, I.bare, ⟨I.base.keep, I.base.slot, fun b o e n hx => nn b (I.base.free b o e n hx), I.base.there, fun b xs e => ne b _ (I.base.tups b xs e) (fun _ z => nomatch z), fun b o xs e => ne b _ (I.base.frzs b o xs e) (fun _ z => nomatch z), fun b ps e => ?_⟩, I.loc, I.cell, nn _ I.free, fun x c e => nn c (I.freeC x c e), fun p hp => ?_, fun b u e => ?_, I.len⟩
  · obtain ⟨m, z⟩ := I.base.tbls b ps e
    exact ⟨m, ne b _ z (fun _ z => nomatch z)⟩
  · obtain ⟨z1, z2, z3⟩ := I.pin p hp
    exact ⟨z1, nn _ z2, z3⟩
  · obtain ⟨b1, b2⟩ := hide_some e
    exact (I.hok b u b2).stay (fun _ _ _ q => q) (fun c q => ne c _ q (fun _ z => nomatch z)) fun c xs q => ne c _ q (fun _ z => nomatch z)
/-- a def of the module, over each base -/
structure HasB (P : Program) (w : World) (K : PySem.W.Frag) (mg : Str → Option Value) (x : Str) (k : Nat) (ps : List Str) (sp : Heap → Sp) : Prop where
  ex : ∃ f fd, (∀ base : Heap, K.In base → base.Ns mainGlobals mg → FnOk P w K mg base CX0 k f fd ps (sp base)) ∧ Binds K fd ps [] ∧ PySem.W.keepIn K (.ref f) = true ∧ mg x = some (.ref f)
/-- what a wider base has: a function made here, and the cells of this frame -/
structure Wid (X : Cx) (σ : St) (a : Addr) (ob : Obj) (B : Heap) : Prop where
  kin : X.K.In B
  glb : B.Ns mainGlobals X.mg
  sub : ∀ b o, X.base.get? b = some o → B.get? b = some o
  fn : B.get? a = some ob
  cell : ∀ (i : Nat) x v, X.N[i]? = some x → σ[i]? = some (some v) → X.env.scope.names.lookup x = some .cell → ∃ c u, X.env.cells.lookup x = some c ∧ B.IsCell c (some u) ∧ RelV v u
  cells : ∀ x c, X.env.cells.lookup x = some c → ∃ v, B.IsCell c v
  inj : ∀ x y c, X.env.cells.lookup x = some c → X.env.cells.lookup y = some c → x = y
def tCallL (X : Cx) (sp : Heap → Sp) (t : TA) : TE := fun σ H Q => t σ H fun vs H1 => ∃ a ob, H1 a = some (foO ob a) ∧ ∀ B, Wid X σ a ob B → sp B vs (hide a H1) Q E0
section
variable {X : Cx} {j k : Nat} {ps : List Str} {sp : Heap → Sp} {x : Str} {p pos : Pos} {e : Expr} {es : List Expr} {t : TA}
end
end L2

namespace L2
open PySem PySem.Spec PyProof.Rows
/-- at the law's entry the tables in which lambdas are made are tracked -/
def entH (Ts : List Addr) (s : Hp) : Hp := fun b => if b ∈ Ts then some (.tbl #[]) else s b
end L2

namespace L2
open PySem PySem.Spec PyProof.Rows
/-- list(x) of a list or a tuple, the module's part given -/
def rListK (K : PySem.W.Frag) : List V → Hp → VK → Prop := fun xs H Q => ∃ p ys, xs = [.ref p] ∧ (SqL K H p ys ∨ SqT K H p ys) ∧ ∀ l, H l = none → Q (.ref l) (upd H l (.lst ys))
end L2

namespace L2
open PySem PySem.Spec PyProof.Rows
/-! ### zip of two lists, walked by a pair of names -/
def Itz (K : PySem.W.Frag) (a b : Addr) : It :=
  ⟨fun i H => ∃ xs ys x y, SqL K H a xs ∧ SqL K H b ys ∧ xs[i]? = some x ∧ ys[i]? = some y,
   fun i H u H' => ∃ T x y, u = .ref T ∧ H T = none ∧ H' = upd H T (.tup [x, y]) ∧ ∀ xs ys, SqL K H a xs → SqL K H b ys → xs[i]? = some x ∧ ys[i]? = some y,
   fun i H => ∃ xs ys, SqL K H a xs ∧ SqL K H b ys ∧ (xs.length ≤ i ∨ ys.length ≤ i)⟩
section
variable {X : Cx} {pins : List (Addr × Obj)} {σ : St} {H : Hp} {s : Shared} {h' : Heap}
theorem Inv.turnedL {t' : Nat} {ch : List Addr} (I : Inv X pins σ H s) (k : ∀ b o, b ∉ ch → s.heap.get? b = some o → h'.get? b = some o) (hc : ∀ b ∈ ch, FpOk X pins H b) : Inv X pins σ H { s with heap := h', toks := t' } := by
  have nit : ∀ b u, H b = some u → b ∉ ch := fun b u e z => by rw [(hc b z).1] at e; cases e
  refine I.step (g' := s.gens) (d' := s.drawn) (ch := ch) (fun b hb => ?_) (fun b o _ _ hc e _ => k b o hc e) (fun b o _ _ hc e _ => ⟨o.slots, k b o hc e⟩) (fun _ _ _ _ n => n) (fun b o hc e => ⟨o, k b o hc e⟩) (fun _ _ e => e) (fun _ _ _ e => e) (fun b ps e => ⟨#[], by rw [e]; simp⟩) (fun m hm => ?_) (fun b u e => ?_) I.bare
  · obtain ⟨f0, f1, f2, f3, f4, f5⟩ := hc b hb
    exact ⟨f3, f1, f4, f5⟩
  · obtain ⟨o, es, ep, ho, r⟩ := hm
    exact ⟨o, es, ep, k _ o (fun z => (hc _ z).2.1 rfl) ho, r⟩
  · refine (I.hok b u e).stay (fun c v hc q => k c v ?_ q) (fun _ q => q) fun _ _ q => q
    rcases hc with z | z
    · rw [z]; exact nit b u e
    · exact nit c _ z
theorem Inv.zipped {t' : Nat} {ch : List Addr} {T : Addr} {o : HO} (I : Inv X pins σ H s) (k : ∀ b o, b ∉ ch → s.heap.get? b = some o → h'.get? b = some o) (hc : ∀ b ∈ ch, FpOk X pins H b) (hT : s.heap.objs.size ≤ T) (new : ObjOk X.prog X.w (upd H T o) h' T o) : Inv X pins σ (upd H T o) { s with heap := h', toks := t' } := by
  have hn := I.hok.fresh hT
  have nit : ∀ b u, H b = some u → b ∉ ch := fun b u e z => by rw [(hc b z).1] at e; cases e
  have up : ∀ {b : Addr} {u : HO}, H b = some u → upd H T o b = some u := fun {b u} e => by rw [upd_ne (ne_of_none e hn)]; exact e
  refine I.step (g' := s.gens) (d' := s.drawn) (ch := ch) (fun b hb => ?_) (fun b o _ _ hc e _ => k b o hc e) (fun b o _ _ hc e _ => ⟨o.slots, k b o hc e⟩) (fun b o' _ e n => ?_) (fun b o hc e => ⟨o, k b o hc e⟩) (fun _ _ e => up e) (fun _ _ _ e => up e) (fun b ps e => ⟨#[], by rw [up e]; simp⟩) (fun m hm => ?_) (fun b u e => ?_) I.bare
  · obtain ⟨f0, f1, f2, f3, f4, f5⟩ := hc b hb
    exact ⟨f3, f1, f4, f5⟩
  · rw [upd_ne (Nat.ne_of_lt (Nat.lt_of_lt_of_le (Heap.lt_size e) hT))]
    exact n
  · obtain ⟨o, es, ep, ho, r⟩ := hm
    exact ⟨o, es, ep, k _ o (fun z => (hc _ z).2.1 rfl) ho, r⟩
  · by_cases hb : b = T
    · subst hb
      rw [upd_same] at e
      cases e
      exact new
    · rw [upd_ne hb] at e
      refine (I.hok b u e).stay (fun c v hc q => k c v ?_ q) (fun _ q => up q) fun _ _ q => up q
      rcases hc with z | z
      · rw [z]; exact nit b u e
      · exact nit c _ z
end
abbrev zipTn (z TI TO i1 i2 l1 l2 : Addr) : Nat → Heap → Prop := fun i h => IsZip h z TI TO .none ∧ IsPair h TI (.ref i1) (.ref i2) ∧ (∃ a b, IsPair h TO a b) ∧ h.IsListIter i1 l1 i ∧ h.IsListIter i2 l2 i
theorem turn_zip {P : Program} {w : World} {K : PySem.W.Frag} {elts : List Expr} {k : Nat} {pos : Pos} {z TI TO i1 i2 l1 l2 : Addr} (D : ZipApart z TI TO i1 i2 l1 l2) : Turn P w K (.Tuple elts k pos) (Itz K l1 l2) [z, TI, TO, i1, i2] z (zipTn z TI TO i1 i2 l1 l2) where
  mem := by simp
  obj := fun i h st b hb => by
    obtain ⟨hz, hTI, ⟨a', b', hTO⟩, ⟨o1, e1, c1, d1⟩, o2, e2, c2, d2⟩ := st
    simp only [List.mem_cons, List.not_mem_nil, or_false] at hb
    rcases hb with rfl | rfl | rfl | rfl | rfl
    · exact ⟨_, hz, fun v q => (nomatch q)⟩
    · exact ⟨_, hTI, fun v q => (nomatch q)⟩
    · exact ⟨_, hTO, fun v q => (nomatch q)⟩
    · exact ⟨o1, e1, fun v q => by rw [d1] at q; cases q⟩
    · exact ⟨o2, e2, fun v q => by rw [d2] at q; cases q⟩
  keep := fun i h h' st kk => by
    obtain ⟨hz, hTI, ⟨a, b, hTO⟩, h1, h2⟩ := st
    exact ⟨kk z (by simp) _ hz, kk TI (by simp) _ hTI, ⟨a, b, kk TO (by simp) _ hTO⟩, h1.at fun o e => kk i1 (by simp) o e, h2.at fun o e => kk i2 (by simp) o e⟩
  item := by
    intro X hP hw hK hc i pins s σ H E I hf st hg
    subst hP hw hK
    obtain ⟨xs, ys, x, y, hq1, hq2, hx, hy⟩ := hg
    obtain ⟨its1, rv1, p1, hz1⟩ := I.list hq1
    obtain ⟨its2, rv2, p2, hz2⟩ := I.list hq2
    obtain ⟨u, hu, ru⟩ := rv1.get hx
    obtain ⟨v, hv, rv⟩ := rv2.get hy
    obtain ⟨hz, hTI, ⟨a, b, hTO⟩, h1, h2⟩ := st
    refine wpAny_pyNext_zip_item D hz hTI hTO h1 h2 p1.isList p2.isList (x := u) (y := v) (by simpa using hu) (by simpa using hv) fun h' a1 a2 a3 a4 a5 a6 hk => ?_
    refine ⟨_, rfl, ?_⟩
    refine wpAny_letOwnedTupleGo_zip (s := { s with heap := h' }) a1 fun h2' z' sb => ?_
    have lt : ∀ {c o}, s.heap.get? c = some o → c ≠ s.heap.objs.size := fun e => Nat.ne_of_lt (Heap.lt_size e)
    have Tz : s.heap.objs.size ≠ z := Ne.symm (lt hz)
    have l1' : i1 ≠ s.heap.objs.size := by obtain ⟨o, e, _⟩ := h1; exact lt e
    have l2' : i2 ≠ s.heap.objs.size := by obtain ⟨o, e, _⟩ := h2; exact lt e
    refine ⟨.ref s.heap.objs.size, upd H s.heap.objs.size (.tup [x, y]), ?_, rfl, ⟨s.heap.objs.size, x, y, rfl, I.hok.fresh (Nat.le_refl _), rfl, fun xs' ys' e1 e2 => ?_⟩, ?_, fun b hb => ?_⟩
    · refine I.zipped (t' := s.toks) (ch := [z, TI, TO, i1, i2]) (fun b o hb e => ?_) hf (Nat.le_refl _) ⟨by show (2 : Nat) ≤ sizeLine; decide, [u, v], .cons ru (.cons rv .nil), ?_⟩
      · simp only [List.mem_cons, List.not_mem_nil, or_false, not_or] at hb
        obtain ⟨b1, b2, b3, b4, b5⟩ := hb
        exact sb.extBut _ _ b1 (hk b o b1 b3 b4 b5 e)
      · exact ⟨_, sb.extBut _ _ Tz a5, ⟨rfl, rfl⟩, _, rfl⟩
    · rw [I.list_inj e1 hq1, I.list_inj e2 hq2]
      exact ⟨hx, hy⟩
    · exact ⟨z', sb.extBut _ _ D.TIz (hk _ _ D.TIz D.TITO D.TIi1 D.TIi2 hTI), ⟨_, _, sb.extBut _ _ D.TOz a2⟩, a3.extBut sb.extBut D.i1z, a4.extBut sb.extBut D.i2z⟩
    · have bn : b ≠ s.heap.objs.size := by
        simp only [List.mem_cons, List.not_mem_nil, or_false] at hb
        rcases hb with rfl | rfl | rfl | rfl | rfl
        · exact lt hz
        · exact lt hTI
        · exact lt hTO
        · exact l1'
        · exact l2'
      rw [upd_ne bn]
      exact (hf b hb).1
  done := by
    intro X hP hw hK hc i pins s σ H E I hf st hg
    subst hP hw hK
    obtain ⟨xs, ys, hq1, hq2, hx⟩ := hg
    obtain ⟨its1, rv1, p1, hz1⟩ := I.list hq1
    obtain ⟨its2, rv2, p2, hz2⟩ := I.list hq2
    obtain ⟨hz, hTI, ⟨a, b, hTO⟩, h1, h2⟩ := st
    have e1 := rv1.length
    have e2 := rv2.length
    refine wpAny_pyNext_zip_end (I.ok.hd hc) D hz hTI hTO h1 h2 p1.isList p2.isList ?_ fun h' hk => ⟨rfl, I.turnedL (t' := s.toks) (ch := [z, TI, TO, i1, i2]) (fun b o hb e => ?_) hf⟩
    · rcases hx with hx | hx
      · exact .inl (by simp; omega)
      · exact .inr (by simp; omega)
    · simp only [List.mem_cons, List.not_mem_nil, or_false, not_or] at hb
      obtain ⟨b1, b2, b3, b4, b5⟩ := hb
      exact hk b o b1 b3 b4 b5 e
  self := fun _ _ _ _ _ st h => wpAny_pyIter_zip st.1 h
def iZip (K : PySem.W.Frag) (ta : TA) : TI := fun σ H R => ta σ H fun vs H1 => ∃ a b, vs = [.ref a, .ref b] ∧ (∃ xs, SqL K H1 a xs) ∧ (∃ ys, SqL K H1 b ys) ∧ R (Itz K a b) H1
theorem pi_zip {X : Cx} {elts : List Expr} {n : Nat} {tp : Pos} {a b : Expr} {ta : TA} {p pos : Pos} (hg : Gl X "zip") (hm : X.mg "zip" = none) (ha : PA X [a, b] ta) (hs : starEach [a, b] X.env = [(false, eval a X.env), (false, eval b X.env)] := by rfl) (hs2 : starEach [b] X.env = [(false, eval b X.env)] := by rfl) :
    PI X (.Tuple elts n tp) (.Call (.Name "zip" p) [a, b] [] pos) (iZip X.K ta) := by
  intro pins s σ H R I h
  refine Call_ (ld_blt I hg hm boot_zip (PyProof.Rows.callWith_type1 (thn (ha pos pins s σ H _ I h) fun us s1 ⟨vs, H1, I1, r1, q1⟩ => ?_) (by rw [hs, hs2]) (by rw [hs2]; rfl)))
  obtain ⟨l1, l2, e, ⟨xs, hq1⟩, ⟨ys, hq2⟩, q⟩ := q1
  subst e
  cases r1 with
  | cons r rr =>
    cases rr with
    | cons r' rr =>
      cases rr
      cases r
      cases r'
      obtain ⟨its1, rv1, p1, hz1⟩ := I1.list hq1
      obtain ⟨its2, rv2, p2, hz2⟩ := I1.list hq2
      have lt1 : l1 < s1.heap.objs.size := by obtain ⟨o, e, _⟩ := p1.isList; exact Heap.lt_size e
      have lt2 : l2 < s1.heap.objs.size := by obtain ⟨o, e, _⟩ := p2.isList; exact Heap.lt_size e
      have D : ZipApart (s1.heap.objs.size + 4) (s1.heap.objs.size + 2) (s1.heap.objs.size + 3) s1.heap.objs.size (s1.heap.objs.size + 1) l1 l2 := by constructor <;> (unfold Addr at *; omega)
      refine call_zip_2 p1.isList p2.isList fun h' c1 c2 c3 c4 c5 c6 hk => ?_
      refine wpAny_pyIter_zip (s := { s1 with heap := h' }) c1 ?_
      refine ⟨_, [_, _, _, _, _], _, _, H1, rfl, I1.kept (t' := s1.toks) hk, turn_zip D, ⟨c1, c2, ⟨_, _, c3⟩, c4, c5⟩, fun b hb => ?_, q⟩
      have hb' : s1.heap.objs.size ≤ b := by
        simp only [List.mem_cons, List.not_mem_nil, or_false] at hb
        rcases hb with rfl | rfl | rfl | rfl | rfl
        · exact Nat.le_add_right _ _
        · exact Nat.le_add_right _ _
        · exact Nat.le_add_right _ _
        · exact Nat.le_refl _
        · exact Nat.le_add_right _ _
      exact I1.fpOk hb' (I1.hok.fresh hb')
/-- a comprehension over the pairs of two lists -/
theorem comp_zip {K : PySem.W.Frag} {a b : Addr} {xs zs : List V} {k : Nat} {g : TG} {tt : TT} {te : TE} {σ : St} {H : Hp} {Q : VK} (Pv : Nat → List V → Hp → Prop) (h0 : Pv 0 [] H) (hl : ∀ i ys H, i ≤ min xs.length zs.length → Pv i ys H → SqL K H a xs ∧ SqL K H b zs)
    (hs : ∀ i x z ys H (T : Addr) (C : List V → Hp → Prop), xs[i]? = some x → zs[i]? = some z → Pv i ys H → H T = none → (∀ ys' H', Pv (i + 1) ys' H' → C ys' H') → ys.length < sizeLine ∧ g (.ref T) (List.replicate k none ++ σ) (upd H T (.tup [x, z])) fun σ2 H2 => Wk σ2 (List.replicate k none ++ σ) ∧ tt σ2 H2 fun ok H3 =>
      if ok = true then te σ2 H3 fun y H4 => C (ys ++ [y]) H4 else C ys H3)
    (hlen : ∀ i ys H, i < min xs.length zs.length → Pv i ys H → ys.length < sizeLine)
    (hd : ∀ ys H, Pv (min xs.length zs.length) ys H → ys.length ≤ sizeLine ∧ ∀ p, H p = none → Q (.ref p) (upd H p (.lst ys))) :
    CompR (Itz K a b) H k g tt te σ Q := by
  refine ⟨fun i m ys H => m = min xs.length zs.length - i ∧ i ≤ min xs.length zs.length ∧ Pv i ys H, ⟨min xs.length zs.length, by simp, Nat.zero_le _, h0⟩, ?_⟩
  rintro i m ys H ⟨rfl, hi, p⟩
  obtain ⟨q1, q2⟩ := hl i ys H hi p
  by_cases hlt : i < min xs.length zs.length
  · refine .inr ⟨⟨xs, zs, xs[i]'(by omega), zs[i]'(by omega), q1, q2, List.getElem?_eq_getElem _, List.getElem?_eq_getElem _⟩, hlen i ys H hlt p, ?_⟩
    rintro _ _ ⟨T, x, z, rfl, nT, rfl, hy⟩
    obtain ⟨e1, e2⟩ := hy xs zs q1 q2
    exact (hs i x z ys H T (fun ys' H' => ∃ m', m' < min xs.length zs.length - i ∧ m' = min xs.length zs.length - (i + 1) ∧ i + 1 ≤ min xs.length zs.length ∧ Pv (i + 1) ys' H') e1 e2 p nT (fun ys' H' h => ⟨_, by omega, rfl, hlt, h⟩)).2
  · have e : i = min xs.length zs.length := Nat.le_antisymm hi (Nat.le_of_not_lt hlt)
    subst e
    exact .inl ⟨⟨xs, zs, q1, q2, by omega⟩, hd ys H p⟩
end L2

namespace L2
open PySem PySem.Spec PyProof.Rows
/-- x is not True, of a truth -/
theorem op_notT {X : Cx} : OpR X (compareOp .IsNot) (fun x y H Q => ∃ k : Bool, x = .bl k ∧ y = .bl true ∧ Q (.bl (!k)) H) := by
  intro pins s σ H x y v u Q I rx ry h
  obtain ⟨k, rfl, rfl, q⟩ := h
  cases rx
  cases ry
  exact wpAny_isNot_plain (by cases k <;> rfl) (fin_bl I q (by cases k <;> rfl))
end L2
namespace L2
open PySem PySem.Spec PyProof.Rows
/-- a row under other names -/
def sRen (N N' : List Str) (t : TS) : TS := fun D σ H => Hid N N' σ ∧ t { nx := fun σ' H' => Hid N N' σ' ∧ D.nx σ' H', rt := fun _ _ => False } σ H
end L2

namespace L2
open PySem PySem.Spec PyProof.Rows
def insSpec (l : Addr) (items : Array Value) (n : Nat) (x : Int) (y : Value) : PySem.Spec := fun _ R s => s.heap.get? l = some { cls := .type "list", dict := none, data := .seq items n, slots := #[] } ∧ R (.ok (.ret Value.none)) { s with heap := s.heap.update l (Obj.mapSeq fun xs => have k := if x < 0 then (x + (xs.size : Int)).toNat else min x.toNat xs.size; (xs.extract 0 k).push y ++ xs.extract k), toks := s.toks }
section
variable {X : Cx}
/-- xs.insert(i, y), i from 0 to how many there are -/
def rInsert : V → List V → Hp → VK → Prop := fun x vs H Q => ∃ (l : Addr) (xs : List V) (i : Nat) (y : V), x = .ref l ∧ vs = [.int i, y] ∧ H l = some (.lst xs) ∧ i ≤ xs.length ∧ xs.length < sizeLine ∧ i < 1000000 ∧ Q .non (upd H l (.lst (xs.take i ++ y :: xs.drop i)))
end
end L2

namespace L2
open PySem PySem.Spec PyProof.Rows

/-! ### a pen that holds the script itself: the script's address, the place, what is left -/
theorem Sq_same {K : PySem.W.Frag} {H H' : Hp} {a : Addr} {xs : List V} (s : Same H H') (h : SqL K H a xs) : SqL K H' a xs := by
  rcases h with h | h
  · rcases h with h | ⟨o, h⟩
    · exact .inl (.inl (s _ _ h))
    · exact .inl (.inr ⟨o, s _ _ h⟩)
  · exact .inr h
structure Pn (K : PySem.W.Frag) (S : Addr) (ns : List Int) (H : Hp) (a : Addr) : Prop where
  at_ : ∃ i r : Int, H a = some (.lst [.ref S, .int i, .int r])
  scr : SqL K H S (ns.map V.int)
  few : ns.length ≤ 63
section
variable {K : PySem.W.Frag} {S : Addr} {ns : List Int} {H H' : Hp} {a p : Addr}
theorem Pn.same (h : Pn K S ns H a) (g : Same H H') : Pn K S ns H' a := by
  obtain ⟨⟨i, r, e⟩, s, f⟩ := h
  exact ⟨⟨i, r, g _ _ e⟩, Sq_same g s, f⟩
theorem Pn.laid {o : HO} (h : Pn K S ns H a) (hp : H p = none) : Pn K S ns (upd H p o) a := h.same (same_laid hp o)
theorem Pn.ne (h : Pn K S ns H a) (hp : H p = none) : p ≠ a := by
  obtain ⟨⟨i, r, e⟩, _⟩ := h
  exact fun q => by rw [q, e] at hp; cases hp
theorem Pn.grw (h : Pn K S ns H a) (g : Same H H') : Grw a H H' := by
  obtain ⟨⟨i, r, e⟩, _⟩ := h
  exact grw_same e g
theorem Pn.upd (h : Pn K S ns H a) (i r : Int) : Pn K S ns (upd H a (.lst [.ref S, .int i, .int r])) a := by
  obtain ⟨⟨i0, r0, e⟩, s, f⟩ := h
  refine ⟨⟨i, r, upd_same⟩, ?_, f⟩
  rcases s with (s | ⟨o, s⟩) | s
  · refine .inl (.inl ?_)
    rw [upd_ne ?_]
    · exact s
    · intro z
      rw [z, e] at s
      cases ns with
      | nil => cases s
      | cons n ns => cases s
  · refine .inl (.inr ⟨o, ?_⟩)
    rw [upd_ne ?_]
    · exact s
    · intro z
      rw [z, e] at s
      cases s
  · exact .inr s
/-- a tuple is no pen -/
theorem Pn.tup {xs : List V} (h : Pn K S ns H a) (e : H p = some (.tup xs)) : hide a H p = some (.tup xs) := by
  obtain ⟨⟨i, r, e0⟩, _⟩ := h
  rw [hide_ne (fun z => by rw [z, e0] at e; cases e)]
  exact e
end
end L2

namespace L2
open PySem PySem.Spec PyProof.Rows

/-! ### the table of a set: places that rise -/
abbrev Ris (ps : Array Nat) : Prop := ps.toList.Pairwise (· < ·)
theorem ris_get {ps : Array Nat} (h : Ris ps) {i k : Nat} (hik : i < k) (hk : k < ps.size) : ps[i]'(by omega) < ps[k] := by
  have := List.pairwise_iff_getElem.mp h i k (by rw [Array.length_toList]; omega) (by rw [Array.length_toList]; exact hk) hik
  simpa using this
/-- how many places are below j, as the halving finds it -/
structure Cut (ps : Array Nat) (j b : Nat) : Prop where
  le : b ≤ ps.size
  lo : ∀ i (h : i < ps.size), i < b → ps[i] < j
  hi : ∀ i (h : i < ps.size), b ≤ i → j ≤ ps[i]
theorem cut_mem {ps : Array Nat} {j b : Nat} (h : Ris ps) (c : Cut ps j b) (hm : j ∈ ps.toList) : ps[b]? = some j := by
  obtain ⟨k, hk, e⟩ := List.mem_iff_getElem.mp hm
  rw [Array.length_toList] at hk
  have e : ps[k] = j := by simpa using e
  have kb : b ≤ k := by
    by_cases q : k < b
    · have := c.lo k hk q; omega
    · omega
  have bk : b = k := by
    by_cases q : b = k
    · exact q
    · have h1 := ris_get h (i := b) (k := k) (by omega) hk
      have h2 := c.hi b (by omega) (Nat.le_refl _)
      omega
  subst bk
  rw [Array.getElem?_eq_getElem hk, e]
/-- a table that a walk may trust -/
structure Gd (t : SetTable) (b : Bool) : Prop where
  ris : Ris t.place
  dum : t.dummies = #[]
  led : t.led = b
end L2

namespace L2
open PySem PySem.Spec PyProof.Rows

instance decMemKey (k : Key) (ks : List Key) : Decidable (k ∈ ks) := @List.instDecidableMemOfLawfulBEq Key instBEqOfDecidableEq inferInstance k ks
/-! ### a set of keys, each once, whose table a walk may trust -/
def KeyE (P : Program) (w : World) (e : Int × Value) (k : Key) : Prop := (mixKind P w).is k e.2 = true ∧ e.1 = (mixKind P w).hash k ∧ e.2.scannable = true
def SetG (P : Program) (w : World) (h : Heap) (a : Addr) (ks : List Key) : Prop :=
  ∃ o es ep t, h.get? a = some o ∧ o.ExactSet ∧ o.data = .set es ep t ∧ (∃ fs, es.toList.Perm fs ∧ Paired (KeyE P w) fs ks) ∧ t.fits es.size = true ∧ Gd t (!w.params.followText "set-order") ∧ ks.Nodup
theorem Paired.snoc {α β : Type} {F : α → β → Prop} {x : α} {y : β} (f : F x y) : ∀ {xs : List α} {ys : List β}, Paired F xs ys → Paired F (xs ++ [x]) (ys ++ [y])
  | _, _, .nil => .cons f .nil
  | _, _, .cons g r => .cons g (Paired.snoc f r)
section
variable {prog : Program} {w : World} {A : Around} {E : Value → Shared → Prop} {s : Shared} {a : Addr} {ks : List Key}
end
end L2

namespace L2
open PySem PySem.Spec PyProof.Rows
def ddK : List Key → List Key → List Key
  | acc, [] => acc
  | acc, k :: r => ddK (if k ∈ acc then acc else acc ++ [k]) r
section
variable {prog : Program} {w : World} {A : Around} {E : Value → Shared → Prop} {s : Shared}
abbrev bareSetG (w : World) : Obj := { cls := .type "set", dict := none, data := .set #[] 0 (.fresh 0 0 (!w.params.followText "set-order")) }
end
section
variable {prog : Program} {w : World} {A : Around} {R : Result → Shared → Prop} {I : Addr} {fp wr : List Addr} {n : Nat} {P : Nat → Value → Prop} {St : Nat → Heap → Prop}
end
section
variable {prog : Program} {w : World} {A : Around} {E : Value → Shared → Prop} {s : Shared}
end
/-- a set of ints and texts that nothing changes -/
def keySet (prog : Program) (w : World) (a : Addr) (ks : List Key) : HO := .ext fun h => SetG prog w h a ks
section
variable {X : Cx}
end
end L2

namespace L2
open PySem PySem.Spec PyProof.Rows
section
variable {prog : Program} {w : World} {A : Around} {E : Value → Shared → Prop} {s : Shared}
/-- the object of a walk over the set at a -/
abbrev sitO (first : Value) (i : Nat) (a : Addr) (n ep : Nat) : Obj := { cls := .type "set_iterator", data := .fields #[first, .int i 0, .ref a, .int n 0, .int ep 0] }
variable {a : Addr} {o : Obj} {es : Array (Int × Value)} {ep : Nat} {t : SetTable}
end
end L2

namespace L2
open PySem PySem.Spec PyProof.Rows
section
variable {prog : Program} {w : World} {A : Around} {E : Value → Shared → Prop} {s : Shared}
end
/-! ### the walk by places -/
def slotAt (ps : Array Nat) : Nat → Nat
  | 0 => 0
  | i + 1 => ps.getD i 0 + 1
section
variable {prog : Program} {w : World} {A : Around} {a it : Addr} {o : Obj} {es : Array (Int × Value)} {ep : Nat} {t : SetTable}
abbrev plO (ord : List Nat) : Obj := { cls := .type "tuple", data := .seq (ord.map fun i => rawInt (i : Nat)).toArray }
end
end L2

namespace L2
open PySem PySem.Spec PyProof.Rows
def IsK (P : Program) (w : World) (v : Value) (k : Key) : Prop := (mixKind P w).is k v = true
section
variable {prog : Program} {w : World} {A : Around} {E : Value → Shared → Prop} {s : Shared} {a : Addr} {ks : List Key}
def ColSet (P : Program) (w : World) (s : Shared) (ks : List Key) (q : Result) (s' : Shared) : Prop :=
  ∃ (g : Heap) (tk c : Nat) (d : Drawn) (xs : Array Value), q = .ok (.ret (.ref s.heap.objs.size)) ∧ s' = { s with heap := g, toks := tk, drawn := d } ∧ (∀ b o, s.heap.get? b = some o → g.get? b = some o) ∧ g.get? s.heap.objs.size = some { cls := .type "list", dict := none, data := .seq xs c, slots := #[] } ∧ (∃ ks', ks'.Perm ks ∧ Paired (IsK P w) xs.toList ks')
end
end L2

namespace L2
open PySem PySem.Spec PyProof.Rows
section
variable {X : Cx}
/-- sorted(s) of a set of texts -/
def rSortSS (P : Program) (w : World) : List V → Hp → VK → Prop := fun xs H Q => ∃ (d : Addr) (zs : List Str), xs = [.ref d] ∧ H d = some (keySet P w d (zs.map Sum.inr)) ∧ zs.length < 64 ∧ ∀ p, H p = none → Q (.ref p) (upd H p (.lst ((srtS zs).map V.str)))
/-- sorted(s) of a set of ints -/
def rSortSI (P : Program) (w : World) : List V → Hp → VK → Prop := fun xs H Q => ∃ (d : Addr) (ns : List Int), xs = [.ref d] ∧ H d = some (keySet P w d (ns.map Sum.inl)) ∧ ns.length < 64 ∧ ∀ p, H p = none → Q (.ref p) (upd H p (.lst ((srtI ns).map V.int)))
end
/-! ### the distinct ones of a list -/
def uniS (zs : List Str) : List Str := (ddK [] (zs.map Sum.inr)).filterMap Sum.getRight?
def uniI (ns : List Int) : List Int := (ddK [] (ns.map Sum.inl)).filterMap Sum.getLeft?
section
variable {X : Cx}
end
end L2

namespace L2
open PySem PySem.Spec PyProof.Rows
section
variable {X : Cx} {pins : List (Addr × Obj)} {σ : St} {H : Hp} {s : Shared}
/-- d.values(), the dict frozen or not -/
def rViewR (w : Addr → Addr → HO) : V → List V → Hp → VK → Prop := fun x vs H Q => ∃ d kvs, x = .ref d ∧ vs = [] ∧ Rd H d (.dK kvs) ∧ ∀ a, H a = none → Q (.ref a) (upd H a (w a d))
def tVals (to : TE) : TE := fun σ H Q => to σ H fun x H1 => ∃ d kvs, x = .ref d ∧ Rd H1 d (.dK kvs) ∧ ∀ a, H1 a = none → Q (.ref a) (upd H1 a (vView a d))
/-! ### the values of a dict, walked -/
def Itv (d : Addr) (kvs : List (Key × V)) (o : Obj) : It := ⟨fun i H => i < kvs.length ∧ H d = some (.frz o (.dK kvs)), fun i H x H' => H' = H ∧ ∃ p, kvs[i]? = some p ∧ x = p.2, fun i H => kvs.length ≤ i ∧ H d = some (.frz o (.dK kvs))⟩
def iVals (tl : TE) : TI := fun σ H R => tl σ H fun x H1 => ∃ (v d : Addr) (o : Obj) (kvs : List (Key × V)), x = .ref v ∧ H1 v = some (vView v d) ∧ H1 d = some (.frz o (.dK kvs)) ∧ R (Itv d kvs o) H1
/-- sorted(d.values()) -/
def rSortV : List V → Hp → VK → Prop := fun xs H Q => ∃ (v d : Addr) (kvs : List (Key × V)) (ns : List Int), xs = [.ref v] ∧ H v = some (vView v d) ∧ H d = some (.dK kvs) ∧ kvs.map (·.2) = ns.map V.int ∧ ns.length < 64 ∧ ∀ p, H p = none → Q (.ref p) (upd H p (.lst ((srtI ns).map V.int)))
end
end L2

namespace L2
open PySem PySem.Spec PyProof.Rows
/-! ### bunches of a merging -/
abbrev Bn := List Str × Int
def bnD (b : Bn) : PyData := .tuple [.tuple (b.1.map PyData.str), .int b.2]
def papD (bs : List Bn) : PyData := .list (bs.map bnD)
def lvls (room : Int) (ps qs : Ps) : List Int := srtI (uniI ((keysM ps qs).map fun z => min (sumM ps qs z) (cutT room ps qs)))
def marksAt (ps qs : Ps) (v : Int) : List Str := (srtS (keysM ps qs)).filter fun z => decide (v ≤ sumM ps qs z)
def bunI (ps qs : Ps) (l : List Int) (i : Nat) : Bn := (marksAt ps qs (l.getD i 0), l.getD i 0 - (0 :: l).getD i 0)
def bunL (ps qs : Ps) (l : List Int) (n : Nat) : List Bn := (List.range n).map (bunI ps qs l)
def bunsT (a b : Ty) : List Bn := if cutT a.room a.cs b.cs = 0 then [] else bunL a.cs b.cs (lvls a.room a.cs b.cs) (lvls a.room a.cs b.cs).length
theorem sum_pos {a b : Ty} (h : a.Ok) (g : b.Ok) {z : Str} (hz : z ∈ keysM a.cs b.cs) : 1 ≤ sumM a.cs b.cs z := by
  have n1 := look_nn (fun p hp => h.pos p hp) z
  have n2 := look_nn (fun p hp => g.pos p hp) z
  unfold sumM
  rcases keysM_mem.mp hz with q | q
  · have := look_pos (fun p hp => h.pos p hp) h.nd q
    omega
  · have := look_pos (fun p hp => g.pos p hp) g.nd q
    omega
def BnW (b : Bn) : Prop := (∀ z ∈ b.1, z ∈ words) ∧ b.1.length ≤ 40
/-- bunches laid in the heap -/
inductive BnsAt (H : Hp) : List V → List Bn → Prop
  | nil : BnsAt H [] []
  | cons {a c : Addr} {xs : List V} {b : Bn} {bs : List Bn} (h : H a = some (.tup [.ref c, .int b.2])) (e : H c = some (.tup (b.1.map V.str))) (r : BnsAt H xs bs) : BnsAt H (.ref a :: xs) (b :: bs)
theorem BnsAt.mono {H H' : Hp} (g : Same H H') : ∀ {xs : List V} {bs : List Bn}, BnsAt H xs bs → BnsAt H' xs bs
  | _, _, .nil => .nil
  | _, _, .cons h e r => .cons (g _ _ h) (g _ _ e) (r.mono g)
theorem BnsAt.append {H : Hp} : ∀ {xs ys : List V} {bs cs : List Bn}, BnsAt H xs bs → BnsAt H ys cs → BnsAt H (xs ++ ys) (bs ++ cs)
  | _, _, _, _, .nil, s => s
  | _, _, _, _, .cons h e r, s => .cons h e (r.append s)
theorem BnsAt.length {H : Hp} : ∀ {xs : List V} {bs : List Bn}, BnsAt H xs bs → xs.length = bs.length
  | _, _, .nil => rfl
  | _, _, .cons _ _ r => congrArg (· + 1) r.length
theorem strs_dvs {H : Hp} : ∀ zs : List Str, DVs H (zs.map V.str) (zs.map PyData.str)
  | [] => .nil
  | z :: zs => .cons (.str z) (strs_dvs zs)
theorem BnsAt.dvs {H : Hp} : ∀ {xs : List V} {bs : List Bn}, BnsAt H xs bs → DVs H xs (bs.map bnD)
  | _, _, .nil => .nil
  | _, _, .cons (b := b) h e r => .cons (.tup h (.cons (.tup e (strs_dvs b.1)) (.cons (.int _) .nil))) r.dvs
theorem BnsAt.get {H : Hp} : ∀ {xs : List V} {bs : List Bn}, BnsAt H xs bs → ∀ {i : Nat} {x : V}, xs[i]? = some x → ∃ (a c : Addr) (b : Bn), x = .ref a ∧ bs[i]? = some b ∧ H a = some (.tup [.ref c, .int b.2]) ∧ H c = some (.tup (b.1.map V.str))
  | _, _, .nil, i, x, hx => by simp at hx
  | _, _, .cons (a := a) (c := c) (b := b) h e r, 0, x, hx => by
    have : V.ref a = x := by simpa using hx
    subst this
    exact ⟨a, c, b, rfl, rfl, h, e⟩
  | _, _, .cons h e r, i + 1, x, hx => by
    obtain ⟨a, c, b, h1, h2, h3, h4⟩ := r.get (i := i) (x := x) (by simpa using hx)
    exact ⟨a, c, b, h1, by simpa using h2, h3, h4⟩
/-- a paper at p -/
def PapAt (H : Hp) (p : Addr) (bs : List Bn) : Prop := ∃ xs, H p = some (.lst xs) ∧ BnsAt H xs bs
theorem PapAt.mono {H H' : Hp} {p : Addr} {bs : List Bn} (h : PapAt H p bs) (g : Same H H') : PapAt H' p bs := by
  obtain ⟨xs, e, r⟩ := h
  exact ⟨xs, g _ _ e, r.mono g⟩
theorem PapAt.dv {H : Hp} {p : Addr} {bs : List Bn} (h : PapAt H p bs) : DV H (.ref p) (papD bs) := by
  obtain ⟨xs, e, r⟩ := h
  exact .lst e r.dvs
end L2

namespace L2
open PySem PySem.Spec PyProof.Rows
/-! ### try: y = f(..) except S: suite -/
def tTryA (K : PySem.W.Frag) (S : Addr) (sp : Sp) (i : Nat) (ta : TA) (tb : TS) : TS := fun D σ H => ta σ H fun vs H1 => sp vs H1 (fun v H2 => D.nx (σ.set i (some v)) H2) (fun cv _ H2 => ∃ C, cv = .ref C ∧ PySem.W.exmOne K (.ref C) (.ref S) = some true ∧
  ∀ a, H2 a = none → tb { nx := D.nx, rt := fun _ _ => False } σ (upd H2 a (xo C a)))
section
variable {X : Cx} {x c n : Str} {p pos cpos epos np ap hpos : Pos} {e : Expr} {es : List Expr} {ta : TA} {tb : TS} {b₀ : Stmt} {suite : List Stmt} {j k i : Nat} {ps : List Str} {sp : Sp} {S : Addr}
end
end L2

namespace L2
open PySem PySem.Spec PyProof.Rows
/-! ### == of two dicts whose values are ints -/
section
variable {P : Program} {w : World} {A : Around} {E : Value → Shared → Prop} {s : Shared} {a b : Addr} {va vb : List (Key × Value)}
def intV : Value → Option Int
  | .int n _ => some n
  | _ => none
/-- whether a pair stands in the other one, too -/
def hasP (vb : List (Key × Value)) (p : Key × Value) : Bool := decide ((valueAt vb p.1).bind intV = intV p.2)
/-- d == e, both from texts to ints -/
def rEqDS : R2 := fun x y H Q => ∃ a b ps qs, x = .ref a ∧ y = .ref b ∧ H a = some (.dK (kvOf ps)) ∧ H b = some (.dK (kvOf qs)) ∧ Q (.bl (decide (ps.length = qs.length) && ps.all fun p => decide (p ∈ qs))) H
end
end L2

namespace L2
open PySem PySem.Spec PyProof.Rows
/-! ### zip of two tuples -/
section
variable {P : Program} {w : World} {A : Around} {E : Value → Shared → Prop} {s : Shared}
/-- the heap behind zip(t1, t2) -/
abbrev zt1 (h : Heap) (t1 : Addr) : Heap := h.push { cls := .type "tuple_iterator", data := .fields #[.ref t1, .int 0 0] }
abbrev zt2 (h : Heap) (t1 t2 : Addr) : Heap := (zt1 h t1).push { cls := .type "tuple_iterator", data := .fields #[.ref t2, .int 0 0] }
abbrev zt3 (h : Heap) (t1 t2 : Addr) : Heap := (zt2 h t1 t2).push { cls := .type "tuple", data := .seq #[.ref h.objs.size, .ref (zt1 h t1).objs.size] }
abbrev zt4 (h : Heap) (t1 t2 : Addr) : Heap := (zt3 h t1 t2).push { cls := .type "tuple", data := .seq #[.none, .none] }
abbrev zt5 (h : Heap) (t1 t2 : Addr) : Heap := (zt4 h t1 t2).push { cls := .type "zip", data := .fields #[.none, .bool false, .bool false, .ref (zt2 h t1 t2).objs.size, .ref (zt3 h t1 t2).objs.size] }
end
def Itzt (K : PySem.W.Frag) (a b : Addr) : It :=
  ⟨fun i H => ∃ xs ys x y, SqT K H a xs ∧ SqT K H b ys ∧ xs[i]? = some x ∧ ys[i]? = some y,
   fun i H u H' => ∃ T x y, u = .ref T ∧ H T = none ∧ H' = upd H T (.tup [x, y]) ∧ ∀ xs ys, SqT K H a xs → SqT K H b ys → xs[i]? = some x ∧ ys[i]? = some y,
   fun i H => ∃ xs ys, SqT K H a xs ∧ SqT K H b ys ∧ (xs.length ≤ i ∨ ys.length ≤ i)⟩
abbrev ztTn (z TI TO i1 i2 l1 l2 : Addr) : Nat → Heap → Prop := fun i h => IsZip h z TI TO .none ∧ IsPair h TI (.ref i1) (.ref i2) ∧ (∃ a b, IsPair h TO a b) ∧ h.IsTupleIter i1 l1 i ∧ h.IsTupleIter i2 l2 i
def iZipT (K : PySem.W.Frag) (ta : TA) : TI := fun σ H R => ta σ H fun vs H1 => ∃ a b, vs = [.ref a, .ref b] ∧ (∃ xs, SqT K H1 a xs) ∧ (∃ ys, SqT K H1 b ys) ∧ R (Itzt K a b) H1
end L2

namespace L2
open PySem PySem.Spec PyProof.Rows
section
variable {prog : Program} {w : World} {A : Around} {E : Value → Shared → Prop} {s : Shared}
end
/-- a range object from 0 on -/
def rngO (a : Addr) (n : Int) : HO := .ext fun h => ∃ t u v, IsRange h a 0 n 1 t u v
section
variable {X : Cx}
/-- t + u of two tracked tuples, whichever is empty -/
def rCatG : R2 := fun x y H Q => ∃ a b xs ys, x = .ref a ∧ y = .ref b ∧ H a = some (.tup xs) ∧ H b = some (.tup ys) ∧ xs.length + ys.length ≤ 1000000 ∧ ∀ (c : Addr) (H' : Hp), Same H H' → H' c = some (.tup (xs ++ ys)) → Q (.ref c) H'
theorem op_catG : OpR X (binaryOp .Add) rCatG := by
  intro pins s σ H x y v u Q I rx ry h
  obtain ⟨a, b, xs, ys, rfl, rfl, ha, hb, hz, q⟩ := h
  by_cases hx : xs = []
  · subst hx
    cases rx
    cases ry
    obtain ⟨its, r1, p1, _⟩ := I.tuple (SqT.of ha)
    obtain ⟨its2, r2, p2, _⟩ := I.tuple (SqT.of hb)
    obtain ⟨⟨cls, dd, data, sl⟩, ho, hc, n, hd⟩ := id p1
    obtain ⟨⟨cls2, dd2, data2, sl2⟩, ho2, hc2, n2, hd2⟩ := id p2
    simp only at hc hd hc2 hd2
    subst hc hd hc2 hd2
    have e0 : its = [] := r1.nil_iff.mpr rfl
    exact concat_meets ⟨_, ho, rfl⟩ ⟨_, ho2, rfl⟩ noFill_tuple_add seq_tuple_add PySem.F.slot_tuple_add PySem.F.entry_tuple_add (PySem.F.args_tuple_add_2 _ _)
      (tuple_addW0 a b its.toArray its2.toArray n n2 dd dd2 sl sl2 (by rw [e0]; rfl)) ⟨ho, ho2, .ref b, H, I, rfl, q b H (Same.refl _) hb⟩
  · refine op_catT pins s σ H _ _ v u Q I rx ry ⟨a, b, xs, ys, rfl, rfl, SqT.of ha, SqT.of hb, hx, small_le hz, fun e => ?_, fun _ p np => q p _ (same_laid np _) upd_same⟩
    refine q a H (Same.refl _) ?_
    rw [e, List.append_nil]
    exact ha
end
end L2

namespace L2
open PySem PySem.Spec PyProof.Rows
/-- tuples of plain values, laid one by one -/
inductive TpsAt (H : Hp) : List V → List (List V) → Prop
  | nil : TpsAt H [] []
  | cons {a : Addr} {xs row : List V} {rows : List (List V)} (h : H a = some (.tup row)) (r : TpsAt H xs rows) : TpsAt H (.ref a :: xs) (row :: rows)
theorem TpsAt.mono {H H' : Hp} (g : Same H H') : ∀ {xs : List V} {bs : List (List V)}, TpsAt H xs bs → TpsAt H' xs bs
  | _, _, .nil => .nil
  | _, _, .cons h r => .cons (g _ _ h) (r.mono g)
theorem TpsAt.append {H : Hp} : ∀ {xs ys : List V} {bs cs : List (List V)}, TpsAt H xs bs → TpsAt H ys cs → TpsAt H (xs ++ ys) (bs ++ cs)
  | _, _, _, _, .nil, s => s
  | _, _, _, _, .cons h r, s => .cons h (r.append s)
theorem TpsAt.length {H : Hp} : ∀ {xs : List V} {bs : List (List V)}, TpsAt H xs bs → xs.length = bs.length
  | _, _, .nil => rfl
  | _, _, .cons _ r => congrArg (· + 1) r.length
theorem TpsAt.get {H : Hp} : ∀ {xs : List V} {bs : List (List V)}, TpsAt H xs bs → ∀ {i : Nat} {x : V}, xs[i]? = some x → ∃ (a : Addr) (b : List V), x = .ref a ∧ bs[i]? = some b ∧ H a = some (.tup b)
  | _, _, .nil, i, x, hx => by simp at hx
  | _, _, .cons (a := a) (row := b) h r, 0, x, hx => by
    have : V.ref a = x := by simpa using hx
    subst this
    exact ⟨a, b, rfl, rfl, h⟩
  | _, _, .cons h r, i + 1, x, hx => by
    obtain ⟨a, b, h1, h2, h3⟩ := r.get (i := i) (x := x) (by simpa using hx)
    exact ⟨a, b, h1, by simpa using h2, h3⟩
theorem TpsAt.dvs {α : Type} {H : Hp} {f : α → List V} {g : α → List PyData} (hg : ∀ k, DVs H (f k) (g k)) : ∀ {ks : List α} {xs : List V}, TpsAt H xs (ks.map f) → DVs H xs (ks.map fun k => .tuple (g k))
  | [], xs, h => by cases h; exact .nil
  | k :: ks, xs, h => by
    rw [List.map_cons] at h
    cases h with
    | cons h r => exact .cons (.tup h (hg k)) (TpsAt.dvs hg r)
/-! ### comprehensions over such rows -/
section
variable {α : Type} {K : PySem.W.Frag} {a : Addr} {xs : List V} {ks : List α} {k : Nat} {g : TG} {tt : TT} {te : TE} {σ : St} {H : Hp} {Q : VK}
theorem filter_step (p : α → Bool) {i : Nat} {t : α} (ht : ks[i]? = some t) : (ks.take (i + 1)).filter p = (ks.take i).filter p ++ (if p t = true then [t] else []) := by
  rw [take_one ht, List.filter_append]
  congr 1
  by_cases c : p t = true
  · rw [if_pos c]; exact List.filter_cons_of_pos c
  · rw [if_neg c]; exact List.filter_cons_of_neg c
end
/-! ### nets and cells -/
structure Kn where
  mark : Str
  row : Int
  col : Int
def Kn.vs (k : Kn) : List V := [.str k.mark, .int k.row, .int k.col]
def Kn.D (k : Kn) : PyData := .tuple [.str k.mark, .int k.row, .int k.col]
def NetAt (H : Hp) (a : Addr) (ks : List Kn) : Prop := ∃ xs, H a = some (.tup xs) ∧ TpsAt H xs (ks.map Kn.vs)
theorem NetAt.mono {H H' : Hp} {a : Addr} {ks : List Kn} (h : NetAt H a ks) (g : Same H H') : NetAt H' a ks := by
  obtain ⟨xs, e, r⟩ := h
  exact ⟨xs, g _ _ e, r.mono g⟩
theorem NetAt.dv {H : Hp} {a : Addr} {ks : List Kn} (h : NetAt H a ks) : DV H (.ref a) (.tuple (ks.map Kn.D)) := by
  obtain ⟨xs, e, r⟩ := h
  exact .tup e (r.dvs (g := fun k : Kn => [PyData.str k.mark, .int k.row, .int k.col]) fun k => .cons (.str _) (.cons (.int _) (.cons (.int _) .nil)))
/-- of one to eight small letters -/
structure Mrk (z : Str) : Prop where
  lo : 1 ≤ z.cps.size
  hi : z.cps.size ≤ 8
  ab : ∀ c ∈ z.cps.toList, 97 ≤ c ∧ c ≤ 122
theorem Mrk.ok {z : Str} (h : Mrk z) : PyData.strOk z = true := strOk_of fun c hc => by
  have := (h.ab c hc).2
  omega
structure NetOk (ks : List Kn) : Prop where
  mw : ∀ k ∈ ks, Mrk k.mark
  row : ∀ k ∈ ks, 0 ≤ k.row ∧ k.row ≤ 30
  col : ∀ k ∈ ks, 0 ≤ k.col ∧ k.col ≤ 30
  len : ks.length ≤ 60
  nd : (ks.map Kn.mark).Nodup
  rise : (ks.map Kn.mark).Pairwise (fun a b => leS a b = true)
def CelAt (H : Hp) (c : Addr) (rs cs : List Int) : Prop := ∃ a b, H c = some (.tup [.ref a, .ref b]) ∧ H a = some (.tup (rs.map V.int)) ∧ H b = some (.tup (cs.map V.int))
theorem CelAt.mono {H H' : Hp} {c : Addr} {rs cs : List Int} (h : CelAt H c rs cs) (g : Same H H') : CelAt H' c rs cs := by
  obtain ⟨a, b, e, f, i⟩ := h
  exact ⟨a, b, g _ _ e, g _ _ f, g _ _ i⟩
def celD (rs cs : List Int) : PyData := .tuple [.tuple (rs.map PyData.int), .tuple (cs.map PyData.int)]
theorem CelAt.dv {H : Hp} {c : Addr} {rs cs : List Int} (h : CelAt H c rs cs) : DV H (.ref c) (celD rs cs) := by
  obtain ⟨a, b, e, f, i⟩ := h
  exact .tup e (.cons (.tup f (dvs_ints rs)) (.cons (.tup i (dvs_ints cs)) .nil))
/-! ### rising lists -/
def Asc (ns : List Int) : Prop := ns.Pairwise (· < ·)
def uni (ns : List Int) : List Int := srtI (uniI ns)
end L2

namespace L2
open PySem PySem.Spec PyProof.Rows PySem.Builtin PySem.Builtin.Str
/-- of small letters -/
def Ltr (z : Str) : Prop := ∀ c ∈ z.cps.toList, 97 ≤ c ∧ c ≤ 122
def abc : Str := "abcdefghijklmnopqrstuvwxyz"
theorem Ltr.one {c : Nat} (h : 97 ≤ c ∧ c ≤ 122) : Ltr ⟨#[c]⟩ := fun d hd => by
  have : d = c := by simpa using hd
  rw [this]; exact h
theorem Ltr.slice {z : Str} (h : Ltr z) (l u : Option Int) : Ltr (Txt.slice z l u) := fun c hc => by
  unfold Txt.slice at hc
  split at hc
  · exact h c hc
  · obtain ⟨i, _, hi⟩ := List.mem_filterMap.mp hc
    exact h c (Array.mem_def.mp (Array.mem_of_getElem? hi))
theorem Ltr.ok {z : Str} (h : Ltr z) : PyData.strOk z = true := strOk_of fun c hc => by
  have := (h c hc).2
  omega
/-! ### a list of one's own that is filled beside a pen -/
theorem PenAt.put {H : Hp} {a l : Addr} {o : HO} (h : PenAt H a) (n : l ≠ a) : PenAt (upd H l o) a := by
  obtain ⟨p, q, r, e⟩ := h
  exact ⟨p, q, r, by rw [upd_ne (Ne.symm n)]; exact e⟩
/-- a stream's things at r -/
def StAt (H : Hp) (r : Addr) (ts : List Th) : Prop := ∃ xs, H r = some (.lst xs) ∧ TpsAt H xs (ts.map Th.vs)
theorem StAt.mono {H H' : Hp} {r : Addr} {ts : List Th} (h : StAt H r ts) (g : Same H H') : StAt H' r ts := by
  obtain ⟨xs, e, t⟩ := h
  exact ⟨xs, g _ _ e, t.mono g⟩
theorem StAt.dv {H : Hp} {r : Addr} {ts : List Th} (h : StAt H r ts) : DV H (.ref r) (.list (ts.map Th.D)) := by
  obtain ⟨xs, e, t⟩ := h
  exact .lst e (t.dvs (g := fun t : Th => [PyData.int t.day, .str t.word, .int t.num, .int t.many]) fun k => .cons (.int _) (.cons (.str _) (.cons (.int _) (.cons (.int _) .nil))))
/-- the cells that a stream meets -/
def metP (ts : List Th) (k : Kn) : Bool := decide (k.mark ∈ ts.map Th.word)
def metR (ks : List Kn) (ts : List Th) : List Int := uni ((ks.filter (metP ts)).map Kn.row)
def metC (ks : List Kn) (ts : List Th) : List Int := uni ((ks.filter (metP ts)).map Kn.col)
structure CelOk (rs cs : List Int) : Prop where
  r : Asc rs
  c : Asc cs
  rl : rs.length ≤ 62
  cl : cs.length ≤ 62
theorem Asc.sub {a b : List Int} (h : Asc b) (s : a.Sublist b) : Asc a := List.Pairwise.sublist s h
inductive CelsAt (H : Hp) : List V → List (List Int × List Int) → Prop
  | nil : CelsAt H [] []
  | cons {a : Addr} {xs : List V} {c : List Int × List Int} {cs : List (List Int × List Int)} (h : CelAt H a c.1 c.2) (r : CelsAt H xs cs) : CelsAt H (.ref a :: xs) (c :: cs)
theorem CelsAt.mono {H H' : Hp} (g : Same H H') : ∀ {xs : List V} {cs : List (List Int × List Int)}, CelsAt H xs cs → CelsAt H' xs cs
  | _, _, .nil => .nil
  | _, _, .cons h r => .cons (h.mono g) (r.mono g)
theorem CelsAt.append {H : Hp} : ∀ {xs ys : List V} {bs cs : List (List Int × List Int)}, CelsAt H xs bs → CelsAt H ys cs → CelsAt H (xs ++ ys) (bs ++ cs)
  | _, _, _, _, .nil, s => s
  | _, _, _, _, .cons h r, s => .cons h (r.append s)
theorem CelsAt.length {H : Hp} : ∀ {xs : List V} {bs : List (List Int × List Int)}, CelsAt H xs bs → xs.length = bs.length
  | _, _, .nil => rfl
  | _, _, .cons _ r => congrArg (· + 1) r.length
theorem CelsAt.get {H : Hp} : ∀ {xs : List V} {bs : List (List Int × List Int)}, CelsAt H xs bs → ∀ {i : Nat} {x : V}, xs[i]? = some x → ∃ (a : Addr) (b : List Int × List Int), x = .ref a ∧ b ∈ bs ∧ CelAt H a b.1 b.2
  | _, _, .nil, i, x, hx => by simp at hx
  | _, _, .cons (a := a) (c := b) h r, 0, x, hx => by
    have : V.ref a = x := by simpa using hx
    subst this
    exact ⟨a, b, rfl, .head _, h⟩
  | _, _, .cons h r, i + 1, x, hx => by
    obtain ⟨a, b, h1, h2, h3⟩ := r.get (i := i) (x := x) (by simpa using hx)
    exact ⟨a, b, h1, .tail _ h2, h3⟩
theorem CelsAt.atI {H : Hp} {xs : List V} {cs : List (List Int × List Int)} (h : CelsAt H xs cs) {i : Int} (h0 : 0 ≤ i) (h1 : i < cs.length) : ∃ (a : Addr) (b : List Int × List Int), L2.atI xs i = some (.ref a) ∧ b ∈ cs ∧ CelAt H a b.1 b.2 := by
  obtain ⟨v, hv, mv⟩ := atI_in (xs := xs) h0 (by rw [h.length]; exact h1)
  obtain ⟨j, hj⟩ := List.mem_iff_getElem?.mp mv
  obtain ⟨a, b, rfl, q1, q2⟩ := h.get hj
  exact ⟨a, b, hv, q1, q2⟩
end L2

namespace HT
open PySem PySem.Spec PyProof.Rows
section
variable {prog : Program} {w : World} {A : Around} {E : Value → Shared → Prop} {s : Shared}
theorem getItem_tuple_whole {t sl : Addr} {items : Array Value} {vl vu : Value} {lo hi : Option Int} {Q : Value → Shared → Prop} (ht : IsTup s.heap t items) (hs : s.heap.IsSliceOf sl vl vu .none) (pl : IsPart vl lo) (pu : IsPart vu hi)
    (hw : sIx items.size 0 lo = 0 ∧ sIx items.size items.size hi = items.size) (h : Q (.ref t) s) : wpAny (model prog w) A (getItem (.ref t) (.ref sl)) Q E s := by
  obtain ⟨os, hos, hcs, hds⟩ := id hs
  have hTs : s.TypeIs (.ref sl) "slice" := ⟨os, hos, hcs⟩
  have ty := ht.typeIs
  unfold getItem
  try with_reducible refine wpAny_holding ?_
  first | refine wpAny_bind (wpAny_pure ?_) | skip
  refine wpAny_bind (wpAny_sequenceKey ht.typeIs (by decide) ?_)
  refine wpAny_bind (wpAny_callSpecial?_slot (name := Str.ofString "__getitem__") ht.typeIs PyProof.Rows.slot_tuple_getitem
    (wpAny_call_entry PyProof.Rows.slot_tuple_getitem ht.typeIs entry_tuple_getitem ?_ (args_tuple_getitem _ _)))
  show wpAny _ _ (Builtin.Tuple.tupleItemsOf (.ref t) >>= _) _ _ s
  refine wpAny_bind (tupleItemsOf_ ht ?_)
  refine wpAny_bind (wpAny_typeOf hTs ?_)
  rw [if_pos (by decide)]
  refine wpAny_bind (sliceApplied_gen hs pl pu ?_)
  have hyes : (((sIx items.size 0 lo : Nat) : Int) == 0 && (1 : Int) == 1 && (sIx items.size items.size hi - sIx items.size 0 lo) == items.size) = true := by
    rw [hw.1, hw.2]; simp
  show wpAny _ _ (if (((sIx items.size 0 lo : Nat) : Int) == 0 && (1 : Int) == 1 && (sIx items.size items.size hi - sIx items.size 0 lo) == items.size) = true then _ else _) _ _ s
  rw [if_pos hyes]
  refine wpAny_bind (m := Builtin.Tuple.tupleIsExact (.ref t)) ?_
  refine wpAny_bind (wpAny_typeOf ty (wpAny_pure ?_))
  rw [if_pos (by decide)]
  refine wpAny_bind (m := rule _) (wpAny_rule ?_)
  exact wpAny_pure ⟨_, rfl, wpAny_pure h⟩
end
end HT
namespace L2
open PySem PySem.Spec PyProof.Rows
section
variable {X : Cx}
/-- t[lo:hi] of a tracked tuple, the whole of it too -/
def rSlG : V → Option Int → Option Int → Hp → VK → Prop := fun x lo hi H Q => ∃ a xs, x = .ref a ∧ H a = some (.tup xs) ∧ ∀ (c : Addr) (H' : Hp), Same H H' → H' c = some (.tup (cutV xs lo hi)) → Q (.ref c) H'
theorem sl_tupG : SlR X rSlG := by
  intro pins s σ H x v vl vu lo hi sl Q I rx hs pl pu h
  obtain ⟨a, xs, rfl, hx, q⟩ := h
  by_cases hw : HT.sIx xs.length 0 lo = 0 ∧ HT.sIx xs.length xs.length hi = xs.length
  · cases rx
    obtain ⟨its, r, ht, hz⟩ := I.tuple (SqT.of hx)
    have hlen : its.toArray.size = xs.length := by rw [List.size_toArray]; exact r.length.symm
    refine ⟨"tuple", _, PyProof.Rows.slot_tuple_getitem.lookup, ht.typeIs, ?_⟩
    refine HT.getItem_tuple_whole ht hs pl pu (by rw [hlen]; exact hw) ⟨.ref a, H, I, rfl, q a H (Same.refl _) ?_⟩
    unfold cutV
    rw [hw.1, hw.2, List.drop_zero, Nat.sub_zero, List.take_length]
    exact hx
  · exact sl_tup pins s σ H _ v vl vu lo hi sl Q I rx hs pl pu ⟨a, xs, rfl, SqT.of hx, hw, fun p np => q p _ (same_laid np _) upd_same⟩
end
end L2

namespace L2
open PySem PySem.Spec PyProof.Rows
section
variable {X : Cx}
end
end L2

namespace L2
open PySem PySem.Spec PyProof.Rows
/-- what stands while things are dealt -/
structure DF (a l d : Addr) (fz : HO) (Hf : Hp) (xs : List V) (ts : List Th) (H' : Hp) : Prop where
  el : hide a H' l = some (.lst xs)
  tl : TpsAt (hide a H') xs (ts.map Th.vs)
  ed : hide a H' d = some fz
  hp : PenAt H' a
  gg : Grw a Hf H'
section
variable {a l d : Addr} {fz : HO} {Hf H' H'' : Hp} {xs : List V} {ts : List Th}
theorem DF.step (f : DF a l d fz Hf xs ts H') (g : Grw a H' H'') (hp : PenAt H'' a) : DF a l d fz Hf xs ts H'' := ⟨g _ _ f.el, f.tl.mono g, g _ _ f.ed, hp, f.gg.trans g⟩
end
theorem TpsAt.ins {H : Hp} {xs : List V} {rows : List (List V)} (h : TpsAt H xs rows) {t : Addr} {row : List V} (e : H t = some (.tup row)) (i : Nat) : TpsAt H (xs.take i ++ .ref t :: xs.drop i) (rows.take i ++ row :: rows.drop i) := by
  have tk : ∀ {xs : List V} {rows : List (List V)} (i : Nat), TpsAt H xs rows → TpsAt H (xs.take i) (rows.take i) ∧ TpsAt H (xs.drop i) (rows.drop i) := by
    intro xs rows i h
    induction h generalizing i with
    | nil => cases i <;> exact ⟨.nil, .nil⟩
    | cons h r ih =>
      cases i with
      | zero => exact ⟨.nil, .cons h r⟩
      | succ i => exact ⟨.cons h (ih i).1, (ih i).2⟩
  obtain ⟨h1, h2⟩ := tk i h
  exact h1.append (.cons e h2)
end L2

namespace HT
open PySem PySem.Spec PyProof.Rows
theorem fm_congr {α β : Type} {f g : α → Option β} : ∀ {l : List α}, (∀ k ∈ l, f k = g k) → l.filterMap f = l.filterMap g
  | [], _ => rfl
  | x :: l, h => by rw [List.filterMap_cons, List.filterMap_cons, h x (.head _), fm_congr fun k hk => h k (.tail _ hk)]
section
variable {prog : Program} {w : World} {A : Around} {E : Value → Shared → Prop} {s : Shared}
theorem sliceApplied_rev {sl : Addr} {t : Tok} {n : Nat} {Q : Int × Int × Nat → Shared → Prop} (hs : s.heap.IsSliceOf sl .none .none (.int (-1) t))
    (h : Q ((n : Int) - 1, -1, n) s) : wpAny (model prog w) A (Builtin.Slice.sliceApplied (.ref sl) (pure (n : Int))) Q E s := by
  obtain ⟨os, hos, hcs, hds⟩ := id hs
  unfold Builtin.Slice.sliceApplied Builtin.Slice.sliceFields
  refine wpAny_bind (wpAny_bind (wpAny_field hos hds (x := .none) rfl (wpAny_bind (wpAny_field hos hds (x := .none) rfl (wpAny_bind (wpAny_field hos hds (x := .int (-1) t) rfl (wpAny_pure ?_)))))))
  refine wpAny_bind (slicePart_ (IsPart.int (-1) t) ?_)
  show wpAny _ _ (if ((-1 : Int) == 0) = true then _ else _) _ _ s
  rw [if_neg (by decide)]
  refine wpAny_bind (slicePart_none (wpAny_bind (slicePart_none (wpAny_bind (wpAny_pure ?_)))))
  have e1 : Builtin.Slice.sliceAdjust none none (-1) (n : Int) = ((n : Int) - 1, -1) := by
    unfold Builtin.Slice.sliceAdjust
    simp
  show wpAny _ _ (match Builtin.Slice.sliceAdjust none none (-1) (n : Int) with | (lo, hi) => pure (lo, (-1 : Int), Builtin.Slice.slicePlaces lo hi (-1))) _ _ s
  rw [e1]
  have e2 : Builtin.Slice.slicePlaces ((n : Int) - 1) (-1) (-1) = n := by
    unfold Builtin.Slice.slicePlaces
    simp
    omega
  show wpAny _ _ (pure ((n : Int) - 1, (-1 : Int), Builtin.Slice.slicePlaces ((n : Int) - 1) (-1) (-1))) _ _ s
  rw [e2]
  exact wpAny_pure h
theorem getItem_tuple_rev {a sl : Addr} {items : Array Value} {t : Tok} {Q : Value → Shared → Prop} (ht : IsTup s.heap a items) (hs : s.heap.IsSliceOf sl .none .none (.int (-1) t))
    (h : Q (.ref s.heap.objs.size) { s with heap := s.heap.push { cls := .type "tuple", data := .seq items.toList.reverse.toArray } }) (hsz : items.size ≤ sizeLine) : wpAny (model prog w) A (getItem (.ref a) (.ref sl)) Q E s := by
  have htake : sizeOk (.seq items.toList.reverse.toArray) := by
    show items.toList.reverse.toArray.size ≤ sizeLine
    rw [List.size_toArray, List.length_reverse, Array.length_toList]
    exact hsz
  obtain ⟨os, hos, hcs, hds⟩ := id hs
  have hTs : s.TypeIs (.ref sl) "slice" := ⟨os, hos, hcs⟩
  unfold getItem
  try with_reducible refine wpAny_holding ?_
  first | refine wpAny_bind (wpAny_pure ?_) | skip
  refine wpAny_bind (wpAny_sequenceKey ht.typeIs (by decide) ?_)
  refine wpAny_bind (wpAny_callSpecial?_slot (name := Str.ofString "__getitem__") ht.typeIs PyProof.Rows.slot_tuple_getitem
    (wpAny_call_entry PyProof.Rows.slot_tuple_getitem ht.typeIs entry_tuple_getitem ?_ (args_tuple_getitem _ _)))
  show wpAny _ _ (Builtin.Tuple.tupleItemsOf (.ref a) >>= _) _ _ s
  refine wpAny_bind (tupleItemsOf_ ht ?_)
  refine wpAny_bind (wpAny_typeOf hTs ?_)
  rw [if_pos (by decide)]
  refine wpAny_bind (sliceApplied_rev hs ?_)
  show wpAny _ _ (if (((items.size : Int) - 1) == 0 && (-1 : Int) == 1 && items.size == items.size) = true then _ else _) _ _ s
  rw [if_neg (by simp)]
  have e : ((List.range items.size).filterMap fun (k : Nat) => items[((items.size : Int) - 1 + (k : Int) * (-1)).toNat]?).toArray = items.toList.reverse.toArray := by
    have e1 : ((List.range items.size).filterMap fun (k : Nat) => items[((items.size : Int) - 1 + (k : Int) * (-1)).toNat]?) = ((List.range items.size).map fun k => items.size - 1 - k).filterMap (items[·]?) := by
      rw [List.filterMap_map]
      refine fm_congr fun k hk => ?_
      have := List.mem_range.mp hk
      show items[((items.size : Int) - 1 + (k : Int) * (-1)).toNat]? = items[items.size - 1 - k]?
      rw [show ((items.size : Int) - 1 + (k : Int) * (-1)).toNat = items.size - 1 - k by omega]
    rw [e1, PySem.W.krv_range, List.filterMap_reverse, PySem.W.krv_all]
  rw [e]
  first
    | exact wpAny_bind (m := Builtin.Tuple.tupleExact _) (wpAny_newObj_type (wpAny_pure ⟨_, rfl, wpAny_pure h⟩) htake)
    | exact wpAny_bind (m := Builtin.Tuple.tupleExact _) (wpAny_newObj_type (wpAny_bind (wpAny_pure (wpAny_pure ⟨_, rfl, wpAny_pure h⟩))) htake)
    | exact wpAny_bind (wpAny_bind (m := Builtin.Tuple.tupleExact _) (wpAny_newObj_type (wpAny_pure (wpAny_pure ⟨_, rfl, wpAny_pure h⟩)) htake))
    | exact wpAny_bind (wpAny_bind (m := Builtin.Tuple.tupleExact _) (wpAny_newObj_type (wpAny_pure ⟨_, rfl, wpAny_pure h⟩) htake))
end
end HT
namespace L2
open PySem PySem.Spec PyProof.Rows
section
variable {X : Cx}
/-- t[::-1] of a tuple -/
def tRevT (K : PySem.W.Frag) (te ts : TE) : TE := fun σ H Q => te σ H fun x H1 => ts σ H1 fun y H2 => ∃ (a : Addr) (xs : List V), x = .ref a ∧ y = .int (-1) ∧ SqT K H2 a xs ∧ ∀ p, H2 p = none → Q (.ref p) (upd H2 p (.tup xs.reverse))
theorem pe_revT {e st : Expr} {te ts : TE} {pos p2 : Pos} (he : PE X e te) (hs : PE X st ts) : PE X (.Subscript e (.Slice none none (some st) p2) pos) (tRevT X.K te ts) := by
  intro pins s σ H Q I h
  refine Subscript_ (thn (he pins s σ H _ I h) fun v s1 ⟨x, H1, I1, r1, q1⟩ => ?_)
  refine wpAny_Slice ?_
  rw [evalPart_none]
  refine wpAny_pure (wpAny_pure ?_)
  rw [evalPart_some]
  refine thn (hs pins s1 σ H1 _ I1 q1) fun vk s2 ⟨y, H2, I2, r2, q2⟩ => ?_
  obtain ⟨a, xs, rfl, rfl, hx, q⟩ := q2
  cases r1
  obtain ⟨t, rfl⟩ := r2
  have I4 : Inv X pins σ H2 { s2 with heap := s2.heap.push { cls := .type "slice", data := .fields #[.none, .none, .int (-1) t] } } := I2.kept (t' := s2.toks) fun b ob q => Heap.get?_push_of_some _ q
  obtain ⟨its, r, ht, hz⟩ := I4.tuple hx
  have hlen := r.length
  show wpAny (model X.prog X.w) X.A (subscriptTail e (.Slice none none (some st) p2) (.ref a) (.ref s2.heap.objs.size)) (EP X pins σ Q) X.xe { s2 with heap := s2.heap.push { cls := .type "slice", data := .fields #[.none, .none, .int (-1) t] } }
  refine tail_any (ops := [.ref a, .ref s2.heap.objs.size]) ht.typeIs PyProof.Rows.slot_tuple_getitem.lookup ?_ (by with_unfolding_all rfl)
  refine HT.getItem_tuple_rev ht (Heap.IsSliceOf.new ..) ?_ (by rw [List.size_toArray]; omega)
  refine ⟨.ref _, _, I4.laid (t' := s2.toks) (o := .tup xs.reverse) (fun b ob q => Heap.get?_push_of_some _ q) (Nat.le_refl _) ?_, rfl, q _ (I4.hok.fresh (Nat.le_refl _))⟩
  exact ⟨by rw [List.length_reverse]; exact hz, its.reverse, r.reverse, TupN.new _ _⟩
/-- x.upper() of a text: some text -/
theorem mt_upper : MtR X "str.upper" (fun x vs H Q => ∃ z : Str, x = .str z ∧ vs = [] ∧ z.length ≤ 300 ∧ ∀ y : Str, y.length ≤ 900 → Q (.str y) H) := by
  intro pins s σ H x vs v us Q I rx rv h
  obtain ⟨z, rfl, rfl, hz, q⟩ := h
  obtain ⟨t, rfl⟩ := rx
  cases rv
  exact PyProof.Rows.SCL.upper (by omega) fun hl => ⟨.str _, H, I.tok _, ⟨_, rfl⟩, q _ (by omega)⟩
/-- str(i): some text -/
theorem call_strI : CallR X (.type "str") (fun xs H Q => ∃ i : Int, xs = [.int i] ∧ i.natAbs < 2 ^ 200 ∧ ∀ y : Str, Q (.str y) H) := by
  intro pins s σ H xs us Q I r h
  obtain ⟨i, rfl, hi, q⟩ := h
  obtain ⟨u, rfl, ru⟩ := vals1 r
  obtain ⟨t, rfl⟩ := ru
  refine PySem.P.str_of_int ?_ ⟨.str _, H, I.tok _, ⟨_, rfl⟩, q _⟩
  by_cases h0 : i.natAbs = 0
  · rw [h0]; decide
  · have := (Nat.log2_lt h0).mpr hi
    omega
/-- z * 8 of a text of one sign -/
theorem op_repS : OpR X (binaryOp .Mult) (fun x y H Q => ∃ z : Str, x = .str z ∧ y = .int 8 ∧ z.length = 1 ∧ ∀ y : Str, y.length = 8 → Q (.str y) H) := by
  intro pins s σ H x y v u Q I rx ry h
  obtain ⟨z, rfl, rfl, hz, q⟩ := h
  obtain ⟨t, rfl⟩ := rx
  obtain ⟨t', rfl⟩ := ry
  refine PySem.P.mul_str (by decide) (fun _ _ => by rw [hz]; decide) (fun _ _ => by rw [hz]; decide) ?_
  rw [if_neg (by decide), if_neg (by rw [hz]; decide)]
  have e : (⟨(List.replicate (8 : Int).toNat z.cps).foldl (· ++ ·) #[]⟩ : Str).length = 8 := by
    have hz : z.cps.size = 1 := hz
    show ((((((((#[] ++ z.cps) ++ z.cps) ++ z.cps) ++ z.cps) ++ z.cps) ++ z.cps) ++ z.cps) ++ z.cps).size = 8
    simp only [Array.size_append, hz]
    rfl
  exact ⟨by rw [e]; decide, .str _, H, I.tok _, ⟨_, rfl⟩, q _ e⟩
/-- an item of a list or of a tuple -/
theorem ix_any : IxR X (fun x y H Q => rIxT X.K x y H Q ∨ rIxL X.K x y H Q) := by
  intro value slice pins s σ H x y v u Q I rx ry h hs
  rcases h with h | h
  · exact ix_tup value slice pins s σ H x y v u Q I rx ry h hs
  · exact ix_list value slice pins s σ H x y v u Q I rx ry h hs
theorem ix_anyK (K : PySem.W.Frag) (hK : X.K = K) : IxR X (fun x y H Q => rIxT K x y H Q ∨ rIxL K x y H Q) := hK ▸ ix_any
theorem Kd.any2 {K : PySem.W.Frag} {H : Hp} {x : V} {T : String} (h : Kd H x T) : PySem.W.kitAny K (.type T) [.type "tuple", .type "list"] = some (isKd T "tuple" || isKd T "list") := by
  unfold PySem.W.kitAny
  rw [h.kit (U := "tuple") (by decide) rfl]
  cases isKd T "tuple" with
  | true => rfl
  | false =>
    unfold PySem.W.kitAny
    rw [h.kit (U := "list") (by decide) rfl]
    cases isKd T "list" <;> rfl
/-- isinstance(x, (tuple, list)) -/
theorem call_isKd2 : CallR X (.builtin "isinstance") (fun xs H Q => ∃ (x : V) (T : String) (tp : Addr), xs = [x, .ref tp] ∧ Kd H x T ∧ H tp = some (.tup [.ty "tuple", .ty "list"]) ∧ Q (.bl (isKd T "tuple" || isKd T "list")) H) := by
  intro pins s σ H xs us Q I r h
  obtain ⟨x, T, tp, rfl, hk, ht, q⟩ := h
  obtain ⟨u, w', rfl, ru, rt⟩ := vals2 r
  cases (show w' = Value.ref tp from rt)
  have e := hk.any2 (K := X.K)
  have fin : ∀ tk, EP X pins σ Q (.bool (isKd T "tuple" || isKd T "list")) { s with toks := tk } := fun tk => ⟨.bl _, H, I.tok _, rfl, q⟩
  obtain ⟨_, its, rv, ⟨⟨c0, d0, dt0, sl0⟩, ho, hcl, m, hs⟩⟩ := (show ObjOk X.prog X.w H s.heap tp (.tup [.ty "tuple", .ty "list"]) from I.hok tp _ ht)
  simp only at hcl hs
  obtain ⟨hcl, hdn⟩ := hcl
  subst hcl hdn hs
  rw [cVals_of (by decide) rv] at ho
  cases hk with
  | non => cases (show u = Value.none from ru); exact PySem.W.kia_tup PySem.W.kitx_none I.kIn True.intro ho e (fun z => nomatch z) fin
  | bl y => cases (show u = Value.bool y from ru); exact PySem.W.kia_tup PySem.W.kitx_bool I.kIn True.intro ho e (fun z => nomatch z) fin
  | int i => obtain ⟨t, q⟩ := (show ∃ t, u = Value.int i t from ru); cases q; exact PySem.W.kia_tup PySem.W.kitx_int I.kIn True.intro ho e (fun z => nomatch z) fin
  | str y => obtain ⟨t, q⟩ := (show ∃ t, u = Value.str y t from ru); cases q; exact PySem.W.kia_tup PySem.W.kitx_str I.kIn True.intro ho e (fun z => nomatch z) fin
  | @lst a xs ea =>
    cases (show u = Value.ref a from ru)
    obtain ⟨_, _, n, _, h1⟩ := (show ObjOk X.prog X.w H s.heap a (.lst xs) from I.hok a _ ea)
    exact PySem.W.kia_tup PySem.W.kitx_list I.kIn ⟨_, h1, rfl⟩ ho e (fun z => nomatch z) fin
  | @tup a xs ea =>
    cases (show u = Value.ref a from ru)
    obtain ⟨_, _, _, p⟩ := (show ObjOk X.prog X.w H s.heap a (.tup xs) from I.hok a _ ea)
    obtain ⟨o, h1, h2, _⟩ := p
    exact PySem.W.kia_tup PySem.W.kitx_tuple I.kIn ⟨o, h1, h2.1⟩ ho e (fun z => nomatch z) fin
  | @dK a kvs ea =>
    cases (show u = Value.ref a from ru)
    obtain ⟨_, _, vs, _, p⟩ := (show ObjOk X.prog X.w H s.heap a (.dK kvs) from I.hok a _ ea)
    obtain ⟨o, es, ep, h1, h2, _⟩ := p
    exact PySem.W.kia_tup PySem.W.kitx_dict I.kIn ⟨o, h1, h2.1⟩ ho e (fun z => nomatch z) fin
theorem call_len_seqK (K : PySem.W.Frag) (hK : X.K = K) : CallR X (.builtin "len") (fun xs H Q => ∃ p ys, xs = [.ref p] ∧ (SqL K H p ys ∨ SqT K H p ys) ∧ Q (.int (ys.length : Nat)) H) := hK ▸ call_len_seq
end
end L2

namespace K08
open PySem L2

def top (i : Nat) : Stmt := PySem.Challenge.pw_sumshare_k08_what_is_a_tally.main.body.getD i (.Pass ⟨0, 0, 0, 0⟩)
abbrev s_is_whole : Stmt := top 4
theorem sc_is_whole : FnScope ["thing"] ["thing"] (defScope s_is_whole) := ⟨rfl, rfl, rfl, by decide +kernel, rfl, by decide +kernel, by decide +kernel⟩
abbrev s_is_whole_from : Stmt := top 5
theorem sc_is_whole_from : FnScope ["thing", "least"] ["thing", "least"] (defScope s_is_whole_from) := ⟨rfl, rfl, rfl, by decide +kernel, rfl, by decide +kernel, by decide +kernel⟩
abbrev s_is_whole_within : Stmt := top 6
theorem sc_is_whole_within : FnScope ["thing", "least", "most"] ["thing", "least", "most"] (defScope s_is_whole_within) := ⟨rfl, rfl, rfl, by decide +kernel, rfl, by decide +kernel, by decide +kernel⟩
abbrev s_is_mark : Stmt := top 7
theorem sc_is_mark : FnScope ["thing"] ["thing"] (defScope s_is_mark) := ⟨rfl, rfl, rfl, by decide +kernel, rfl, by decide +kernel, by decide +kernel⟩
theorem nd_is_mark_14_15 : (["sign", "thing"] : List Str).Nodup := by decide +kernel
abbrev s_is_rising : Stmt := top 8
theorem sc_is_rising : FnScope ["parts"] ["parts"] (defScope s_is_rising) := ⟨rfl, rfl, rfl, by decide +kernel, rfl, by decide +kernel, by decide +kernel⟩
theorem nd_is_rising_16_15 : (["one", "other", "parts"] : List Str).Nodup := by decide +kernel
abbrev s_is_room : Stmt := top 9
theorem sc_is_room : FnScope ["thing"] ["thing"] (defScope s_is_room) := ⟨rfl, rfl, rfl, by decide +kernel, rfl, by decide +kernel, by decide +kernel⟩
abbrev s_is_count : Stmt := top 10
theorem sc_is_count : FnScope ["thing", "is_key", "key", "count"] ["thing", "is_key"] (defScope s_is_count) := ⟨rfl, rfl, rfl, by decide +kernel, rfl, by decide +kernel, by decide +kernel⟩
abbrev s_are_counts : Stmt := top 11
theorem sc_are_counts : FnScope ["thing", "is_key"] ["thing", "is_key"] (defScope s_are_counts) := ⟨rfl, rfl, rfl, by decide +kernel, rfl, by decide +kernel, by decide +kernel⟩
theorem nd_are_counts_25_47 : (["one", "thing", "is_key"] : List Str).Nodup := by decide +kernel
theorem nd_are_counts_27_21 : (["key", "count", "thing", "is_key"] : List Str).Nodup := by decide +kernel
abbrev s_uncounted_in : Stmt := top 13
theorem sc_uncounted_in : FnScope ["tally", "room", "counts", "let", "total"] ["tally"] (defScope s_uncounted_in) := ⟨rfl, rfl, rfl, by decide +kernel, rfl, by decide +kernel, by decide +kernel⟩
theorem nd_uncounted_in_31_23 : (["mark", "count", "tally", "room", "counts", "let", "total"] : List Str).Nodup := by decide +kernel
abbrev s_is_made_as_tally : Stmt := top 14
theorem sc_is_made_as_tally : FnScope ["thing", "room", "counts", "let", "total"] ["thing"] (defScope s_is_made_as_tally) := ⟨rfl, rfl, rfl, by decide +kernel, rfl, by decide +kernel, by decide +kernel⟩
abbrev s_is_tally : Stmt := top 15
theorem sc_is_tally : FnScope ["thing", "room", "counts", "let", "total", "uncounted"] ["thing"] (defScope s_is_tally) := ⟨rfl, rfl, rfl, by decide +kernel, rfl, by decide +kernel, by decide +kernel⟩
abbrev s_l_pen : Stmt := top 17
theorem sc_l_pen : FnScope ["_law_script", "_law_k", "_law_cell"] ["_law_script", "_law_k"] (defScope s_l_pen) := ⟨rfl, rfl, rfl, by decide +kernel, rfl, by decide +kernel, by decide +kernel⟩
abbrev s_l_draw : Stmt := top 18
theorem sc_l_draw : FnScope ["_law_pen_here", "_law_size", "_law_drawn", "_law_number"] ["_law_pen_here", "_law_size"] (defScope s_l_draw) := ⟨rfl, rfl, rfl, by decide +kernel, rfl, by decide +kernel, by decide +kernel⟩
abbrev s_l_word : Stmt := top 19
theorem sc_l_word : FnScope ["_law_pen_here", "_law_k", "_law_some"] ["_law_pen_here", "_law_k"] (defScope s_l_word) := ⟨rfl, rfl, rfl, by decide +kernel, rfl, by decide +kernel, by decide +kernel⟩
abbrev s_l_many : Stmt := top 20
theorem sc_l_many : FnScope ["_law_pen_here"] ["_law_pen_here"] (defScope s_l_many) := ⟨rfl, rfl, rfl, by decide +kernel, rfl, by decide +kernel, by decide +kernel⟩
abbrev s_l_room : Stmt := top 21
theorem sc_l_room : FnScope ["_law_pen_here"] ["_law_pen_here"] (defScope s_l_room) := ⟨rfl, rfl, rfl, by decide +kernel, rfl, by decide +kernel, by decide +kernel⟩
abbrev s_l_whole : Stmt := top 22
theorem sc_l_whole : FnScope ["_law_thing"] ["_law_thing"] (defScope s_l_whole) := ⟨rfl, rfl, rfl, by decide +kernel, rfl, by decide +kernel, by decide +kernel⟩
abbrev s_l_tally : Stmt := top 23
theorem sc_l_tally : FnScope ["_law_pen_here", "_law_room_here", "_law_few", "_law_counts", "_law_k", "_law_let", "_law_more", "_law_total"] ["_law_pen_here", "_law_room_here"] (defScope s_l_tally) := ⟨rfl, rfl, rfl, by decide +kernel, rfl, by decide +kernel, by decide +kernel⟩
theorem nd_l_tally_83_21 : (["_law_mark", "_law_pen_here", "_law_room_here", "_law_few", "_law_counts", "_law_k", "_law_let", "_law_more", "_law_total"] : List Str).Nodup := by decide +kernel
theorem nd_l_tally_84_34 : (["_law_mark", "_law_pen_here", "_law_room_here", "_law_few", "_law_counts", "_law_k", "_law_let", "_law_more", "_law_total"] : List Str).Nodup := by decide +kernel
abbrev s_l_is_mark : Stmt := top 24
theorem sc_l_is_mark : FnScope ["_law_thing"] ["_law_thing"] (defScope s_l_is_mark) := ⟨rfl, rfl, rfl, by decide +kernel, rfl, by decide +kernel, by decide +kernel⟩
theorem nd_l_is_mark_88_15 : (["_law_sign", "_law_thing"] : List Str).Nodup := by decide +kernel
abbrev s_l_due : Stmt := top 25
theorem sc_l_due : FnScope ["_law_thing", "_law_room_here", "_law_counts", "_law_let", "_law_total", "_law_gone", "_law_k", "_law_row"] ["_law_thing"] (defScope s_l_due) := ⟨rfl, rfl, rfl, by decide +kernel, rfl, by decide +kernel, by decide +kernel⟩
abbrev s_l_other_counts : Stmt := top 26
theorem sc_l_other_counts : FnScope ["_law_pen_here", "_law_room_here", "_law_counts", "_law_at", "_law_mark", "_law_count", "_law_odd", "_law_some"] ["_law_pen_here", "_law_room_here", "_law_counts"] (defScope s_l_other_counts) := ⟨rfl, rfl, rfl, by decide +kernel, rfl, by decide +kernel, by decide +kernel⟩
abbrev s_l_counted : Stmt := top 27
theorem sc_l_counted : FnScope ["_law_counts", "_law_numbers"] ["_law_counts"] (defScope s_l_counted) := ⟨rfl, rfl, rfl, by decide +kernel, rfl, by decide +kernel, by decide +kernel⟩
theorem nd_l_counted_120_19 : (["_law_row", "_law_counts", "_law_numbers"] : List Str).Nodup := by decide +kernel
theorem nd_l_counted_121_15 : (["_law_number", "_law_counts", "_law_numbers"] : List Str).Nodup := by decide +kernel
abbrev s_l_other : Stmt := top 28
theorem sc_l_other : FnScope ["_law_pen_here", "_law_tally_here", "_law_room_here", "_law_counts", "_law_let", "_law_total", "_law_way", "_law_odd", "_law_others", "_law_rooms", "_law_most", "_law_totals", "_law_some"] ["_law_pen_here", "_law_tally_here"] (defScope s_l_other) := ⟨rfl, rfl, rfl, by decide +kernel, rfl, by decide +kernel, by decide +kernel⟩
abbrev s_l_right : Stmt := top 29
theorem sc_l_right : FnScope ["_law_thing", "_law_found"] ["_law_thing"] (defScope s_l_right) := ⟨rfl, rfl, rfl, by decide +kernel, rfl, by decide +kernel, by decide +kernel⟩
abbrev s_law : Stmt := top 30
theorem sc_law : FnScope ["_law_script", "_law_k", "_law_pen_here", "_law_room_here", "_law_tally_here", "_law_counted_here", "_law_ends", "_law_gone", "_law_turn", "_law_thing"] ["_law_script"] (defScope s_law) := ⟨rfl, rfl, rfl, by decide +kernel, rfl, by decide +kernel, by decide +kernel⟩
theorem nd_law_150_32 : (["_law_mark", "_law_count", "_law_script", "_law_k", "_law_pen_here", "_law_room_here", "_law_tally_here", "_law_counted_here", "_law_ends", "_law_gone", "_law_turn", "_law_thing"] : List Str).Nodup := by decide +kernel
/-- a draw: a number below the size; the pen has turned -/
def spDraw : Sp := fun vs H Q _ => ∃ (a : Addr) (n : Int), vs = [.ref a, .int n] ∧ PenAt H a ∧ 0 < n ∧ n < 1000000000000000000000000000000000000000000000000000000000000 ∧
  ∀ (d : Int) (H' : Hp), 0 ≤ d → d < n → PenAt H' a → Grw a H H' → Q (.int d) H'
def spPen (K : PySem.W.Frag) : Sp := fun vs H Q _ => ∃ (a : Addr) (ns : List Int) (k : Int), vs = [.ref a, .int k] ∧ SqL K H a (ns.map V.int) ∧ 0 ≤ k ∧
  ∀ (p : Addr) (H' : Hp), H p = none → Same H H' → PenAt H' p → Q (.ref p) H'
def spWord : Sp := fun vs H Q _ => ∃ (x : V) (k : Int), vs = [x, .int k] ∧ ∀ (z : Str) (H' : Hp), z ∈ words → Same H H' → Q (.str z) H'
def spMany : Sp := fun vs H Q _ => ∃ (a : Addr), vs = [.ref a] ∧ PenAt H a ∧ ∀ (m : Int) (H' : Hp), 1 ≤ m → m ≤ 1000000000 → PenAt H' a → Grw a H H' → Q (.int m) H'
def spThing : Sp := fun vs H Q _ => ∃ (a : Addr) (n k : Int), vs = [.ref a, .int n, .int k] ∧ PenAt H a ∧ 0 < n ∧ n < 1073741824 ∧ 0 ≤ k ∧ k < 30 ∧
  ∀ (r : Addr) (t : Th) (H' : Hp), t.Ok → hide a H' r = some (.tup t.vs) → PenAt H' a → Grw a H H' → Q (.ref r) H'
def spStream : Sp := fun vs H Q _ => ∃ (a : Addr) (n k l : Int), vs = [.ref a, .int n, .int k, .int l] ∧ PenAt H a ∧ 0 < n ∧ n < 1073741824 ∧ 0 ≤ k ∧ k < 30 ∧ 0 ≤ l ∧ l < 1000 ∧
  ∀ (r : Addr) (ts : List Th) (H' : Hp), (∀ t ∈ ts, t.Ok) → (ts.length : Int) ≤ l → DV (hide a H') (.ref r) (.list (ts.map Th.D)) → PenAt H' a → Grw a H H' → Q (.ref r) H'
section
variable {P : Program} {w : World} {K : PySem.W.Frag} {mg : Str → Option Value} {base : Heap} {f : Addr} {fd : FuncData}
theorem ok_draw (F : Fun K "_law_draw" "_law_draw" s_l_draw f fd) : FnOk P w K mg base CX0 1 f fd ["_law_pen_here", "_law_size"] spDraw := by
  refine F.ok sc_l_draw (fun vs H Q E h => ?_) (fun cdv A outer s H vs Q E hr h => ?_)
  · obtain ⟨a, n, rfl, _⟩ := h
    rfl
  obtain ⟨a, n, rfl, ⟨p, q, r, e⟩, h0, h1, hq⟩ := h
  refine ⟨_, (@pss_cons _ _ _ _ _ (ps_asg (@pe_op _ _ _ _ _ _ _ _ op_add (@pe_ix _ _ _ _ _ _ _ ix_list (pv 0) pe_int (fun _ _ => rfl)) pe_int) (pg_sub (pv 0) pe_int set_list))
  (@pss_cons _ _ _ _ _ (@ps_if _ _ _ _ _ _ _ _ (@pt_cmpR _ _ _ _ _ _ _ _ op_gt (@pe_ix _ _ _ _ _ _ _ ix_list (pv 0) pe_int (fun _ _ => rfl)) pe_int (nomark _)) (@pss_cons _ _ _ _ _ (@ps_set _ _ 2 _ _ _ _ sc_l_draw.nd rfl (Or.inl rfl) (@pe_op _ _ _ _ _ _ _ _ op_mod (@pe_ix _ _ _ _ _ _ _ ix_list (pv 0) pe_int (fun _ _ => rfl)) (pv 1)) (by rfl) (by first | exact .inl rfl | exact .inr rfl))
  (@pss_cons _ _ _ _ _ (ps_asg (@pe_op _ _ _ _ _ _ _ _ op_fdivB (@pe_ix _ _ _ _ _ _ _ ix_list (pv 0) pe_int (fun _ _ => rfl)) (pv 1)) (pg_sub (pv 0) pe_int set_list))
  (@pss_one _ _ _ (@ps_ret _ _ _ _ (pv 2))))) pss_nil)
  (@pss_cons _ _ _ _ _ (@ps_set _ _ 3 _ _ _ _ sc_l_draw.nd rfl (Or.inl rfl) (@pe_op _ _ _ _ _ _ _ _ op_mod (@pe_op _ _ _ _ _ _ _ _ op_mul (@pe_op _ _ _ _ _ _ _ _ op_add (@pe_op _ _ _ _ _ _ _ _ op_add (@pe_ix _ _ _ _ _ _ _ ix_list (pv 0) pe_int (fun _ _ => rfl)) (@pe_op _ _ _ _ _ _ _ _ op_mul pe_int (@pe_ix _ _ _ _ _ _ _ ix_list (pv 0) pe_int (fun _ _ => rfl)))) pe_int) pe_int) pe_int) (by rfl) (by first | exact .inl rfl | exact .inr rfl))
  (@pss_cons _ _ _ _ _ (@ps_set _ _ 3 _ _ _ _ sc_l_draw.nd rfl (Or.inl rfl) (@pe_op _ _ _ _ _ _ _ _ op_mod (@pe_op _ _ _ _ _ _ _ _ op_mul (pv 3) (@pe_op _ _ _ _ _ _ _ _ op_add (@pe_op _ _ _ _ _ _ _ _ op_add (@pe_op _ _ _ _ _ _ _ _ op_mod (pv 3) pe_int) (@pe_ix _ _ _ _ _ _ _ ix_list (pv 0) pe_int (fun _ _ => rfl))) pe_int)) pe_int) (by rfl) (by first | exact .inl rfl | exact .inr rfl))
  (@pss_one _ _ _ (@ps_ret _ _ _ _ (@pe_op _ _ _ _ _ _ _ _ op_mod (@pe_op _ _ _ _ _ _ _ _ op_fdiv (@pe_op _ _ _ _ _ _ _ _ op_mod (@pe_op _ _ _ _ _ _ _ _ op_mul (pv 3) (@pe_op _ _ _ _ _ _ _ _ op_add (@pe_op _ _ _ _ _ _ _ _ op_mod (pv 3) pe_int) pe_int)) pe_int) pe_int) (pv 1)))))))), ?_⟩
  refine ⟨_, rfl, a, _, 2, _, rfl, rfl, SqL.of e, at3_2 _ _ _, _, _, rfl, rfl, _, rfl, a, _, 2, _, rfl, rfl, e, rfl, ?_⟩
  have e1 : upd H a (.lst [.int p, .int q, .int (r + 1)]) a = some (.lst [.int p, .int q, .int (r + 1)]) := upd_same
  refine ⟨_, rfl, a, _, 0, _, rfl, rfl, SqL.of e1, at3_0 _ _ _, _, _, rfl, rfl, _, rfl, ?_⟩
  refine ite2 (fun c => ?_) (fun c => ?_)
  · refine ⟨_, rfl, a, _, 0, _, rfl, rfl, SqL.of e1, at3_0 _ _ _, _, rfl, _, _, rfl, rfl, h0, ?_⟩
    refine ⟨_, rfl, a, _, 0, _, rfl, rfl, SqL.of e1, at3_0 _ _ _, _, rfl, _, _, rfl, rfl, ⟨h0, h1⟩, _, rfl, a, _, 0, _, rfl, rfl, e1, rfl, ?_⟩
    refine ⟨_, rfl, ?_⟩
    refine hq (p % n) _ (Int.emod_nonneg _ (by omega)) (Int.emod_lt_of_pos _ h0) ⟨_, _, _, upd_same⟩ ?_
    rw [upd_upd]
    exact grw_upd
  · refine ⟨_, rfl, a, _, 1, _, rfl, rfl, SqL.of e1, at3_1 _ _ _, _, rfl, a, _, 2, _, rfl, rfl, SqL.of e1, at3_2 _ _ _, _, _, rfl, rfl, mulL rfl rfl, _, _, rfl, rfl, _, _, rfl, rfl, _, _, rfl, rfl, mulR rfl rfl, _, _, rfl, rfl, posI rfl, ?_⟩
    refine ⟨_, rfl, _, rfl, _, _, rfl, rfl, posI rfl, _, rfl, a, _, 2, _, rfl, rfl, SqL.of e1, at3_2 _ _ _, _, _, rfl, rfl, _, _, rfl, rfl, _, _, rfl, rfl, mulM _ _ _ rfl rfl, _, _, rfl, rfl, posI rfl, ?_⟩
    refine ⟨_, rfl, _, rfl, _, _, rfl, rfl, posI rfl, _, _, rfl, rfl, _, _, rfl, rfl, mulM _ _ _ rfl rfl, _, _, rfl, rfl, posI rfl, _, _, rfl, rfl, cdivI rfl rfl, _, rfl, _, _, rfl, rfl, h0, ?_⟩
    exact hq _ _ (Int.emod_nonneg _ (by omega)) (Int.emod_lt_of_pos _ h0) ⟨_, _, _, e1⟩ grw_upd
theorem ok_pen (F : Fun K "_law_pen" "_law_pen" s_l_pen f fd) (z_len : mg "len" = none) : FnOk P w K mg base CX0 1 f fd ["_law_script", "_law_k"] (spPen K) := by
  refine F.ok sc_l_pen (fun vs H Q E h => ?_) (fun cdv A outer s H vs Q E hr h => ?_)
  · obtain ⟨a, ns, k, rfl, _⟩ := h
    rfl
  obtain ⟨a, ns, k, rfl, hS, h0, hq⟩ := h
  have hl : (ns.map V.int).length = ns.length := List.length_map _
  refine ⟨_, (@pss_cons _ _ _ _ _ (@ps_set _ _ 2 _ _ _ _ sc_l_pen.nd rfl (Or.inl rfl) (@pe_op _ _ _ _ _ _ _ _ op_add (@pe_op _ _ _ _ _ _ _ _ op_mul pe_int (pv 1)) pe_int) (by rfl) (by first | exact .inl rfl | exact .inr rfl))
  (@pss_cons _ _ _ _ _ (@ps_if _ _ _ _ _ _ _ _ (@pt_cmpR _ _ _ _ _ _ _ _ op_lt (pv 1) (pe_callB call_len_seq rfl z_len PySem.boot_len (@pa_cons _ _ _ _ _ (pv 0) pa_nil (by rfl))) (nomark _)) (@pss_one _ _ _ (@ps_set _ _ 2 _ _ _ _ sc_l_pen.nd rfl (Or.inl rfl) (@pe_ix _ _ _ _ _ _ _ ix_list (pv 0) (pv 1) (fun _ _ => rfl)) (by rfl) (by first | exact .inl rfl | exact .inr rfl))) (@pss_one _ _ _ (@ps_if _ _ _ _ _ _ _ _ (@pt_cmpR _ _ _ _ _ _ _ _ op_gt (pe_callB call_len_seq rfl z_len PySem.boot_len (@pa_cons _ _ _ _ _ (pv 0) pa_nil (by rfl))) pe_int (nomark _)) (@pss_one _ _ _ (@ps_set _ _ 2 _ _ _ _ sc_l_pen.nd rfl (Or.inl rfl) (@pe_op _ _ _ _ _ _ _ _ op_add (@pe_ix _ _ _ _ _ _ _ ix_list (pv 0) (@pe_op _ _ _ _ _ _ _ _ op_mod (pv 1) (pe_callB call_len_seq rfl z_len PySem.boot_len (@pa_cons _ _ _ _ _ (pv 0) pa_nil (by rfl)))) (fun _ _ => rfl)) (@pe_op _ _ _ _ _ _ _ _ op_mul pe_int (pv 1))) (by rfl) (by first | exact .inl rfl | exact .inr rfl))) pss_nil)))
  (@pss_cons _ _ _ _ _ (@ps_if _ _ _ _ _ _ _ _ (@pt_cmpR _ _ _ _ _ _ _ _ op_ge (pv 2) (@pe_op _ _ _ _ _ _ _ _ op_pow pe_int pe_int) (nomark _)) (@pss_one _ _ _ (@ps_ret _ _ _ _ (@pe_lst _ _ _ _ (@pa_cons _ _ _ _ _ (@pe_op _ _ _ _ _ _ _ _ op_sub (pv 2) (@pe_op _ _ _ _ _ _ _ _ op_pow pe_int pe_int)) (@pa_cons _ _ _ _ _ (@pe_op _ _ _ _ _ _ _ _ op_mod (pv 2) pe_int) (@pa_cons _ _ _ _ _ pe_int pa_nil (by rfl)) (by rfl)) (by rfl))))) pss_nil)
  (@pss_one _ _ _ (@ps_ret _ _ _ _ (@pe_lst _ _ _ _ (@pa_cons _ _ _ _ _ pe_int (@pa_cons _ _ _ _ _ (@pe_op _ _ _ _ _ _ _ _ op_add (@pe_op _ _ _ _ _ _ _ _ op_mod (pv 2) pe_int) (@pe_op _ _ _ _ _ _ _ _ op_mul pe_int (pv 1))) (@pa_cons _ _ _ _ _ pe_int pa_nil (by rfl)) (by rfl)) (by rfl)))))))), ?_⟩
  refine ⟨_, rfl, _, _, rfl, rfl, mulL rfl rfl, _, _, rfl, rfl, ?_⟩
  refine ⟨_, rfl, _, rfl, a, _, rfl, .inl hS, _, _, rfl, rfl, _, rfl, ?_⟩
  have atn : ∀ i : Int, 0 ≤ i → i < ns.length → ∃ v : Int, atI (ns.map V.int) i = some (.int v) := fun i h1 h2 => by
    obtain ⟨v, hv, hm⟩ := atI_in (xs := ns.map V.int) h1 (by rw [hl]; exact h2)
    obtain ⟨n, _, rfl⟩ := List.mem_map.mp hm
    exact ⟨n, hv⟩
  have fin : ∀ x y z : Int, ∀ p, H p = none → Q (.ref p) (upd H p (.lst [.int x, .int y, .int z])) := fun x y z p hp => hq p _ hp (same_laid hp _) ⟨x, y, z, upd_same⟩
  refine ite2 (fun c => ?_) (fun c => ?_)
  · have c := of_decide_eq_true c
    rw [hl] at c
    obtain ⟨v, hv⟩ := atn k h0 c
    refine ⟨_, rfl, _, rfl, a, _, _, _, rfl, rfl, hS, hv, ?_⟩
    refine ⟨_, rfl, _, _, rfl, rfl, powI rfl rfl rfl, _, _, rfl, rfl, _, rfl, ?_⟩
    refine ite2 (fun c => ?_) (fun c => ?_)
    · refine ⟨_, rfl, _, _, rfl, rfl, powI rfl rfl rfl, _, _, rfl, rfl, _, rfl, _, _, rfl, rfl, posI rfl, leN rfl, fin _ _ _⟩
    · refine ⟨_, rfl, _, _, rfl, rfl, posI rfl, _, rfl, _, _, rfl, rfl, mulL rfl rfl, _, _, rfl, rfl, leN rfl, fin _ _ _⟩
  · refine ⟨_, rfl, a, _, rfl, .inl hS, _, _, rfl, rfl, _, rfl, ?_⟩
    refine ite2 (fun c => ?_) (fun c => ?_)
    · have c := of_decide_eq_true c
      rw [hl] at c
      have hm := Int.emod_nonneg k (show (ns.length : Int) ≠ 0 by omega)
      have hm2 := Int.emod_lt_of_pos k c
      obtain ⟨v, hv⟩ := atn (k % (ns.length : Int)) hm hm2
      refine ⟨_, rfl, _, rfl, _, rfl, a, _, rfl, .inl hS, _, _, rfl, rfl, by rw [hl]; exact c, a, _, _, _, rfl, rfl, hS, by rw [hl]; exact hv, _, rfl, _, _, rfl, rfl, mulL rfl rfl, _, _, rfl, rfl, ?_⟩
      refine ⟨_, rfl, _, _, rfl, rfl, powI rfl rfl rfl, _, _, rfl, rfl, _, rfl, ?_⟩
      refine ite2 (fun c => ?_) (fun c => ?_)
      · refine ⟨_, rfl, _, _, rfl, rfl, powI rfl rfl rfl, _, _, rfl, rfl, _, rfl, _, _, rfl, rfl, posI rfl, leN rfl, fin _ _ _⟩
      · refine ⟨_, rfl, _, _, rfl, rfl, posI rfl, _, rfl, _, _, rfl, rfl, mulL rfl rfl, _, _, rfl, rfl, leN rfl, fin _ _ _⟩
    · refine ⟨_, rfl, _, _, rfl, rfl, powI rfl rfl rfl, _, _, rfl, rfl, _, rfl, ?_⟩
      refine ite2 (fun c => ?_) (fun c => ?_)
      · refine ⟨_, rfl, _, _, rfl, rfl, powI rfl rfl rfl, _, _, rfl, rfl, _, rfl, _, _, rfl, rfl, posI rfl, leN rfl, fin _ _ _⟩
      · refine ⟨_, rfl, _, _, rfl, rfl, posI rfl, _, rfl, _, _, rfl, rfl, mulL rfl rfl, _, _, rfl, rfl, leN rfl, fin _ _ _⟩
theorem ok_word (F : Fun K "_law_word" "_law_word" s_l_word f fd) : FnOk P w K mg base CX0 1 f fd ["_law_pen_here", "_law_k"] spWord := by
  refine F.ok sc_l_word (fun vs H Q E h => ?_) (fun cdv A outer s H vs Q E hr h => ?_)
  · obtain ⟨x, k, rfl, _⟩ := h
    rfl
  obtain ⟨x, k, rfl, hq⟩ := h
  refine ⟨_, (@pss_cons _ _ _ _ _ (@ps_set _ _ 2 _ _ _ _ sc_l_word.nd rfl (Or.inl rfl) pe_str (by rfl) (by first | exact .inl rfl | exact .inr rfl))
  (@pss_cons _ _ _ _ _ (@ps_set _ _ 2 _ _ _ _ sc_l_word.nd rfl (Or.inl rfl) (@pe_op _ _ _ _ _ _ _ _ op_add_str (pv 2) pe_str) (by rfl) (by first | exact .inl rfl | exact .inr rfl))
  (@pss_one _ _ _ (@ps_ret _ _ _ _ (@pe_ix _ _ _ _ _ _ _ ix_list (pe_bm PySem.F.plainAttrs_str PySem.F.slot_str_split PySem.F.type_str_split mt_split (pv 2) (@pa_cons _ _ _ _ _ pe_str pa_nil (by rfl))) (@pe_op _ _ _ _ _ _ _ _ op_mod (pv 1) pe_int) (fun _ _ => rfl)))))), ?_⟩
  refine ⟨_, rfl, wordA, wordB, rfl, rfl, word_ab, ?_⟩
  refine ⟨_, rfl, rfl, wordA ++ wordB, " ", words, rfl, rfl, word_k, word_e, word_o, word_l, word_parts, by decide, fun l hl => ?_⟩
  obtain ⟨v, hv, hm⟩ := atI_in (xs := words.map V.str) (i := k % 26) (Int.emod_nonneg _ (by decide)) (by rw [List.length_map]; exact Int.emod_lt_of_pos _ (by decide))
  obtain ⟨z, hz, rfl⟩ := List.mem_map.mp hm
  refine ⟨_, rfl, _, _, rfl, rfl, posI rfl, l, _, _, _, rfl, rfl, SqL.of upd_same, hv, ?_⟩
  exact hq z _ hz (same_laid hl _)
theorem ok_many (h_l_draw : Has P w K mg base "_law_draw" 1 ["_law_pen_here", "_law_size"] spDraw) (F : Fun K "_law_many" "_law_many" s_l_many f fd) : FnOk P w K mg base CX0 2 f fd ["_law_pen_here"] spMany := by
  refine F.ok sc_l_many (fun vs H Q E h => ?_) (fun cdv A outer s H vs Q E hr h => ?_)
  · obtain ⟨a, rfl, _⟩ := h
    rfl
  obtain ⟨a, rfl, hp, hq⟩ := h
  refine ⟨_, (@pss_cons _ _ _ _ _ (@ps_if _ _ _ _ _ _ _ _ (@pt_cmpR _ _ _ _ _ _ _ _ op_eq (pe_callH h_l_draw hr (@pa_cons _ _ _ _ _ (pv 0) (@pa_cons _ _ _ _ _ pe_int pa_nil (by rfl)) (by rfl))) pe_int (nomark _)) (@pss_one _ _ _ (@ps_ret _ _ _ _ (@pe_op _ _ _ _ _ _ _ _ op_add pe_int (pe_callH h_l_draw hr (@pa_cons _ _ _ _ _ (pv 0) (@pa_cons _ _ _ _ _ (@pe_op _ _ _ _ _ _ _ _ op_sub (@pe_op _ _ _ _ _ _ _ _ op_pow pe_int pe_int) pe_int) pa_nil (by rfl)) (by rfl)))))) pss_nil)
  (@pss_one _ _ _ (@ps_ret _ _ _ _ (@pe_op _ _ _ _ _ _ _ _ op_add pe_int (pe_callH h_l_draw hr (@pa_cons _ _ _ _ _ (pv 0) (@pa_cons _ _ _ _ _ (@pe_ix _ _ _ _ _ _ _ ix_list (@pe_lst _ _ _ _ (@pa_cons _ _ _ _ _ pe_int (@pa_cons _ _ _ _ _ pe_int (@pa_cons _ _ _ _ _ pe_int pa_nil (by rfl)) (by rfl)) (by rfl))) (pe_callH h_l_draw hr (@pa_cons _ _ _ _ _ (pv 0) (@pa_cons _ _ _ _ _ pe_int pa_nil (by rfl)) (by rfl))) (fun _ _ => rfl)) pa_nil (by rfl)) (by rfl))))))), ?_⟩
  refine ⟨_, rfl, a, 6, rfl, hp, posI rfl, ltI rfl, fun d1 H1 _ _ hp1 g1 => ⟨rfl, _, rfl, ?_⟩⟩
  refine ite2 (fun c => ?_) (fun c => ?_)
  · refine ⟨_, rfl, _, _, rfl, rfl, powI rfl rfl rfl, _, _, rfl, rfl, a, _, rfl, hp1, posI rfl, ltI rfl, fun d2 H2 x0 x1 hp2 g2 => ⟨_, _, rfl, rfl, ?_⟩⟩
    have x1 : d2 < 999999999 := x1
    exact hq _ _ (by omega) (by omega) hp2 (g1.trans g2)
  · refine ⟨_, rfl, leN rfl, fun p hn => ⟨_, rfl, a, 3, rfl, hp1.laid hn, posI rfl, ltI rfl, fun d2 H2 x0 x1 hp2 g2 => ?_⟩⟩
    obtain ⟨v, hv, hm⟩ := at3 (x := .int 1) (y := .int 2) (z := .int 9) x0 x1
    have hpa := hp1.ne hn
    have e2 : H2 p = some (.lst [.int 1, .int 2, .int 9]) := grw_get g2 hpa upd_same
    refine ⟨p, _, _, v, rfl, rfl, SqL.of e2, hv, ?_⟩
    obtain ⟨n, rfl, n0, n1⟩ : ∃ n : Int, v = .int n ∧ 0 < n ∧ n < 10 := by
      rcases hm with rfl | rfl | rfl
      · exact ⟨_, rfl, by decide, by decide⟩
      · exact ⟨_, rfl, by decide, by decide⟩
      · exact ⟨_, rfl, by decide, by decide⟩
    refine ⟨a, n, rfl, hp2, n0, by omega, fun d3 H3 y0 y1 hp3 g3 => ⟨_, _, rfl, rfl, ?_⟩⟩
    exact hq _ _ (by omega) (by omega) hp3 (g1.trans ((grw_laid hn).trans (g2.trans g3)))
end
end K08

namespace K08
open PySem L2
def spRoom : Sp := fun vs H Q _ => ∃ (a : Addr), vs = [.ref a] ∧ PenAt H a ∧ ∀ (r : Int) (H' : Hp), 1 ≤ r → r ≤ 20 → PenAt H' a → Grw a H H' → Q (.int r) H'
def spWhole : Sp := fun vs H Q _ => ∃ (i : Int), vs = [.int i] ∧ Q (.bl true) H
def spTally : Sp := fun vs H Q _ => ∃ (a : Addr) (room : Int), vs = [.ref a, .int room] ∧ PenAt H a ∧ 1 ≤ room ∧ room ≤ 20 ∧ ∀ (r : Addr) (t : Ty) (H' : Hp), t.Ok → (t.lt ≤ 1000000000000000000 ∧ ∀ p ∈ t.cs, p.2 ≤ 1000000000) → t.room = room → DV (hide a H') (.ref r) t.D → PenAt H' a → Grw a H H' → Q (.ref r) H'
section
variable {P : Program} {w : World} {K : PySem.W.Frag} {mg : Str → Option Value} {base : Heap} {f : Addr} {fd : FuncData}
theorem ok_room (h_l_draw : Has P w K mg base "_law_draw" 1 ["_law_pen_here", "_law_size"] spDraw) (F : Fun K "_law_room" "_law_room" s_l_room f fd) : FnOk P w K mg base CX0 2 f fd ["_law_pen_here"] spRoom := by
  refine F.ok sc_l_room (fun vs H Q E h => ?_) (fun cdv A outer s H vs Q E hr h => ?_)
  · obtain ⟨a, rfl, _⟩ := h
    rfl
  obtain ⟨a, rfl, hp, hq⟩ := h
  refine ⟨_, (@pss_one _ _ _ (@ps_ret _ _ _ _ (@pe_ix _ _ _ _ _ _ _ ix_list (@pe_lst _ _ _ _ (@pa_cons _ _ _ _ _ pe_int (@pa_cons _ _ _ _ _ pe_int (@pa_cons _ _ _ _ _ pe_int (@pa_cons _ _ _ _ _ (@pe_op _ _ _ _ _ _ _ _ op_add pe_int (pe_callH h_l_draw hr (@pa_cons _ _ _ _ _ (pv 0) (@pa_cons _ _ _ _ _ pe_int pa_nil (by rfl)) (by rfl)))) (@pa_cons _ _ _ _ _ pe_int (@pa_cons _ _ _ _ _ pe_int pa_nil (by rfl)) (by rfl)) (by rfl)) (by rfl)) (by rfl)) (by rfl))) (pe_callH h_l_draw hr (@pa_cons _ _ _ _ _ (pv 0) (@pa_cons _ _ _ _ _ pe_int pa_nil (by rfl)) (by rfl))) (fun _ _ => rfl)))), ?_⟩
  have gg : Grw a H H := Same.refl _
  refine ⟨_, rfl, a, 20, rfl, hp, posI rfl, ltI rfl, fun d H1 x0 x1 hp g1 => ⟨_, _, rfl, rfl, leN rfl, ?_⟩⟩
  have gg := gg.trans g1
  intro p n_p
  generalize hz : upd _ p _ = H2
  obtain ⟨hp, gz, ne_p, e_p⟩ := laid_pen hz n_p hp
  clear hz
  have gg := gg.trans gz
  refine ⟨_, rfl, a, 6, rfl, hp, posI rfl, ltI rfl, fun d2 H3 y0 y1 hp g3 => ?_⟩
  have gg := gg.trans g3
  have e_p := g3 _ _ e_p
  obtain ⟨v, hv, mv⟩ := pick e_p y0 y1
  refine ⟨p, _, _, v, rfl, rfl, hSqL e_p, hv, ?_⟩
  obtain ⟨r, rfl, r0, r1⟩ : ∃ r : Int, v = .int r ∧ 1 ≤ r ∧ r ≤ 20 := by
    simp only [List.mem_cons, List.not_mem_nil, or_false] at mv
    rcases mv with rfl | rfl | rfl | rfl | rfl | rfl
    · exact ⟨_, rfl, by decide, by decide⟩
    · exact ⟨_, rfl, by decide, by decide⟩
    · exact ⟨_, rfl, by decide, by decide⟩
    · exact ⟨_, rfl, by omega, by omega⟩
    · exact ⟨_, rfl, by decide, by decide⟩
    · exact ⟨_, rfl, by decide, by decide⟩
  exact hq r _ r0 r1 hp gg
theorem ok_tally (z_range : mg "range" = none) (z_sum : mg "sum" = none) (z_tuple : mg "tuple" = none) (z_sorted : mg "sorted" = none) (h_l_draw : Has P w K mg base "_law_draw" 1 ["_law_pen_here", "_law_size"] spDraw)
    (h_l_word : Has P w K mg base "_law_word" 1 ["_law_pen_here", "_law_k"] spWord) (h_l_many : Has P w K mg base "_law_many" 2 ["_law_pen_here"] spMany)
    (F : Fun K "_law_tally" "_law_tally" s_l_tally f fd) : FnOk P w K mg base CX0 3 f fd ["_law_pen_here", "_law_room_here"] spTally := by
  refine F.ok sc_l_tally (fun vs H Q E h => ?_) (fun cdv A outer s H vs Q E hr h => ?_)
  · obtain ⟨a, room, rfl, _⟩ := h
    rfl
  obtain ⟨a, room, rfl, hp, r0, r1, hq⟩ := h
  refine ⟨_, (@pss_cons _ _ _ _ _ (@ps_set _ _ 2 _ _ _ _ sc_l_tally.nd rfl (Or.inl rfl) (@pe_ix _ _ _ _ _ _ _ ix_list (@pe_lst _ _ _ _ (@pa_cons _ _ _ _ _ pe_int (@pa_cons _ _ _ _ _ pe_int (@pa_cons _ _ _ _ _ pe_int pa_nil (by rfl)) (by rfl)) (by rfl))) (pe_callH h_l_draw hr (@pa_cons _ _ _ _ _ (pv 0) (@pa_cons _ _ _ _ _ pe_int pa_nil (by rfl)) (by rfl))) (fun _ _ => rfl)) (by rfl) (by first | exact .inl rfl | exact .inr rfl))
  (@pss_cons _ _ _ _ _ (@ps_set _ _ 3 _ _ _ _ sc_l_tally.nd rfl (Or.inr rfl) pe_dnewK (by rfl) (by first | exact .inl rfl | exact .inr rfl))
  (@pss_cons _ _ _ _ _ (ps_for PassesOwn.never rfl (pi_range1 rfl z_range (@pa_cons _ _ _ _ _ (@pe_ix _ _ _ _ _ _ _ ix_list (@pe_lst _ _ _ _ (@pa_cons _ _ _ _ _ pe_int (@pa_cons _ _ _ _ _ (pv 1) (@pa_cons _ _ _ _ _ (pe_callH h_l_draw hr (@pa_cons _ _ _ _ _ (pv 0) (@pa_cons _ _ _ _ _ (@pe_op _ _ _ _ _ _ _ _ op_add (pv 1) pe_int) pa_nil (by rfl)) (by rfl))) (@pa_cons _ _ _ _ _ (pv 1) pa_nil (by rfl)) (by rfl)) (by rfl)) (by rfl))) (pe_callH h_l_draw hr (@pa_cons _ _ _ _ _ (pv 0) (@pa_cons _ _ _ _ _ pe_int pa_nil (by rfl)) (by rfl))) (fun _ _ => rfl)) pa_nil (by rfl))) (pg_name (i := 4) sc_l_tally.nd rfl (Or.inl rfl))
  (@pss_one _ _ _ (ps_dput (hu_of hr) (pv 3) (pe_callH h_l_word hr (@pa_cons _ _ _ _ _ (pv 0) (@pa_cons _ _ _ _ _ (pe_callH h_l_draw hr (@pa_cons _ _ _ _ _ (pv 0) (@pa_cons _ _ _ _ _ (pv 2) pa_nil (by rfl)) (by rfl))) pa_nil (by rfl)) (by rfl))) (pe_callH h_l_many hr (@pa_cons _ _ _ _ _ (pv 0) pa_nil (by rfl))) rfl)))
  (@pss_cons _ _ _ _ _ (@ps_set _ _ 5 _ _ _ _ sc_l_tally.nd rfl (Or.inl rfl) (@pe_ix _ _ _ _ _ _ _ ix_list (@pe_lst _ _ _ _ (@pa_cons _ _ _ _ _ pe_int (@pa_cons _ _ _ _ _ pe_int (@pa_cons _ _ _ _ _ (pe_callH h_l_many hr (@pa_cons _ _ _ _ _ (pv 0) pa_nil (by rfl))) (@pa_cons _ _ _ _ _ (@pe_op _ _ _ _ _ _ _ _ op_mul (pe_callH h_l_many hr (@pa_cons _ _ _ _ _ (pv 0) pa_nil (by rfl))) (@pe_op _ _ _ _ _ _ _ _ op_pow pe_int pe_int)) pa_nil (by rfl)) (by rfl)) (by rfl)) (by rfl))) (pe_callH h_l_draw hr (@pa_cons _ _ _ _ _ (pv 0) (@pa_cons _ _ _ _ _ pe_int pa_nil (by rfl)) (by rfl))) (fun _ _ => rfl)) (by rfl) (by first | exact .inl rfl | exact .inr rfl))
  (@pss_cons _ _ _ _ _ (@ps_set _ _ 6 _ _ _ _ sc_l_tally.nd rfl (Or.inl rfl) (@pe_ix _ _ _ _ _ _ _ ix_list (@pe_lst _ _ _ _ (@pa_cons _ _ _ _ _ pe_int (@pa_cons _ _ _ _ _ (@pe_op _ _ _ _ _ _ _ _ op_mul (@pe_op _ _ _ _ _ _ _ _ op_sub (pv 1) pe_int) (pv 5)) (@pa_cons _ _ _ _ _ (pe_callH h_l_draw hr (@pa_cons _ _ _ _ _ (pv 0) (@pa_cons _ _ _ _ _ (@pe_op _ _ _ _ _ _ _ _ op_add (@pe_op _ _ _ _ _ _ _ _ op_mul (@pe_op _ _ _ _ _ _ _ _ op_sub (pv 1) pe_int) (pv 5)) pe_int) pa_nil (by rfl)) (by rfl))) pa_nil (by rfl)) (by rfl)) (by rfl))) (pe_callH h_l_draw hr (@pa_cons _ _ _ _ _ (pv 0) (@pa_cons _ _ _ _ _ pe_int pa_nil (by rfl)) (by rfl))) (fun _ _ => rfl)) (by rfl) (by first | exact .inl rfl | exact .inr rfl))
  (@pss_cons _ _ _ _ _ (@ps_set _ _ 7 _ _ _ _ sc_l_tally.nd rfl (Or.inl rfl) (@pe_op _ _ _ _ _ _ _ _ op_add (@pe_op _ _ _ _ _ _ _ _ op_add (pe_callB (call_sum rfl) rfl z_sum PyProof.Rows.boot_sum (@pa_cons _ _ _ _ _ (pe_frz (pe_comp (own := ["_law_mark"]) (CompOk.of rfl rfl (by rfl) (by rfl) (by rfl)) (pi_dict (pv 3))
    (fun _ _ _ _ _ => (pg_name (i := 0) nd_l_tally_83_21 rfl (Or.inl rfl) (Or.inr rfl))) (fun _ _ _ _ _ => pts_nil)
    (fun _ _ _ _ _ => (pe_dget (hu_of hr) (pv 4) (pv 0) (fun _ _ => rfl))))) pa_nil (by rfl))) (@pe_op _ _ _ _ _ _ _ _ op_mul (@pe_op _ _ _ _ _ _ _ _ op_add (pv 1) pe_int) (pv 5))) (pv 6)) (by rfl) (by first | exact .inl rfl | exact .inr rfl))
  (@pss_one _ _ _ (@ps_ret _ _ _ _ (@pe_tup _ _ _ _ _ (@pa_cons _ _ _ _ _ (pv 1) (@pa_cons _ _ _ _ _ (pe_callTy call_tuple_of rfl z_tuple PyProof.Rows.boot_tuple (@pa_cons _ _ _ _ _ (pe_comp (own := ["_law_mark"]) (CompOk.of rfl rfl (by rfl) (by rfl) (by rfl)) (pi_list (pe_callB (call_sortD rfl) rfl z_sorted PyProof.Rows.boot_sorted (@pa_cons _ _ _ _ _ (pv 3) pa_nil (by rfl))))
    (fun _ _ _ _ _ => (pg_name (i := 0) nd_l_tally_84_34 rfl (Or.inl rfl) (Or.inr rfl))) (fun _ _ _ _ _ => pts_nil)
    (fun _ _ _ _ _ => (@pe_tup _ _ _ _ _ (@pa_cons _ _ _ _ _ (pv 0) (@pa_cons _ _ _ _ _ (pe_dget (hu_of hr) (pv 4) (pv 0) (fun _ _ => rfl)) pa_nil (by rfl)) (by rfl))))) pa_nil (by rfl))) (@pa_cons _ _ _ _ _ (pv 5) (@pa_cons _ _ _ _ _ (pv 7) pa_nil (by rfl)) (by rfl)) (by rfl)) (by rfl))))))))))), ?_⟩
  have gg : Grw a H H := Same.refl _
  refine ⟨leN rfl, ?_⟩
  intro p1 n_p1
  generalize hz : upd _ p1 _ = H1
  obtain ⟨hp, gz, ne_p1, e_p1⟩ := laid_pen hz n_p1 hp
  clear hz
  have gg := gg.trans gz
  refine ⟨_, rfl, a, 3, rfl, hp, posI rfl, ltI rfl, fun d1 H2 x0 x1 hp g2 => ?_⟩
  have gg := gg.trans g2
  have e_p1 := g2 _ _ e_p1
  obtain ⟨v, hv, mv⟩ := pick e_p1 x0 x1
  obtain ⟨few, rfl, f0, f1⟩ : ∃ n : Int, v = .int n ∧ 0 < n ∧ n < 100 := by
    simp only [List.mem_cons, List.not_mem_nil, or_false] at mv
    rcases mv with rfl | rfl | rfl
    · exact ⟨_, rfl, by decide, by decide⟩
    · exact ⟨_, rfl, by decide, by decide⟩
    · exact ⟨_, rfl, by decide, by decide⟩
  refine ⟨p1, _, _, _, rfl, rfl, hSqL e_p1, hv, ?_⟩
  clear hv mv e_p1
  have g0 := gg
  intro d n_d
  generalize hz : upd _ d _ = H3
  obtain ⟨hp, gz, ne_d, e_d⟩ := laid_pen hz n_d hp
  clear hz
  have gg := gg.trans gz
  have ngd : hide a H2 d = none := by rw [hide_ne ne_d]; exact n_d
  have gd := gz
  refine ⟨_, rfl, _, rfl, _, rfl, _, _, rfl, rfl, a, room + 1, rfl, hp, by omega, by omega, fun d2 H4 y0 y1 hp g4 => ?_⟩
  have gd := gd.trans g4
  have gg := gg.trans g4
  have e_d := g4 _ _ e_d
  refine ⟨_, rfl, leN rfl, ?_⟩
  intro p2 n_p2
  generalize hz : upd _ p2 _ = H5
  obtain ⟨hp, gz, ne_p2, e_p2⟩ := laid_pen hz n_p2 hp
  clear hz
  have gg := gg.trans gz
  have e_d := gz _ _ e_d
  have gd := gd.trans gz
  refine ⟨_, rfl, a, 4, rfl, hp, posI rfl, ltI rfl, fun d3 H6 z0 z1 hp g6 => ?_⟩
  have gd := gd.trans g6
  have gg := gg.trans g6
  have e_d := g6 _ _ e_d
  have e_p2 := g6 _ _ e_p2
  obtain ⟨v, hv, mv⟩ := pick e_p2 z0 z1
  obtain ⟨n, rfl, n0, n1⟩ : ∃ n : Int, v = .int n ∧ 0 ≤ n ∧ n ≤ room := by
    simp only [List.mem_cons, List.not_mem_nil, or_false] at mv
    rcases mv with rfl | rfl | rfl | rfl
    · exact ⟨_, rfl, by decide, by omega⟩
    · exact ⟨_, rfl, by omega, by omega⟩
    · exact ⟨_, rfl, by omega, by omega⟩
    · exact ⟨_, rfl, by omega, by omega⟩
  refine ⟨p2, _, _, _, rfl, rfl, hSqL e_p2, hv, n, rfl, by omega, by omega, ?_⟩
  clear hv mv e_p2
  refine for_range (lo := 0) (fun i σ H' => ∃ (o4 : Option V) (ps : Ps), σ = [some (.ref a), some (.int room), some (.int few), some (.ref d), o4, none, none, none] ∧ PenAt H' a ∧ Same (hide a H2) (hide a H') ∧ hide a H' d = some (.dK (kvOf ps)) ∧ (ps.map (·.1)).Nodup ∧ (∀ p ∈ ps, p.1 ∈ words ∧ 1 ≤ p.2 ∧ p.2 ≤ 1000000000) ∧ ps.length ≤ i)
    ⟨_, [], rfl, hp, gd, e_d, List.nodup_nil, (fun _ h => nomatch h), Nat.le_refl _⟩ ?_ ?_
  · rintro i σ H7 hi ⟨o4, ps, rfl, hp, gg, e_d, nd, ok, len⟩
    refine ⟨_, rfl, a, rfl, hp, fun mm H8 m0 m1 hp g8 => ?_⟩
    have gg := gg.trans g8
    have e_d := g8 _ _ e_d
    refine ⟨_, rfl, _, rfl, _, rfl, _, rfl, a, few, rfl, hp, f0, by omega, fun dd H9 _ _ hp g9 => ?_⟩
    have gg := gg.trans g9
    have e_d := g9 _ _ e_d
    refine ⟨_, _, rfl, fun z H10 hz s10 => ?_⟩
    have g10 := hp.grw s10
    have hp := hp.same s10
    have gg := gg.trans g10
    have e_d := g10 _ _ e_d
    obtain ⟨qs, e1, nd1, ok1, len1⟩ := put_psW (n := mm) nd ok hz ⟨m0, m1⟩
    refine ⟨d, _, rfl, DPut.k (k := Sum.inr z) (hide_some e_d).2 (small_lt (by rw [kvOf_len]; omega)), _, qs, rfl, ?_, ?_, ?_, nd1, ok1, by omega⟩
    · obtain ⟨p1, p2, p3, ep⟩ := hp
      exact ⟨p1, p2, p3, by rw [upd_ne (Ne.symm ne_d)]; exact ep⟩
    · rw [hide_upd ne_d]
      exact same_fresh gg ngd
    · rw [hide_upd ne_d, e1]
      exact upd_same
  rintro σ H7 ⟨o4, ps, rfl, hp, gg, e_d, nd, ok, len⟩
  have gg := g0.trans gg
  have pl : (ps.length : Int) ≤ room := by omega
  clear len ngd gd
  refine ⟨_, rfl, a, rfl, hp, fun ma H8 ma0 ma1 hp g8 => ?_⟩
  have gg := gg.trans g8
  have e_d := g8 _ _ e_d
  refine ⟨_, rfl, a, rfl, hp, fun mb H9 mb0 mb1 hp g9 => ⟨_, _, rfl, rfl, powI rfl rfl rfl, _, _, rfl, rfl, Or.inl ⟨by omega, by omega⟩, leN rfl, ?_⟩⟩
  have gg := gg.trans g9
  have e_d := g9 _ _ e_d
  intro p3 n_p3
  generalize hz : upd _ p3 _ = H10
  obtain ⟨hp, gz, ne_p3, e_p3⟩ := laid_pen hz n_p3 hp
  clear hz
  have gg := gg.trans gz
  have e_d := gz _ _ e_d
  refine ⟨_, rfl, a, 4, rfl, hp, posI rfl, ltI rfl, fun d4 H11 w0 w1 hp g11 => ?_⟩
  have gg := gg.trans g11
  have e_d := g11 _ _ e_d
  have e_p3 := g11 _ _ e_p3
  obtain ⟨v, hv, mv⟩ := pick e_p3 w0 w1
  obtain ⟨lt, rfl, l0, lle⟩ : ∃ n : Int, v = .int n ∧ 0 ≤ n ∧ n ≤ 1000000000000000000 := by
    simp only [List.mem_cons, List.not_mem_nil, or_false] at mv
    rcases mv with rfl | rfl | rfl | rfl
    · exact ⟨_, rfl, by decide, by decide⟩
    · exact ⟨_, rfl, by decide, by decide⟩
    · exact ⟨_, rfl, by omega, by omega⟩
    · have e : (10 : Int) ^ (Int.toNat 9) = 1000000000 := by decide +kernel
      refine ⟨_, rfl, ?_, ?_⟩
      · rw [e]
        omega
      · rw [e]
        omega
  refine ⟨p3, _, _, _, rfl, rfl, hSqL e_p3, hv, ?_⟩
  clear hv mv e_p3
  have rl0 : 0 ≤ (room - 1) * lt := Int.mul_nonneg (by omega) l0
  have rl1 : (room - 1) * lt ≤ 19 * 1000000000000000000 := Int.le_trans (Int.mul_le_mul_of_nonneg_right (show room - 1 ≤ 19 by omega) l0) (by omega)
  refine ⟨_, rfl, _, _, rfl, rfl, _, rfl, _, _, rfl, rfl, Or.inl ⟨by omega, by omega⟩, ?_⟩
  refine ⟨_, rfl, _, rfl, _, _, rfl, rfl, _, rfl, _, _, rfl, rfl, Or.inl ⟨by omega, by omega⟩, _, _, rfl, rfl, a, (room - 1) * lt + 1, rfl, hp, by omega, by omega, fun d5 H12 q0 q1 hp g12 => ⟨leN rfl, ?_⟩⟩
  have gg := gg.trans g12
  have e_d := g12 _ _ e_d
  intro p4 n_p4
  generalize hz : upd _ p4 _ = H13
  obtain ⟨hp, gz, ne_p4, e_p4⟩ := laid_pen hz n_p4 hp
  clear hz
  have gg := gg.trans gz
  have e_d := gz _ _ e_d
  refine ⟨_, rfl, a, 3, rfl, hp, posI rfl, ltI rfl, fun d6 H14 u0 u1 hp g14 => ?_⟩
  have gg := gg.trans g14
  have e_d := g14 _ _ e_d
  have e_p4 := g14 _ _ e_p4
  obtain ⟨v, hv, mv⟩ := pick e_p4 u0 u1
  obtain ⟨more, rfl, o0, o1⟩ : ∃ n : Int, v = .int n ∧ 0 ≤ n ∧ n ≤ (room - 1) * lt := by
    simp only [List.mem_cons, List.not_mem_nil, or_false] at mv
    rcases mv with rfl | rfl | rfl
    · exact ⟨_, rfl, by decide, rl0⟩
    · exact ⟨_, rfl, rl0, Int.le_refl _⟩
    · exact ⟨_, rfl, q0, by omega⟩
  refine ⟨p4, _, _, _, rfl, rfl, hSqL e_p4, hv, ?_⟩
  clear hv mv e_p4
  refine ⟨d, _, (hide_some e_d).2, fun o => ?_⟩
  have kl := kvOf_len ps
  have nl := nsOf_len ps
  refine ⟨_, rfl, d, o, _, rfl, upd_same, ?_⟩
  refine comp_dict (fun i ys H' => H' = upd H14 d (.frz o (.dK (kvOf ps))) ∧ ys = ((nsOf ps).take i).map V.int) ⟨rfl, rfl⟩ ?_ ?_ ?_
  · rintro i ys H' ⟨rfl, _⟩
    exact upd_same
  · rintro i p ys H' C hp ⟨rfl, rfl⟩ hC
    unfold kvOf at hp
    rw [List.getElem?_map] at hp
    obtain ⟨q, hq1, rfl⟩ := Option.map_eq_some_iff.mp hp
    refine ⟨small_lt (by rw [List.length_map, List.length_take]; omega), Wk.refl _, _, rfl, _, rfl, d, _, rfl, .inl ⟨_, Sum.inr q.1, .inr ⟨o, upd_same⟩, rfl, (val_ps nd hq1).symm⟩, hC _ _ ⟨rfl, ?_⟩⟩
    have e : (nsOf ps)[i]? = some q.2 := by unfold nsOf; rw [List.getElem?_map, hq1]; rfl
    rw [take_one e, List.map_append]
    rfl
  rintro ys H' ⟨rfl, rfl⟩
  rw [kl, ← nl, List.take_length]
  refine ⟨small_le (by rw [List.length_map]; omega), fun p np => ?_⟩
  have hd := (hide_some e_d).2
  have npd : d ≠ p := ne_of_none upd_same np
  have nH : H14 p = none := by rw [upd_ne (Ne.symm npd)] at np; exact np
  refine ⟨by rw [upd_ne npd]; exact upd_same, ?_⟩
  have e3 : upd (upd (upd H14 d (.frz o (.dK (kvOf ps)))) p (.lst ((nsOf ps).map V.int))) d (.dK (kvOf ps)) p = some (.lst ((nsOf ps).map V.int)) := by rw [upd_ne (Ne.symm npd)]; exact upd_same
  have s15 : Same H14 (upd (upd (upd H14 d (.frz o (.dK (kvOf ps)))) p (.lst ((nsOf ps).map V.int))) d (.dK (kvOf ps))) := fun b u e => by
    by_cases hbd : b = d
    · subst hbd
      rw [hd] at e
      cases e
      exact upd_same
    · rw [upd_ne hbd, upd_ne (ne_of_none e nH), upd_ne hbd]
      exact e
  generalize upd (upd (upd H14 d (.frz o (.dK (kvOf ps)))) p (.lst ((nsOf ps).map V.int))) d (.dK (kvOf ps)) = H15 at e3 s15 ⊢
  have g15 := hp.grw s15
  have hp := hp.same s15
  have gg := gg.trans g15
  have e_d := g15 _ _ e_d
  refine ⟨p, _, rfl, SqL.of e3, _, rfl, _, _, rfl, rfl, _, rfl, _, _, rfl, rfl, Or.inl ⟨by omega, by omega⟩, _, _, rfl, rfl, _, rfl, _, _, rfl, rfl, ?_⟩
  have keys : (kvOf ps).map (·.1) = (ps.map (·.1)).map Sum.inr := kvOf_keys ps
  refine ⟨_, rfl, _, rfl, d, _, ps.map (·.1), rfl, (hide_some e_d).2, keys, by rw [List.length_map]; omega, ?_⟩
  intro q n_q
  generalize hz : upd _ q _ = H16
  obtain ⟨hp, gz, ne_q, e_q⟩ := laid_pen hz n_q hp
  clear hz
  have gg := gg.trans gz
  have e_d := gz _ _ e_d
  refine ⟨q, rfl, ⟨_, hSqL e_q⟩, ?_⟩
  have sl : (srtS (ps.map (·.1))).length = ps.length := by rw [(srtS_perm _).length_eq, List.length_map]
  have spl : (srtP ps).length = ps.length := (srtP_perm nd).length_eq
  refine comp_list (xs := (srtS (ps.map (·.1))).map V.str) (fun i ys H' => PenAt H' a ∧ Grw a H16 H' ∧ PairsAt (hide a H') ys (kvOf ((srtP ps).take i))) ⟨hp, Same.refl _, .nil⟩ ?_ ?_ ?_
  · rintro i ys H' _ ⟨_, g, _⟩
    exact hSqL (g _ _ e_q)
  · rintro i x ys H' C hx ⟨hp', g, pa⟩ hC
    rw [List.getElem?_map] at hx
    obtain ⟨z, hz, rfl⟩ := Option.map_eq_some_iff.mp hx
    have zin : z ∈ ps.map (·.1) := (srtS_perm _).mem_iff.mp (List.mem_of_getElem? hz)
    have e_d' := g _ _ e_d
    have yl := pa.length
    rw [kvOf_len, List.length_take] at yl
    have ez : (srtP ps)[i]? = some (z, look ps z) := by unfold srtP; rw [List.getElem?_map, hz]; rfl
    refine ⟨small_lt (by omega), Wk.refl _, _, rfl, _, rfl, _, rfl, d, _, rfl, .inl ⟨_, Sum.inr z, .inl (hide_some e_d').2, rfl, (look_val nd zin).symm⟩, leN rfl, fun r nr => ?_⟩
    have er : hide a (upd H' r (.tup [.str z, .int (look ps z)])) r = some (.tup [.str z, .int (look ps z)]) := by rw [hide_ne (hp'.ne nr)]; exact upd_same
    refine hC _ _ ⟨hp'.laid nr, g.trans (grw_laid nr), ?_⟩
    rw [take_one ez]
    unfold kvOf
    rw [List.map_append]
    exact (pa.mono (grw_laid nr)).append (.cons er .nil)
  · rintro ys H' ⟨hp, g, pa⟩
    have yl := pa.length
    rw [kvOf_len, List.length_take, spl, List.length_map, sl] at yl
    rw [List.length_map, sl, ← spl, List.take_length] at pa
    have gg := gg.trans g
    have k_pa := pa
    refine ⟨small_le (by omega), ?_⟩
    intro l1 n_l1
    generalize hz : upd _ l1 _ = H17
    obtain ⟨hp, gz, ne_l1, e_l1⟩ := laid_pen hz n_l1 hp
    clear hz
    have gg := gg.trans gz
    have k_pa := k_pa.mono gz
    refine ⟨l1, _, rfl, .inl ⟨hSqL e_l1, ?_⟩⟩
    intro l2 n_l2
    generalize hz : upd _ l2 _ = H18
    obtain ⟨hp, gz, ne_l2, e_l2⟩ := laid_pen hz n_l2 hp
    clear hz
    have gg := gg.trans gz
    have k_pa := k_pa.mono gz
    refine ⟨_, rfl, _, rfl, leN rfl, ?_⟩
    intro r n_r
    generalize hz : upd _ r _ = H19
    obtain ⟨hp, gz, ne_r, e_r⟩ := laid_pen hz n_r hp
    clear hz
    have gg := gg.trans gz
    have k_pa := k_pa.mono gz
    have e_l2 := gz _ _ e_l2
    have psum : (nsOf (srtP ps)).sum = (nsOf ps).sum := perm_sum ((srtP_perm nd).map fun p : Str × Int => p.2)
    have tot : (nsOf ps).sum + (room + 1) * lt + more - (nsOf (srtP ps)).sum = (room + 1) * lt + more := by rw [psum]; omega
    refine hq r ⟨room, srtP ps, lt, (nsOf ps).sum + (room + 1) * lt + more⟩ _ ⟨r0, r1, ?_, ?_, ?_, ?_, ?_, l0, ?_, ?_⟩ ⟨lle, fun x hx => (ok x ((srtP_perm nd).mem_iff.mp hx)).2.2⟩ rfl (Ty.dv e_r e_l2 k_pa) hp gg
    · show ((srtP ps).map (·.1)).Nodup
      rw [srtP_keys]
      exact (srtS_perm _).nodup_iff.mpr nd
    · show ((srtP ps).map (·.1)).Pairwise _
      rw [srtP_keys]
      exact srtS_pw _
    · exact fun x hx => (ok x ((srtP_perm nd).mem_iff.mp hx)).1
    · exact fun x hx => (ok x ((srtP_perm nd).mem_iff.mp hx)).2.1
    · show ((srtP ps).length : Int) ≤ room
      omega
    · show (room + 1) * lt ≤ (nsOf ps).sum + (room + 1) * lt + more - (nsOf (srtP ps)).sum
      omega
    · show (nsOf ps).sum + (room + 1) * lt + more - (nsOf (srtP ps)).sum ≤ 2 * room * lt
      have e1 : 2 * room * lt = (room + 1) * lt + (room - 1) * lt := by rw [← Int.add_mul]; congr 1; omega
      omega
end
end K08

namespace K08
open PySem L2
def spIsWhole : Sp := fun vs H Q _ => ∃ (x : V) (T : String), vs = [x] ∧ Kd H x T ∧ Q (.bl (whV x)) H
def spWF : Sp := fun vs H Q _ => ∃ (x : V) (T : String) (l : Int), vs = [x, .int l] ∧ Kd H x T ∧ Q (.bl (wF x l)) H
def spWW : Sp := fun vs H Q _ => ∃ (i l m : Int), vs = [.int i, .int l, .int m] ∧ Q (.bl (decide (l ≤ i) && decide (i ≤ m))) H
def spMark : Sp := fun vs H Q _ => ∃ (x : V) (T : String), vs = [x] ∧ Kd H x T ∧ (∀ z, x = .str z → z.length ≤ 1000) ∧ ∀ H', Same H H' → Q (.bl (mkB x)) H'
section
variable {P : Program} {w : World} {K : PySem.W.Frag} {mg : Str → Option Value} {base : Heap} {f : Addr} {fd : FuncData}
theorem ok_is_whole (z_isinstance : mg "isinstance" = none) (z_int : mg "int" = none) (z_bool : mg "bool" = none) (F : Fun K "is_whole" "is_whole" s_is_whole f fd) : FnOk P w K mg base CX0 1 f fd ["thing"] spIsWhole := by
  refine F.ok sc_is_whole (fun vs H Q E h => ?_) (fun cdv A outer s H vs Q E hr h => ?_)
  · obtain ⟨x, T, rfl, _⟩ := h
    rfl
  obtain ⟨x, T, rfl, hk, hq⟩ := h
  refine ⟨_, (@pss_one _ _ _ (@ps_ret _ _ _ _ (@pe_and _ _ _ _ _ _ _ (pe_callB call_is rfl z_isinstance PyProof.Rows.boot_isinstance (@pa_cons _ _ _ _ _ (pv 0) (@pa_cons _ _ _ _ _ (pe_bltn (v := .ty "int") rfl z_int PyProof.Rows.boot_int rfl) pa_nil (by rfl)) (by rfl))) (@pe_one _ _ _ _ _ (@pe_not _ _ _ _ (pe_callB call_is rfl z_isinstance PyProof.Rows.boot_isinstance (@pa_cons _ _ _ _ _ (pv 0) (@pa_cons _ _ _ _ _ (pe_bltn (v := .ty "bool") rfl z_bool PyProof.Rows.boot_bool rfl) pa_nil (by rfl)) (by rfl)))))))), ?_⟩
  rw [← hk.wh] at hq
  refine ⟨_, rfl, _, _, "int", _, rfl, hk.ty, hk.kit (by decide) rfl, _, rfl, ?_⟩
  refine ite2 (fun c => ?_) (fun c => ?_)
  · refine ⟨_, rfl, _, _, "bool", _, rfl, hk.ty, hk.kit (by decide) rfl, _, rfl, ?_⟩
    rw [c, Bool.true_and] at hq
    exact hq
  · rw [Bool.eq_false_iff.mpr c, Bool.false_and] at hq
    exact hq
theorem ok_is_whole_from (h_is_whole : Has P w K mg base "is_whole" 1 ["thing"] spIsWhole) (F : Fun K "is_whole_from" "is_whole_from" s_is_whole_from f fd) : FnOk P w K mg base CX0 2 f fd ["thing", "least"] spWF := by
  refine F.ok sc_is_whole_from (fun vs H Q E h => ?_) (fun cdv A outer s H vs Q E hr h => ?_)
  · obtain ⟨x, T, l, rfl, _⟩ := h
    rfl
  obtain ⟨x, T, l, rfl, hk, hq⟩ := h
  refine ⟨_, (@pss_one _ _ _ (@ps_ret _ _ _ _ (@pe_and _ _ _ _ _ _ _ (pe_callH h_is_whole hr (@pa_cons _ _ _ _ _ (pv 0) pa_nil (by rfl))) (@pe_one _ _ _ _ _ (@pe_cmpR _ _ _ _ _ _ _ _ op_ge (pv 0) (pv 1) (nomark _)))))), ?_⟩
  refine ⟨_, rfl, x, T, rfl, hk, _, rfl, ?_⟩
  cases x with
  | int i => exact iteT ⟨_, rfl, _, rfl, _, _, rfl, rfl, hq⟩
  | _ => exact iteF hq
theorem ok_is_mark (z_isinstance : mg "isinstance" = none) (z_str : mg "str" = none) (z_len : mg "len" = none) (z_all : mg "all" = none) (g_LETTERS : ∃ u, mg "LETTERS" = some u ∧ RelV (.str letters) u) (g_LONGEST_MARK : ∃ u, mg "LONGEST_MARK" = some u ∧ RelV (.int 8) u)
    (F : Fun K "is_mark" "is_mark" s_is_mark f fd) : FnOk P w K mg base CX0 1 f fd ["thing"] spMark := by
  refine F.ok sc_is_mark (fun vs H Q E h => ?_) (fun cdv A outer s H vs Q E hr h => ?_)
  · obtain ⟨x, T, rfl, _⟩ := h
    rfl
  obtain ⟨x, T, rfl, hk, hl, hq⟩ := h
  refine ⟨_, (@pss_cons _ _ _ _ _ (@ps_if _ _ _ _ _ _ _ _ (PW.pt (@pw_or _ _ _ _ _ _ _ (@pt_not _ _ _ _ (pt_val (pe_callB call_is rfl z_isinstance PyProof.Rows.boot_isinstance (@pa_cons _ _ _ _ _ (pv 0) (@pa_cons _ _ _ _ _ (pe_bltn (v := .ty "str") rfl z_str PyProof.Rows.boot_str rfl) pa_nil (by rfl)) (by rfl))))) (@pw_or _ _ _ _ _ _ _ (@pt_cmpR _ _ _ _ _ _ _ _ op_lt (pe_callB call_len_str rfl z_len PySem.boot_len (@pa_cons _ _ _ _ _ (pv 0) pa_nil (by rfl))) pe_int (nomark _)) (@pw_or1 _ _ _ _ (@pt_cmpR _ _ _ _ _ _ _ _ op_gt (pe_callB call_len_str rfl z_len PySem.boot_len (@pa_cons _ _ _ _ _ (pv 0) pa_nil (by rfl))) (pe_globE rfl g_LONGEST_MARK) (nomark _)))))) (@pss_one _ _ _ (@ps_ret _ _ _ _ pe_bl)) pss_nil)
  (@pss_one _ _ _ (@ps_ret _ _ _ _ (pe_callB (call_all rfl) rfl z_all PyProof.Rows.boot_all (@pa_cons _ _ _ _ _ (pe_comp (own := ["sign"]) (CompOk.of rfl rfl (by rfl) (by rfl) (by rfl)) (pi_str (pv 0))
    (fun _ _ _ _ _ => (pg_name (i := 0) nd_is_mark_14_15 rfl (Or.inl rfl) (Or.inr rfl))) (fun _ _ _ _ _ => pts_nil)
    (fun _ _ _ _ _ => (@pe_cmpR _ _ _ _ _ _ _ _ op_in_str (pv 0) (pe_globE rfl g_LETTERS) (by with_unfolding_all rfl)))) pa_nil (by rfl)))))), ?_⟩
  have no : isKd T "str" = false → mkB x = false := fun e => by
    cases hk with
    | str z => exact absurd e (by decide)
    | _ => rfl
  refine ⟨_, rfl, _, _, "str", _, rfl, hk.ty, hk.kit (by decide) rfl, _, rfl, ?_⟩
  cases hc : isKd T "str" with
  | false =>
    have q := hq H (Same.refl _)
    rw [no hc] at q
    exact iteT q
  | true =>
    obtain ⟨z, rfl⟩ : ∃ z, x = .str z := by
      cases hk with
      | str z => exact ⟨z, rfl⟩
      | _ => exact absurd hc (by decide)
    refine iteF ?_
    have hz : z.length ≤ sizeLine := small_le (by have := hl z rfl; omega)
    refine ⟨_, rfl, z, rfl, hz, _, _, rfl, rfl, _, rfl, ?_⟩
    refine ite2 (fun c => ?_) (fun c => ?_)
    · have c := of_decide_eq_true c
      have q := hq H (Same.refl _)
      have e : mkB (.str z) = false := by
        show mkS z = false
        unfold mkS
        rw [decide_eq_false (by omega), Bool.false_and, Bool.false_and]
      rw [e] at q
      exact iteT q
    · have c := of_decide_eq_false (Bool.eq_false_iff.mpr c)
      refine ⟨_, rfl, z, rfl, hz, _, _, rfl, rfl, _, rfl, ?_⟩
      refine ite2 (fun c2 => ?_) (fun c2 => ?_)
      · have c2 := of_decide_eq_true c2
        have q := hq H (Same.refl _)
        have e : mkB (.str z) = false := by
          show mkS z = false
          unfold mkS
          rw [decide_eq_false (p := z.length ≤ 8) (by omega), Bool.and_false, Bool.false_and]
        rw [e] at q
        exact q
      · have c2 := of_decide_eq_false (Bool.eq_false_iff.mpr c2)
        refine ⟨_, rfl, z, rfl, ?_⟩
        have hsz : z.cps.size ≤ 8 := by
          have : z.length = z.cps.size := rfl
          omega
        refine comp_str (fun i ys H' => H' = H ∧ ys = ((z.cps.toList.take i).map sgB).map V.bl) ⟨rfl, rfl⟩ ?_ ?_
        · rintro i c ys H' C hx ⟨rfl, rfl⟩ hC
          have hx' : z.cps.toList[i]? = some c := by simpa using hx
          refine ⟨small_lt ?_, Wk.refl _, _, rfl, _, _, rfl, rfl, hC _ _ ⟨rfl, ?_⟩⟩
          · rw [List.length_map, List.length_map, List.length_take, Array.length_toList]
            omega
          · rw [take_one hx', List.map_append, List.map_append]
            rfl
        · rintro ys H' ⟨rfl, rfl⟩
          have e : z.cps.toList.take z.cps.size = z.cps.toList := by rw [← Array.length_toList, List.take_length]
          rw [e]
          refine ⟨small_le ?_, fun p hp => ⟨p, _, rfl, SqL.of upd_same, ?_⟩⟩
          · rw [List.length_map, List.length_map, Array.length_toList]
            omega
          · have q := hq _ (same_laid hp (.lst ((z.cps.toList.map sgB).map V.bl)))
            have e2 : mkB (.str z) = (z.cps.toList.map sgB).all id := by
              show mkS z = _
              unfold mkS
              rw [decide_eq_true (p := 1 ≤ z.length) (by omega), decide_eq_true (p := z.length ≤ 8) (by omega), List.all_map]
              rfl
            rw [e2] at q
            exact q
end
end K08

namespace K08
open PySem L2
/-- data of whatever kind, lists and tuples known so deep -/
def G0 (H : Hp) (x : V) : Prop := ∃ T, Kd H x T
def Gn : Nat → Hp → V → Prop
  | 0, H, x => G0 H x
  | n + 1, H, x => G0 H x ∧ ∀ a xs, x = .ref a → (H a = some (.tup xs) ∨ H a = some (.lst xs)) → xs.length ≤ 1000 ∧ (∀ z, xs[0]? = some (.str z) → z.length ≤ 1000) ∧ ∀ y ∈ xs, Gn n H y
theorem Gn.g0 : ∀ {n : Nat} {H : Hp} {x : V}, Gn n H x → G0 H x
  | 0, _, _, h => h
  | _ + 1, _, _, h => h.1
theorem kd_inv {H H' : Hp} (g : Same H H') {a : Addr} {T : String} (hk : Kd H (.ref a) T) {o : HO} (e : H' a = some o) : H a = some o := by
  cases hk with
  | lst e1 => have := g _ _ e1; rw [e] at this; rw [e1, this]
  | tup e1 => have := g _ _ e1; rw [e] at this; rw [e1, this]
  | dK e1 => have := g _ _ e1; rw [e] at this; rw [e1, this]
theorem Gn.mono {H H' : Hp} (g : Same H H') : ∀ {n : Nat} {x : V}, Gn n H x → Gn n H' x
  | 0, x, h => let ⟨T, k⟩ := h; ⟨T, k.mono g⟩
  | n + 1, x, h => by
    obtain ⟨⟨T, hk⟩, hi⟩ := h
    refine ⟨⟨T, hk.mono g⟩, fun a xs ex e => ?_⟩
    subst ex
    obtain ⟨l, q0, q⟩ := hi a xs rfl (e.imp (kd_inv g hk) (kd_inv g hk))
    exact ⟨l, q0, fun y hy => (q y hy).mono g⟩
theorem Kd.tupI {H : Hp} {x : V} {T : String} (h : Kd H x T) (e : isKd T "tuple" = true) : ∃ a xs, x = .ref a ∧ H a = some (.tup xs) := by
  cases h with
  | tup e1 => exact ⟨_, _, rfl, e1⟩
  | _ => simp [isKd] at e
theorem Kd.tupN {H : Hp} {x : V} {T : String} (h : Kd H x T) (e : isKd T "tuple" = false) {a : Addr} {xs : List V} (ex : x = .ref a) : H a ≠ some (.tup xs) := fun q => by
  subst ex
  cases h with
  | tup e1 => simp [isKd] at e
  | lst e1 => rw [q] at e1; cases e1
  | dK e1 => rw [q] at e1; cases e1
/-- a row of a mark and a count -/
def CntP (H : Hp) (x : V) (p : Str × Int) : Prop := ∃ a, x = .ref a ∧ H a = some (.tup [.str p.1, .int p.2]) ∧ mkS p.1 = true ∧ 1 ≤ p.2
inductive RowsP (H : Hp) : List V → Ps → Prop
  | nil : RowsP H [] []
  | cons {x : V} {p : Str × Int} {xs : List V} {ps : Ps} (h : CntP H x p) (r : RowsP H xs ps) : RowsP H (x :: xs) (p :: ps)
theorem CntP.mono {H H' : Hp} (g : Same H H') {x : V} {p : Str × Int} (h : CntP H x p) : CntP H' x p := let ⟨a, e, q, r⟩ := h; ⟨a, e, g _ _ q, r⟩
theorem RowsP.mono {H H' : Hp} (g : Same H H') : ∀ {xs : List V} {ps : Ps}, RowsP H xs ps → RowsP H' xs ps
  | _, _, .nil => .nil
  | _, _, .cons h r => .cons (h.mono g) (r.mono g)
theorem RowsP.length {H : Hp} : ∀ {xs : List V} {ps : Ps}, RowsP H xs ps → xs.length = ps.length
  | _, _, .nil => rfl
  | _, _, .cons _ r => congrArg (· + 1) r.length
theorem CntP.uni {H : Hp} {x : V} {p q : Str × Int} (h : CntP H x p) (g : CntP H x q) : p = q := by
  obtain ⟨a, rfl, e, _⟩ := h
  obtain ⟨b, e2, e3, _⟩ := g
  cases e2
  rw [e] at e3
  simp only [Option.some.injEq, HO.tup.injEq, List.cons.injEq, V.str.injEq, V.int.injEq, and_true] at e3
  exact Prod.ext e3.1 e3.2
theorem RowsP.uni {H : Hp} : ∀ {xs : List V} {ps qs : Ps}, RowsP H xs ps → RowsP H xs qs → ps = qs
  | _, _, _, .nil, .nil => rfl
  | _, _, _, .cons h r, .cons g s => by rw [h.uni g, r.uni s]
theorem RowsP.pairs {H : Hp} : ∀ {xs : List V} {ps : Ps}, RowsP H xs ps → PairsAt H xs (kvOf ps)
  | _, _, .nil => .nil
  | _, _, .cons ⟨a, e, q, _⟩ r => by subst e; exact .cons q r.pairs
theorem RowsP.of {H : Hp} : ∀ {xs : List V}, (∀ x ∈ xs, ∃ p, CntP H x p) → ∃ ps, RowsP H xs ps
  | [], _ => ⟨[], .nil⟩
  | x :: xs, h => by
    obtain ⟨p, hp⟩ := h x (.head _)
    obtain ⟨ps, r⟩ := RowsP.of fun y hy => h y (.tail _ hy)
    exact ⟨p :: ps, .cons hp r⟩
theorem RowsP.mem {H : Hp} : ∀ {xs : List V} {ps : Ps}, RowsP H xs ps → ∀ x ∈ xs, ∃ p, CntP H x p
  | _, _, .cons h r, x, hx => by
    rcases List.mem_cons.mp hx with e | m
    · rw [e]; exact ⟨_, h⟩
    · exact r.mem x m
def risL (zs : List Str) : Bool := (zs.zip (zs.drop 1)).all fun p => decide (p.1.cps.toList < p.2.cps.toList)
def wW : V → Int → Int → Bool
  | .int i, l, m => decide (l ≤ i) && decide (i ≤ m)
  | _, _, _ => false
def spWWK : Sp := fun vs H Q _ => ∃ (x : V) (T : String) (l m : Int), vs = [x, .int l, .int m] ∧ Kd H x T ∧ Q (.bl (wW x l m)) H
def spRmK : Sp := fun vs H Q _ => ∃ (x : V) (T : String), vs = [x] ∧ Kd H x T ∧ Q (.bl (wW x 1 20)) H
def spRiseL : Sp := fun vs H Q _ => ∃ (a : Addr) (zs : List Str), vs = [.ref a] ∧ H a = some (.lst (zs.map V.str)) ∧ zs.length ≤ 1000 ∧ ∀ H', Same H H' → Q (.bl (risL zs)) H'
def spIsCK (m : Addr) : Sp := fun vs H Q _ => ∃ (x : V), vs = [x, .ref m] ∧ Gn 1 H x ∧ ∀ (b : Bool) (H' : Hp), Same H H' → (b = true ↔ ∃ p, CntP H x p) → Q (.bl b) H'
def CtsP (H : Hp) (x : V) (ps : Ps) : Prop := ∃ c xs, x = .ref c ∧ H c = some (.tup xs) ∧ RowsP H xs ps ∧ risL (ps.map (·.1)) = true
def spAreK (m : Addr) : Sp := fun vs H Q _ => ∃ (x : V), vs = [x, .ref m] ∧ Gn 2 H x ∧ ∀ (b : Bool) (H' : Hp), Same H H' → (b = true ↔ ∃ ps, CtsP H x ps) → Q (.bl b) H'
section
variable {P : Program} {w : World} {K : PySem.W.Frag} {mg : Str → Option Value} {base : Heap} {f : Addr} {fd : FuncData}
theorem ok_wwk (h_is_whole_from : Has P w K mg base "is_whole_from" 2 ["thing", "least"] spWF) (F : Fun K "is_whole_within" "is_whole_within" s_is_whole_within f fd) : FnOk P w K mg base CX0 3 f fd ["thing", "least", "most"] spWWK := by
  refine F.ok sc_is_whole_within (fun vs H Q E h => ?_) (fun cdv A outer s H vs Q E hr h => ?_)
  · obtain ⟨x, T, l, m, rfl, _⟩ := h
    rfl
  obtain ⟨x, T, l, m, rfl, hk, hq⟩ := h
  refine ⟨_, (@pss_one _ _ _ (@ps_ret _ _ _ _ (@pe_and _ _ _ _ _ _ _ (pe_callH h_is_whole_from hr (@pa_cons _ _ _ _ _ (pv 0) (@pa_cons _ _ _ _ _ (pv 1) pa_nil (by rfl)) (by rfl))) (@pe_one _ _ _ _ _ (@pe_cmpR _ _ _ _ _ _ _ _ op_le (pv 0) (pv 2) (nomark _)))))), ?_⟩
  refine ⟨_, rfl, _, rfl, x, T, l, rfl, hk, _, rfl, ?_⟩
  cases x with
  | int i =>
    refine ite2 (fun c => ?_) (fun c => ?_)
    · have c : decide (l ≤ i) = true := c
      have hq : Q (.bl (decide (l ≤ i) && decide (i ≤ m))) H := hq
      rw [c, Bool.true_and] at hq
      exact ⟨_, rfl, _, rfl, _, _, rfl, rfl, hq⟩
    · have c : decide (l ≤ i) = false := Bool.eq_false_iff.mpr c
      have hq : Q (.bl (decide (l ≤ i) && decide (i ≤ m))) H := hq
      rw [c, Bool.false_and] at hq
      exact hq
  | _ => exact iteF hq
theorem ok_rmk (h_is_whole_within : Has P w K mg base "is_whole_within" 3 ["thing", "least", "most"] spWWK) (g_MOST_ROOM : ∃ u, mg "MOST_ROOM" = some u ∧ RelV (.int 20) u) (F : Fun K "is_room" "is_room" s_is_room f fd) : FnOk P w K mg base CX0 4 f fd ["thing"] spRmK := by
  refine F.ok sc_is_room (fun vs H Q E h => ?_) (fun cdv A outer s H vs Q E hr h => ?_)
  · obtain ⟨x, T, rfl, _⟩ := h
    rfl
  obtain ⟨x, T, rfl, hk, hq⟩ := h
  refine ⟨_, (@pss_one _ _ _ (@ps_ret _ _ _ _ (pe_callH h_is_whole_within hr (@pa_cons _ _ _ _ _ (pv 0) (@pa_cons _ _ _ _ _ pe_int (@pa_cons _ _ _ _ _ (pe_globE rfl g_MOST_ROOM) pa_nil (by rfl)) (by rfl)) (by rfl))))), ?_⟩
  exact ⟨_, rfl, x, T, 1, 20, rfl, hk, hq⟩
theorem ok_risel (z_all : mg "all" = none) (z_zip : mg "zip" = none) (F : Fun K "is_rising" "is_rising" s_is_rising f fd) : FnOk P w K mg base CX0 1 f fd ["parts"] spRiseL := by
  refine F.ok sc_is_rising (fun vs H Q E h => ?_) (fun cdv A outer s H vs Q E hr h => ?_)
  · obtain ⟨a, zs, rfl, _⟩ := h
    rfl
  obtain ⟨a, zs, rfl, e_a, zl, hq⟩ := h
  refine ⟨_, (@pss_one _ _ _ (@ps_ret _ _ _ _ (pe_callB (call_all rfl) rfl z_all PyProof.Rows.boot_all (@pa_cons _ _ _ _ _ (pe_comp (own := ["one", "other"]) (CompOk.of rfl rfl (by rfl) (by rfl) (by rfl)) (pi_zip rfl z_zip (@pa_cons _ _ _ _ _ (pv 0) (@pa_cons _ _ _ _ _ (pe_slice sl_list (pv 0) (po_some pe_int) po_none) pa_nil (by rfl)) (by rfl)))
    (fun _ _ _ _ _ => (pg_tupK K 2 rfl rfl (pgs_cons (pg_name (i := 0) nd_is_rising_16_15 rfl (Or.inl rfl) (Or.inr rfl)) (pgs_cons (pg_name (i := 1) nd_is_rising_16_15 rfl (Or.inl rfl) (Or.inr rfl)) pgs_nil)))) (fun _ _ _ _ _ => pts_nil)
    (fun _ _ _ _ _ => (@pe_cmpR _ _ _ _ _ _ _ _ op_lt_str (pv 0) (pv 1) (nomark _)))) pa_nil (by rfl))))), ?_⟩
  refine ⟨_, rfl, _, rfl, 1, rfl, a, _, rfl, SqL.of e_a, fun b n_b => ?_⟩
  have eb : cutV (zs.map V.str) (some 1) none = (zs.drop 1).map V.str := by
    unfold cutV
    have h := HT.sIx_nat (zs.map V.str).length 0 1
    rw [show ((1 : Nat) : Int) = 1 from rfl] at h
    rw [h, HT.sIx_none, List.length_map]
    rcases zs with _ | ⟨z, zs⟩
    · rfl
    · rw [List.length_cons, Nat.min_eq_left (by omega), List.map_drop]
      exact List.take_of_length_le (by rw [List.length_drop, List.length_map, List.length_cons]; omega)
  rw [eb]
  have g0 := same_laid n_b (.lst ((zs.drop 1).map V.str))
  have e_b := upd_same (H := H) (a := b) (o := .lst ((zs.drop 1).map V.str))
  have e_a := g0 _ _ e_a
  generalize upd H b (.lst ((zs.drop 1).map V.str)) = H1 at g0 e_b e_a ⊢
  refine ⟨a, b, rfl, ⟨_, SqL.of e_a⟩, ⟨_, SqL.of e_b⟩, ?_⟩
  have zp : (zs.zip (zs.drop 1)).length = min (zs.map V.str).length ((zs.drop 1).map V.str).length := by rw [List.length_zip, List.length_map, List.length_map]
  have ln : min (zs.map V.str).length ((zs.drop 1).map V.str).length ≤ 1000 := by rw [List.length_map, List.length_map]; omega
  refine comp_zip (xs := zs.map V.str) (zs := (zs.drop 1).map V.str) (fun n ys H' => Same H1 H' ∧ ys = (((zs.zip (zs.drop 1)).take n).map fun p => decide (p.1.cps.toList < p.2.cps.toList)).map V.bl) ⟨Same.refl _, rfl⟩ ?_ ?_ ?_ ?_
  · rintro n ys H' _ ⟨g, _⟩
    exact ⟨SqL.of (g _ _ e_a), SqL.of (g _ _ e_b)⟩
  · rintro n x z ys H' T C hx hz ⟨g, rfl⟩ nT hC
    rw [List.getElem?_map] at hx hz
    obtain ⟨x', hx', rfl⟩ := Option.map_eq_some_iff.mp hx
    obtain ⟨z', hz', rfl⟩ := Option.map_eq_some_iff.mp hz
    have hp : (zs.zip (zs.drop 1))[n]? = some (x', z') := List.getElem?_zip_eq_some.mpr ⟨hx', hz'⟩
    refine ⟨small_lt ?_, T, _, rfl, SqT.of upd_same, rfl, _, _, rfl, _, _, rfl, rfl, Wk.refl _, _, rfl, _, rfl, _, _, rfl, rfl, hC _ _ ⟨g.trans (same_laid nT _), ?_⟩⟩
    · rw [List.length_map, List.length_map, List.length_take]
      omega
    · rw [take_one hp, List.map_append, List.map_append]
      rfl
  · rintro n ys H' hn ⟨g, rfl⟩
    rw [List.length_map, List.length_map, List.length_take]
    exact small_lt (by omega)
  · rintro ys H' ⟨g, rfl⟩
    refine ⟨small_le ?_, fun p hp => ⟨p, _, rfl, SqL.of upd_same, ?_⟩⟩
    · rw [List.length_map, List.length_map, List.length_take]
      omega
    · rw [← zp, List.take_length, List.all_map]
      exact hq _ (g0.trans (g.trans (same_laid hp _)))
theorem ok_isck (z_isinstance : mg "isinstance" = none) (z_tuple : mg "tuple" = none) (z_len : mg "len" = none) (h_is_whole_from : Has P w K mg base "is_whole_from" 2 ["thing", "least"] spWF) {m : Addr} {fm : FuncData} (FM : FnOk P w K mg base CX0 1 m fm ["thing"] spMark) (BM : Binds K fm ["thing"] []) (CM : Cal base m)
    (F : Fun K "is_count" "is_count" s_is_count f fd) : FnOk P w K mg base CX0 3 f fd ["thing", "is_key"] (spIsCK m) := by
  refine F.ok sc_is_count (fun vs H Q E h => ?_) (fun cdv A outer s H vs Q E hr h => ?_)
  · obtain ⟨x, rfl, _⟩ := h
    rfl
  obtain ⟨x, rfl, ⟨⟨T, hk⟩, hi⟩, hq⟩ := h
  refine ⟨_, (@pss_cons _ _ _ _ _ (@ps_if _ _ _ _ _ _ _ _ (PW.pt (@pw_or _ _ _ _ _ _ _ (@pt_not _ _ _ _ (pt_val (pe_callB call_is rfl z_isinstance PyProof.Rows.boot_isinstance (@pa_cons _ _ _ _ _ (pv 0) (@pa_cons _ _ _ _ _ (pe_bltn (v := .ty "tuple") rfl z_tuple PyProof.Rows.boot_tuple rfl) pa_nil (by rfl)) (by rfl))))) (@pw_or1 _ _ _ _ (@pt_cmpR _ _ _ _ _ _ _ _ op_ne (pe_callB call_len_seq rfl z_len PySem.boot_len (@pa_cons _ _ _ _ _ (pv 0) pa_nil (by rfl))) pe_int (nomark _))))) (@pss_one _ _ _ (@ps_ret _ _ _ _ pe_bl)) pss_nil)
  (@pss_cons _ _ _ _ _ (ps_asg (pv 0) (pg_tup rfl (pgs_cons (pg_name (i := 2) sc_is_count.nd rfl (Or.inl rfl)) (pgs_cons (pg_name (i := 3) sc_is_count.nd rfl (Or.inl rfl)) pgs_nil))))
  (@pss_one _ _ _ (@ps_ret _ _ _ _ (@pe_and _ _ _ _ _ _ _ (pe_callV (i := 1) hr (@pa_cons _ _ _ _ _ (pv 2) pa_nil (by rfl))) (@pe_one _ _ _ _ _ (pe_callH h_is_whole_from hr (@pa_cons _ _ _ _ _ (pv 3) (@pa_cons _ _ _ _ _ pe_int pa_nil (by rfl)) (by rfl))))))))), ?_⟩
  refine ⟨_, rfl, _, _, "tuple", _, rfl, hk.ty, hk.kit (by decide) rfl, _, rfl, ?_⟩
  by_cases ht : isKd T "tuple" = true
  · obtain ⟨a, xs, rfl, e⟩ := Kd.tupI hk ht
    rw [ht]
    refine iteF ⟨_, rfl, a, xs, rfl, .inr (SqT.of e), rfl, _, rfl, ite2 (fun c => ?_) (fun c => ?_)⟩
    · refine hq false H (Same.refl _) ⟨(fun z => nomatch z), fun ⟨p, b, e1, e2, _⟩ => ?_⟩
      cases e1
      rw [e] at e2
      cases e2
      simp at c
    · obtain ⟨_, hz0, hy⟩ := hi a xs rfl (.inl e)
      have xl : xs.length = 2 := by
        have : ((xs.length : Nat) : Int) = 2 := by simpa using c
        omega
      match xs, xl, e, hy, hz0 with
      | [k, n], _, e, hy, hz0 =>
        obtain ⟨Tk, hk1⟩ := hy k (.head _)
        have hkz : ∀ z, k = .str z → z.length ≤ 1000 := fun z ez => hz0 z (by rw [ez]; rfl)
        obtain ⟨Tn, hn1⟩ := hy n (.tail _ (.head _))
        refine ⟨_, rfl, a, _, rfl, SqT.of e, rfl, _, _, rfl, _, _, rfl, rfl, ?_⟩
        refine ⟨m, fm, _, _, rfl, FM.mono (by decide), BM, CM, _, rfl, _, Tk, rfl, hk1, hkz, fun H1 g1 => ⟨_, rfl, ?_⟩⟩
        have iff : (mkB k && wF n 1) = true ↔ ∃ p, CntP H (.ref a) p := by
          constructor
          · intro q
            obtain ⟨q1, q2⟩ := Bool.and_eq_true_iff.mp q
            cases k with
            | str z =>
              cases n with
              | int i => exact ⟨(z, i), a, rfl, e, q1, of_decide_eq_true q2⟩
              | _ => cases q2
            | _ => cases q1
          · rintro ⟨p, b, e1, e2, q1, q2⟩
            cases e1
            rw [e] at e2
            cases e2
            exact Bool.and_eq_true_iff.mpr ⟨q1, decide_eq_true q2⟩
        refine ite2 (fun c => ?_) (fun c => ?_)
        · rw [c, Bool.true_and] at iff
          exact ⟨_, rfl, n, Tn, 1, rfl, hn1.mono g1, hq _ _ g1 iff⟩
        · rw [Bool.eq_false_iff.mpr c, Bool.false_and] at iff
          exact hq _ _ g1 iff
  · have ht := Bool.eq_false_iff.mpr ht
    rw [ht]
    refine iteT (hq false H (Same.refl _) ⟨(fun z => nomatch z), fun ⟨p, b, e1, e2, _⟩ => ?_⟩)
    exact absurd e2 (Kd.tupN hk ht e1)
theorem ok_arek (z_isinstance : mg "isinstance" = none) (z_tuple : mg "tuple" = none) (z_all : mg "all" = none) {m : Addr} (h_is_count : Has P w K mg base "is_count" 3 ["thing", "is_key"] (spIsCK m)) (h_is_rising : Has P w K mg base "is_rising" 1 ["parts"] spRiseL)
    (F : Fun K "are_counts" "are_counts" s_are_counts f fd) : FnOk P w K mg base CX0 4 f fd ["thing", "is_key"] (spAreK m) := by
  refine F.ok sc_are_counts (fun vs H Q E h => ?_) (fun cdv A outer s H vs Q E hr h => ?_)
  · obtain ⟨x, rfl, _⟩ := h
    rfl
  obtain ⟨x, rfl, ⟨⟨T, hk⟩, hi⟩, hq⟩ := h
  refine ⟨_, (@pss_cons _ _ _ _ _ (@ps_if _ _ _ _ _ _ _ _ (PW.pt (@pw_or _ _ _ _ _ _ _ (@pt_not _ _ _ _ (pt_val (pe_callB call_is rfl z_isinstance PyProof.Rows.boot_isinstance (@pa_cons _ _ _ _ _ (pv 0) (@pa_cons _ _ _ _ _ (pe_bltn (v := .ty "tuple") rfl z_tuple PyProof.Rows.boot_tuple rfl) pa_nil (by rfl)) (by rfl))))) (@pw_or1 _ _ _ _ (@pt_not _ _ _ _ (pt_val (pe_callB (call_all rfl) rfl z_all PyProof.Rows.boot_all (@pa_cons _ _ _ _ _ (pe_comp (own := ["one"]) (CompOk.of rfl rfl (by rfl) (by rfl) (by rfl)) (pi_tup (pv 0))
    (fun _ _ _ _ _ => (pg_name (i := 0) nd_are_counts_25_47 rfl (Or.inl rfl) (Or.inr rfl))) (fun _ _ _ _ _ => pts_nil)
    (fun _ _ _ _ _ => (pe_callH h_is_count hr (@pa_cons _ _ _ _ _ (pv 0) (@pa_cons _ _ _ _ _ (pv 2) pa_nil (by rfl)) (by rfl))))) pa_nil (by rfl)))))))) (@pss_one _ _ _ (@ps_ret _ _ _ _ pe_bl)) pss_nil)
  (@pss_one _ _ _ (@ps_ret _ _ _ _ (pe_callH h_is_rising hr (@pa_cons _ _ _ _ _ (pe_comp (own := ["key", "count"]) (CompOk.of rfl rfl (by rfl) (by rfl) (by rfl)) (pi_tup (pv 0))
    (fun _ _ _ _ _ => (pg_tupK K 2 rfl rfl (pgs_cons (pg_name (i := 0) nd_are_counts_27_21 rfl (Or.inl rfl) (Or.inr rfl)) (pgs_cons (pg_name (i := 1) nd_are_counts_27_21 rfl (Or.inl rfl) (Or.inr rfl)) pgs_nil)))) (fun _ _ _ _ _ => pts_nil)
    (fun _ _ _ _ _ => (pv 0))) pa_nil (by rfl)))))), ?_⟩
  refine ⟨_, rfl, _, _, "tuple", _, rfl, hk.ty, hk.kit (by decide) rfl, _, rfl, ?_⟩
  by_cases ht : isKd T "tuple" = true
  · obtain ⟨a, xs, rfl, e⟩ := Kd.tupI hk ht
    obtain ⟨xl, _, hy⟩ := hi a xs rfl (.inl e)
    rw [ht]
    refine iteF ⟨_, rfl, a, rfl, ⟨_, SqT.of e⟩, ?_⟩
    refine comp_tup (xs := xs) (fun n ys H' => Same H H' ∧ ∃ bs : List Bool, ys = bs.map V.bl ∧ bs.length = n ∧ ∀ (j : Nat) b y, bs[j]? = some b → xs[j]? = some y → (b = true ↔ ∃ p, CntP H y p)) ⟨Same.refl _, [], rfl, rfl, fun j b y h => by simp at h⟩ ?_ ?_ ?_
    · rintro n ys H' _ ⟨g, _⟩
      exact SqT.of (g _ _ e)
    · rintro n y ys H' C hx ⟨g, bs, rfl, bl, hb⟩ hC
      have nl := (List.getElem?_eq_some_iff.mp hx).1
      refine ⟨small_lt (by rw [List.length_map]; omega), Wk.refl _, _, rfl, _, rfl, y, rfl, (hy y (List.mem_of_getElem? hx)).mono g, fun b H1 g1 iff => hC _ _ ⟨g.trans g1, bs ++ [b], by rw [List.map_append]; rfl, by rw [List.length_append, bl]; rfl, fun j b' y' h1 h2 => ?_⟩⟩
      by_cases hj : j < bs.length
      · rw [List.getElem?_append_left hj] at h1
        exact hb j b' y' h1 h2
      · have je : j = n := by
          have := (List.getElem?_eq_some_iff.mp h1).1
          rw [List.length_append, List.length_cons, List.length_nil] at this
          omega
        subst je
        rw [hx] at h2
        cases h2
        rw [← bl, List.getElem?_append_right (Nat.le_refl _), Nat.sub_self] at h1
        cases h1
        rw [iff]
        constructor
        · rintro ⟨p, c, e1, e2, q⟩
          refine ⟨p, c, e1, ?_, q⟩
          obtain ⟨⟨T2, hk2⟩, _⟩ := hy _ (List.mem_of_getElem? hx)
          subst e1
          exact kd_inv g hk2 e2
        · rintro ⟨p, h⟩
          exact ⟨p, h.mono g⟩
    · rintro ys H' ⟨g, bs, rfl, bl, hb⟩
      refine ⟨small_le (by rw [List.length_map]; omega), fun p hp => ⟨p, _, rfl, SqL.of upd_same, _, rfl, ?_⟩⟩
      have g1 := g.trans (same_laid hp (.lst (bs.map V.bl)))
      generalize upd H' p (.lst (bs.map V.bl)) = H1 at g1 ⊢
      by_cases all : bs.all id = true
      · rw [all]
        refine iteF ?_
        obtain ⟨ps, rp⟩ := RowsP.of (H := H) (xs := xs) fun y hy2 => by
          obtain ⟨j, hj⟩ := List.mem_iff_getElem?.mp hy2
          have jl : j < bs.length := by rw [bl]; exact (List.getElem?_eq_some_iff.mp hj).1
          have h1 : bs[j]? = some bs[j] := List.getElem?_eq_getElem jl
          exact (hb j _ y h1 hj).mp (List.all_eq_true.mp all _ (List.getElem_mem jl))
        have pl := rp.length
        refine ⟨_, rfl, a, rfl, ⟨_, SqT.of (g1 _ _ e)⟩, ?_⟩
        refine comp_pairs (fun _ => true) (fun t => .str t.1) (g1 _ _ e) (rp.pairs.mono g1) (by omega) ?_ ?_
        · rintro u q ys C mu eq hC _
          exact ⟨q, _, rfl, SqT.of eq, rfl, _, _, rfl, _, _, rfl, rfl, Wk.refl _, _, rfl, hC rfl⟩
        · rw [filter_all, show (ps.map fun t => V.str t.1) = (ps.map (·.1)).map V.str by rw [List.map_map]; rfl]
          intro q nq
          refine ⟨q, ps.map (·.1), rfl, upd_same, by rw [List.length_map]; omega, fun H2 g2 => hq _ _ (g1.trans ((same_laid nq _).trans g2)) ⟨fun r => ⟨ps, a, xs, rfl, e, rp, r⟩, ?_⟩⟩
          rintro ⟨ps', c, xs', e1, e2, rp', r⟩
          cases e1
          rw [e] at e2
          cases e2
          rw [rp.uni rp']
          exact r
      · rw [Bool.eq_false_iff.mpr all]
        refine iteT (hq false _ g1 ⟨(fun z => nomatch z), ?_⟩)
        rintro ⟨ps', c, xs', e1, e2, rp', r⟩
        cases e1
        rw [e] at e2
        cases e2
        refine absurd (List.all_eq_true.mpr fun b hb2 => ?_) all
        obtain ⟨j, hj⟩ := List.mem_iff_getElem?.mp hb2
        have jl : j < xs.length := by rw [← bl]; exact (List.getElem?_eq_some_iff.mp hj).1
        exact (hb j b _ hj (List.getElem?_eq_getElem jl)).mpr (rp'.mem _ (List.getElem_mem jl))
  · have ht := Bool.eq_false_iff.mpr ht
    rw [ht]
    refine iteT (hq false H (Same.refl _) ⟨(fun z => nomatch z), ?_⟩)
    rintro ⟨ps', c, xs', e1, e2, _⟩
    exact absurd e2 (Kd.tupN hk ht e1)
/-- made as a tally -/
structure MadP (H : Hp) (x : V) (t : Ty) : Prop where
  at_ : ∃ a c xs, x = .ref a ∧ H a = some (.tup [.int t.room, .ref c, .int t.lt, .int t.total]) ∧ H c = some (.tup xs) ∧ RowsP H xs t.cs
  rise : risL (t.cs.map (·.1)) = true
  r1 : 1 ≤ t.room
  r2 : t.room ≤ 20
  len : (t.cs.length : Int) ≤ t.room
  l0 : 0 ≤ t.lt
  t0 : 0 ≤ t.total
def spMadK : Sp := fun vs H Q _ => ∃ (x : V), vs = [x] ∧ Gn 3 H x ∧ ∀ (b : Bool) (H' : Hp), Same H H' → (b = true ↔ ∃ t, MadP H x t) → Q (.bl b) H'
theorem ok_madk (z_isinstance : mg "isinstance" = none) (z_tuple : mg "tuple" = none) (z_len : mg "len" = none) (h_is_whole_from : Has P w K mg base "is_whole_from" 2 ["thing", "least"] spWF) (h_is_room : Has P w K mg base "is_room" 4 ["thing"] spRmK) {m : Addr} (h_are_counts : Has P w K mg base "are_counts" 4 ["thing", "is_key"] (spAreK m))
    (g_is_mark : ∃ u, mg "is_mark" = some u ∧ RelV (.ref m) u) (F : Fun K "is_made_as_tally" "is_made_as_tally" s_is_made_as_tally f fd) : FnOk P w K mg base CX0 5 f fd ["thing"] spMadK := by
  refine F.ok sc_is_made_as_tally (fun vs H Q E h => ?_) (fun cdv A outer s H vs Q E hr h => ?_)
  · obtain ⟨x, rfl, _⟩ := h
    rfl
  obtain ⟨x, rfl, ⟨⟨T, hk⟩, hi⟩, hq⟩ := h
  refine ⟨_, (@pss_cons _ _ _ _ _ (@ps_if _ _ _ _ _ _ _ _ (PW.pt (@pw_or _ _ _ _ _ _ _ (@pt_not _ _ _ _ (pt_val (pe_callB call_is rfl z_isinstance PyProof.Rows.boot_isinstance (@pa_cons _ _ _ _ _ (pv 0) (@pa_cons _ _ _ _ _ (pe_bltn (v := .ty "tuple") rfl z_tuple PyProof.Rows.boot_tuple rfl) pa_nil (by rfl)) (by rfl))))) (@pw_or1 _ _ _ _ (@pt_cmpR _ _ _ _ _ _ _ _ op_ne (pe_callB call_len_seq rfl z_len PySem.boot_len (@pa_cons _ _ _ _ _ (pv 0) pa_nil (by rfl))) pe_int (nomark _))))) (@pss_one _ _ _ (@ps_ret _ _ _ _ pe_bl)) pss_nil)
  (@pss_cons _ _ _ _ _ (ps_asg (pv 0) (pg_tup rfl (pgs_cons (pg_name (i := 1) sc_is_made_as_tally.nd rfl (Or.inl rfl)) (pgs_cons (pg_name (i := 2) sc_is_made_as_tally.nd rfl (Or.inl rfl)) (pgs_cons (pg_name (i := 3) sc_is_made_as_tally.nd rfl (Or.inl rfl)) (pgs_cons (pg_name (i := 4) sc_is_made_as_tally.nd rfl (Or.inl rfl)) pgs_nil))))))
  (@pss_cons _ _ _ _ _ (@ps_if _ _ _ _ _ _ _ _ (PW.pt (@pw_or _ _ _ _ _ _ _ (@pt_not _ _ _ _ (pt_val (pe_callH h_is_room hr (@pa_cons _ _ _ _ _ (pv 1) pa_nil (by rfl))))) (@pw_or1 _ _ _ _ (@pt_not _ _ _ _ (pt_val (pe_callH h_are_counts hr (@pa_cons _ _ _ _ _ (pv 2) (@pa_cons _ _ _ _ _ (pe_globE rfl g_is_mark) pa_nil (by rfl)) (by rfl)))))))) (@pss_one _ _ _ (@ps_ret _ _ _ _ pe_bl)) pss_nil)
  (@pss_one _ _ _ (@ps_ret _ _ _ _ (@pe_and _ _ _ _ _ _ _ (@pe_cmpR _ _ _ _ _ _ _ _ op_le (pe_callB call_len_seq rfl z_len PySem.boot_len (@pa_cons _ _ _ _ _ (pv 2) pa_nil (by rfl))) (pv 1) (nomark _)) (@pe_and _ _ _ _ _ _ _ (pe_callH h_is_whole_from hr (@pa_cons _ _ _ _ _ (pv 3) (@pa_cons _ _ _ _ _ pe_int pa_nil (by rfl)) (by rfl))) (@pe_one _ _ _ _ _ (pe_callH h_is_whole_from hr (@pa_cons _ _ _ _ _ (pv 4) (@pa_cons _ _ _ _ _ pe_int pa_nil (by rfl)) (by rfl))))))))))), ?_⟩
  refine ⟨_, rfl, _, _, "tuple", _, rfl, hk.ty, hk.kit (by decide) rfl, _, rfl, ?_⟩
  by_cases ht : isKd T "tuple" = true
  · obtain ⟨a, xs, rfl, e⟩ := Kd.tupI hk ht
    obtain ⟨_, _, hy⟩ := hi a xs rfl (.inl e)
    rw [ht]
    refine iteF ⟨_, rfl, a, xs, rfl, .inr (SqT.of e), rfl, _, rfl, ite2 (fun c => ?_) (fun c => ?_)⟩
    · refine hq false H (Same.refl _) ⟨(fun z => nomatch z), fun ⟨t, my⟩ => ?_⟩
      obtain ⟨b, c2, xs2, e1, e2, _⟩ := my.at_
      cases e1
      rw [e] at e2
      cases e2
      simp at c
    have xl : xs.length = 4 := by
      have : ((xs.length : Nat) : Int) = 4 := by simpa using c
      omega
    match xs, xl, e, hy with
    | [r, k, l, t], _, e, hy =>
      have hr1 := hy r (.head _)
      have hk1 := hy k (.tail _ (.head _))
      have hl1 := hy l (.tail _ (.tail _ (.head _)))
      have ht1 := hy t (.tail _ (.tail _ (.tail _ (.head _))))
      obtain ⟨Tr, hr1⟩ := hr1.g0
      obtain ⟨Tl, hl1⟩ := hl1.g0
      obtain ⟨Tt, ht1⟩ := ht1.g0
      have inv : ∀ {y : Ty}, MadP H (.ref a) y → r = .int y.room ∧ (∃ c xs, k = .ref c ∧ H c = some (.tup xs) ∧ RowsP H xs y.cs) ∧ l = .int y.lt ∧ t = .int y.total := fun {y} my => by
        obtain ⟨b, c2, xs2, e1, e2, e3, e4⟩ := my.at_
        cases e1
        rw [e] at e2
        simp only [Option.some.injEq, HO.tup.injEq, List.cons.injEq, and_true] at e2
        obtain ⟨q1, q2, q3, q4⟩ := e2
        exact ⟨q1, ⟨c2, xs2, q2, e3, e4⟩, q3, q4⟩
      refine ⟨_, rfl, a, _, rfl, SqT.of e, rfl, _, _, rfl, _, _, rfl, _, _, rfl, _, _, rfl, rfl, ?_⟩
      refine ⟨_, rfl, r, Tr, rfl, hr1, _, rfl, ?_⟩
      by_cases cr : wW r 1 20 = true
      · obtain ⟨ri, rfl⟩ : ∃ i, r = .int i := by cases r <;> first | exact ⟨_, rfl⟩ | cases cr
        obtain ⟨ra, rb⟩ := Bool.and_eq_true_iff.mp (show (decide (1 ≤ ri) && decide (ri ≤ 20)) = true from cr)
        have ra := of_decide_eq_true ra
        have rb := of_decide_eq_true rb
        rw [cr]
        refine iteF ⟨_, rfl, k, rfl, hk1, fun b H1 g1 iff => ⟨_, rfl, ?_⟩⟩
        cases b with
        | false =>
          refine iteT (hq false H1 g1 ⟨(fun z => nomatch z), fun ⟨y, my⟩ => ?_⟩)
          obtain ⟨_, ⟨c, xs, e2, e3, e4⟩, _⟩ := inv my
          exact absurd (iff.mpr ⟨y.cs, c, xs, e2, e3, e4, my.rise⟩) Bool.false_ne_true
        | true =>
          obtain ⟨ps, cc, xs, rfl, ec, rp, rs⟩ := iff.mp rfl
          refine iteF ⟨_, rfl, cc, xs, rfl, .inr (SqT.of (g1 _ _ ec)), _, rfl, _, _, rfl, rfl, _, rfl, ?_⟩
          have pl := rp.length
          have csu : ∀ {y : Ty}, MadP H (.ref a) y → y.cs = ps := fun {y} my => by
            obtain ⟨_, ⟨c2, xs2, e2, e3, e4⟩, _⟩ := inv my
            cases e2
            rw [ec] at e3
            cases e3
            exact e4.uni rp
          refine ite2 (fun cl => ?_) (fun cl => ?_)
          · have cl := of_decide_eq_true cl
            refine ⟨_, rfl, l, Tl, 0, rfl, hl1.mono g1, _, rfl, ?_⟩
            refine ite2 (fun c1 => ?_) (fun c1 => ?_)
            · refine ⟨_, rfl, t, Tt, 0, rfl, ht1.mono g1, hq _ _ g1 ?_⟩
              obtain ⟨li, rfl⟩ : ∃ i, l = .int i := by cases l <;> first | exact ⟨_, rfl⟩ | cases c1
              constructor
              · intro c2
                obtain ⟨ti, rfl⟩ : ∃ i, t = .int i := by cases t <;> first | exact ⟨_, rfl⟩ | cases c2
                exact ⟨⟨ri, ps, li, ti⟩, ⟨a, cc, xs, rfl, e, ec, rp⟩, rs, ra, rb, by show (ps.length : Int) ≤ ri; omega, of_decide_eq_true c1, of_decide_eq_true c2⟩
              · rintro ⟨y, my⟩
                obtain ⟨_, _, _, q4⟩ := inv my
                rw [q4]
                exact decide_eq_true my.t0
            · refine hq _ _ g1 ⟨(fun z => nomatch z), fun ⟨y, my⟩ => ?_⟩
              obtain ⟨_, _, q3, _⟩ := inv my
              rw [q3] at c1
              exact absurd (decide_eq_true my.l0) c1
          · refine hq _ _ g1 ⟨(fun z => nomatch z), fun ⟨y, my⟩ => ?_⟩
            obtain ⟨q1, _⟩ := inv my
            have q1 := V.int.inj q1
            have h1 := my.len
            rw [csu my] at h1
            exact absurd (decide_eq_true (by omega)) cl
      · rw [Bool.eq_false_iff.mpr cr]
        refine iteT (hq false H (Same.refl _) ⟨(fun z => nomatch z), fun ⟨y, my⟩ => ?_⟩)
        obtain ⟨q1, _⟩ := inv my
        rw [q1] at cr
        exact absurd (Bool.and_eq_true_iff.mpr ⟨decide_eq_true my.r1, decide_eq_true my.r2⟩) cr
  · have ht := Bool.eq_false_iff.mpr ht
    rw [ht]
    refine iteT (hq false H (Same.refl _) ⟨(fun z => nomatch z), fun ⟨t, my⟩ => ?_⟩)
    obtain ⟨b, c2, xs2, e1, e2, _⟩ := my.at_
    exact absurd e2 (Kd.tupN hk ht e1)
def spUncK : Sp := fun vs H Q _ => ∃ (x : V) (t : Ty), vs = [x] ∧ MadP H x t ∧ ∀ (H' : Hp), Same H H' → Q (.int (t.total - (nsOf t.cs).sum)) H'
theorem ok_unck (z_sum : mg "sum" = none) (F : Fun K "uncounted_in" "uncounted_in" s_uncounted_in f fd) : FnOk P w K mg base CX0 1 f fd ["tally"] spUncK := by
  refine F.ok sc_uncounted_in (fun vs H Q E h => ?_) (fun cdv A outer s H vs Q E hr h => ?_)
  · obtain ⟨x, t, rfl, _⟩ := h
    rfl
  obtain ⟨x, t, rfl, my, hq⟩ := h
  refine ⟨_, (@pss_cons _ _ _ _ _ (ps_asg (pv 0) (pg_tup rfl (pgs_cons (pg_name (i := 1) sc_uncounted_in.nd rfl (Or.inl rfl)) (pgs_cons (pg_name (i := 2) sc_uncounted_in.nd rfl (Or.inl rfl)) (pgs_cons (pg_name (i := 3) sc_uncounted_in.nd rfl (Or.inl rfl)) (pgs_cons (pg_name (i := 4) sc_uncounted_in.nd rfl (Or.inl rfl)) pgs_nil))))))
  (@pss_one _ _ _ (@ps_ret _ _ _ _ (@pe_op _ _ _ _ _ _ _ _ op_sub (pv 4) (pe_callB (call_sum rfl) rfl z_sum PyProof.Rows.boot_sum (@pa_cons _ _ _ _ _ (pe_comp (own := ["mark", "count"]) (CompOk.of rfl rfl (by rfl) (by rfl) (by rfl)) (pi_tup (pv 2))
    (fun _ _ _ _ _ => (pg_tupK K 2 rfl rfl (pgs_cons (pg_name (i := 0) nd_uncounted_in_31_23 rfl (Or.inl rfl) (Or.inr rfl)) (pgs_cons (pg_name (i := 1) nd_uncounted_in_31_23 rfl (Or.inl rfl) (Or.inr rfl)) pgs_nil)))) (fun _ _ _ _ _ => pts_nil)
    (fun _ _ _ _ _ => (pv 1))) pa_nil (by rfl))))))), ?_⟩
  obtain ⟨a, c, xs, rfl, e, ec, rp⟩ := my.at_
  have pl := rp.length
  have l1 := my.len
  have l2 := my.r2
  refine ⟨_, rfl, a, _, rfl, SqT.of e, rfl, _, _, rfl, _, _, rfl, _, _, rfl, _, _, rfl, rfl, ?_⟩
  refine ⟨_, rfl, _, rfl, c, rfl, ⟨_, SqT.of ec⟩, ?_⟩
  refine comp_pairs (fun _ => true) (fun t => .int t.2) ec rp.pairs (by omega) ?_ ?_
  · rintro u q ys C mu eq hC _
    exact ⟨q, _, rfl, SqT.of eq, rfl, _, _, rfl, _, _, rfl, rfl, Wk.refl _, _, rfl, hC rfl⟩
  · rw [filter_all, show (t.cs.map fun t => V.int t.2) = (nsOf t.cs).map V.int by unfold nsOf; rw [List.map_map]; rfl]
    intro q nq
    exact ⟨q, nsOf t.cs, rfl, SqL.of upd_same, _, _, rfl, rfl, hq _ (same_laid nq _)⟩
/-- a tally -/
def TalP (H : Hp) (x : V) : Prop := ∃ t, MadP H x t ∧ (t.room + 1) * t.lt ≤ t.total - (nsOf t.cs).sum ∧ t.total - (nsOf t.cs).sum ≤ 2 * t.room * t.lt
def spTalK : Sp := fun vs H Q _ => ∃ (x : V), vs = [x] ∧ Gn 3 H x ∧ ∀ (b : Bool) (H' : Hp), Same H H' → (b = true ↔ TalP H x) → Q (.bl b) H'
theorem MadP.mono {H H' : Hp} {x : V} {t : Ty} (my : MadP H x t) (g : Same H H') : MadP H' x t := by
  obtain ⟨⟨a, c, xs, e1, e2, e3, e4⟩, m1, m2, m3, m4, m5, m6⟩ := my
  exact ⟨⟨a, c, xs, e1, g _ _ e2, g _ _ e3, e4.mono g⟩, m1, m2, m3, m4, m5, m6⟩
theorem MadP.uni {H : Hp} {x : V} {t u : Ty} (h : MadP H x t) (g : MadP H x u) : t = u := by
  obtain ⟨a, c, xs, rfl, e2, e3, e4⟩ := h.at_
  obtain ⟨a', c', xs', e1, f2, f3, f4⟩ := g.at_
  cases e1
  rw [e2] at f2
  simp only [Option.some.injEq, HO.tup.injEq, List.cons.injEq, V.int.injEq, V.ref.injEq, and_true] at f2
  obtain ⟨q1, q2, q3, q4⟩ := f2
  subst q2
  rw [e3] at f3
  cases f3
  obtain ⟨r1, c1, l1, t1⟩ := t
  obtain ⟨r2, c2, l2, t2⟩ := u
  have := e4.uni f4
  simp only at q1 q3 q4 this
  rw [q1, q3, q4, this]
theorem ok_talk (h_is_made_as_tally : Has P w K mg base "is_made_as_tally" 5 ["thing"] spMadK) (h_uncounted_in : Has P w K mg base "uncounted_in" 1 ["tally"] spUncK)
    (F : Fun K "is_tally" "is_tally" s_is_tally f fd) : FnOk P w K mg base CX0 6 f fd ["thing"] spTalK := by
  refine F.ok sc_is_tally (fun vs H Q E h => ?_) (fun cdv A outer s H vs Q E hr h => ?_)
  · obtain ⟨x, rfl, _⟩ := h
    rfl
  obtain ⟨x, rfl, gx, hq⟩ := h
  refine ⟨_, (@pss_cons _ _ _ _ _ (@ps_if _ _ _ _ _ _ _ _ (@pt_not _ _ _ _ (pt_val (pe_callH h_is_made_as_tally hr (@pa_cons _ _ _ _ _ (pv 0) pa_nil (by rfl))))) (@pss_one _ _ _ (@ps_ret _ _ _ _ pe_bl)) pss_nil)
  (@pss_cons _ _ _ _ _ (ps_asg (pv 0) (pg_tup rfl (pgs_cons (pg_name (i := 1) sc_is_tally.nd rfl (Or.inl rfl)) (pgs_cons (pg_name (i := 2) sc_is_tally.nd rfl (Or.inl rfl)) (pgs_cons (pg_name (i := 3) sc_is_tally.nd rfl (Or.inl rfl)) (pgs_cons (pg_name (i := 4) sc_is_tally.nd rfl (Or.inl rfl)) pgs_nil))))))
  (@pss_cons _ _ _ _ _ (@ps_set _ _ 5 _ _ _ _ sc_is_tally.nd rfl (Or.inl rfl) (pe_callH h_uncounted_in hr (@pa_cons _ _ _ _ _ (pv 0) pa_nil (by rfl))) (by rfl) (by first | exact .inl rfl | exact .inr rfl))
  (@pss_one _ _ _ (@ps_ret _ _ _ _ (@pe_and _ _ _ _ _ _ _ (@pe_cmpR _ _ _ _ _ _ _ _ op_le (@pe_op _ _ _ _ _ _ _ _ op_mul (@pe_op _ _ _ _ _ _ _ _ op_add (pv 1) pe_int) (pv 3)) (pv 5) (nomark _)) (@pe_one _ _ _ _ _ (@pe_cmpR _ _ _ _ _ _ _ _ op_le (pv 5) (@pe_op _ _ _ _ _ _ _ _ op_mul (@pe_op _ _ _ _ _ _ _ _ op_mul pe_int (pv 1)) (pv 3)) (nomark _))))))))), ?_⟩
  refine ⟨_, rfl, x, rfl, gx, fun b H1 g1 iff => ⟨_, rfl, ?_⟩⟩
  cases b with
  | false => exact iteT (hq false H1 g1 ⟨(fun z => nomatch z), fun ⟨t, my, _⟩ => absurd (iff.mpr ⟨t, my⟩) Bool.false_ne_true⟩)
  | true =>
    obtain ⟨t, my⟩ := iff.mp rfl
    have my1 := my.mono g1
    obtain ⟨a, c, xs, rfl, e, ec, rp⟩ := my1.at_
    have r1 := my.r1
    have r2 := my.r2
    refine iteF ⟨_, rfl, a, _, rfl, SqT.of e, rfl, _, _, rfl, _, _, rfl, _, _, rfl, _, _, rfl, rfl, ?_⟩
    refine ⟨_, rfl, .ref a, t, rfl, my1, fun H2 g2 => ?_⟩
    have g2 := g1.trans g2
    refine ⟨_, rfl, _, _, rfl, rfl, _, rfl, _, _, rfl, rfl, Or.inl ⟨by omega, by omega⟩, _, rfl, _, _, rfl, rfl, _, rfl, ?_⟩
    refine ite2 (fun c1 => ?_) (fun c1 => ?_)
    · have c1 := of_decide_eq_true c1
      refine ⟨_, rfl, _, rfl, _, _, rfl, rfl, Or.inl ⟨by decide, by decide⟩, _, rfl, _, _, rfl, rfl, Or.inl ⟨by omega, by omega⟩, _, _, rfl, rfl, hq _ _ g2 ⟨fun c2 => ⟨t, my, c1, of_decide_eq_true c2⟩, ?_⟩⟩
      rintro ⟨u, mu, _, h2⟩
      rw [my.uni mu]
      exact decide_eq_true h2
    · refine hq _ _ g2 ⟨(fun z => nomatch z), ?_⟩
      rintro ⟨u, mu, h1, _⟩
      rw [my.uni mu] at c1
      exact absurd (decide_eq_true h1) c1
end
end K08

namespace K08
open PySem L2
theorem op_ge_str {X : Cx} : OpR X (compareOp .GtE) (fun x y H Q => ∃ i j, x = .str i ∧ y = .str j ∧ Q (.bl (!decide (i.cps.toList < j.cps.toList))) H) := by
  intro pins s σ H x y v u Q I rx ry h
  obtain ⟨i, j, rfl, rfl, q⟩ := h
  obtain ⟨t, rfl⟩ := rx
  obtain ⟨t', rfl⟩ := ry
  exact PySem.P.ge_str (fin_bl I q rfl)
theorem risL_iff (zs : List Str) : risL zs = true ↔ ∀ (j : Nat) x y, zs[j]? = some x → zs[j + 1]? = some y → x.cps.toList < y.cps.toList := by
  unfold risL
  rw [List.all_eq_true]
  constructor
  · intro h j x y hx hy
    have hp : (zs.zip (zs.drop 1))[j]? = some (x, y) := List.getElem?_zip_eq_some.mpr ⟨hx, by rw [List.getElem?_drop, Nat.add_comm]; exact hy⟩
    exact of_decide_eq_true (h _ (List.mem_of_getElem? hp))
  · rintro h ⟨x, y⟩ hp
    obtain ⟨j, hj⟩ := List.mem_iff_getElem?.mp hp
    obtain ⟨h1, h2⟩ := List.getElem?_zip_eq_some.mp hj
    rw [List.getElem?_drop, Nat.add_comm] at h2
    exact decide_eq_true (h j x y h1 h2)
theorem RowsP.at {H : Hp} : ∀ {xs : List V} {ps : Ps}, RowsP H xs ps → ∀ {j : Nat} {x : V}, xs[j]? = some x → ∃ p, ps[j]? = some p ∧ CntP H x p
  | _, _, .nil, _, _, h => by simp at h
  | _, _, .cons (x := x0) (p := p) h r, 0, x, hx => by
    have : x0 = x := by simpa using hx
    subst this
    exact ⟨p, rfl, h⟩
  | _, _, .cons h r, j + 1, x, hx => by
    obtain ⟨p, h1, h2⟩ := r.at (j := j) (x := x) (by simpa using hx)
    exact ⟨p, by simpa using h1, h2⟩
theorem RowsP.snoc {H : Hp} : ∀ {xs : List V} {ps : Ps} {x : V} {p : Str × Int}, RowsP H xs ps → CntP H x p → RowsP H (xs ++ [x]) (ps ++ [p])
  | _, _, _, _, .nil, h => .cons h .nil
  | _, _, _, _, .cons g r, h => .cons g (r.snoc h)
theorem CntP.inv {H H' : Hp} (g : Same H H') {x : V} (gx : Gn 1 H x) {p : Str × Int} (h : CntP H' x p) : CntP H x p := by
  obtain ⟨c, e1, e2, q⟩ := h
  refine ⟨c, e1, ?_, q⟩
  obtain ⟨⟨T2, hk2⟩, _⟩ := gx
  subst e1
  exact kd_inv g hk2 e2
theorem RowsP.inv {H H' : Hp} (g : Same H H') : ∀ {xs : List V} {ps : Ps}, (∀ x ∈ xs, Gn 1 H x) → RowsP H' xs ps → RowsP H xs ps
  | _, _, _, .nil => .nil
  | _, _, h, .cons c r => .cons (c.inv g (h _ (.head _))) (r.inv g fun x hx => h x (.tail _ hx))
theorem TalP.same {H H' : Hp} (g : Same H H') {x : V} (gx : Gn 3 H x) : TalP H' x ↔ TalP H x := by
  constructor
  · rintro ⟨t, my, q⟩
    refine ⟨t, ⟨?_, my.rise, my.r1, my.r2, my.len, my.l0, my.t0⟩, q⟩
    obtain ⟨a, c, xs, rfl, e2, e3, e4⟩ := my.at_
    obtain ⟨⟨T, hk⟩, hi⟩ := gx
    have e2 := kd_inv g hk e2
    obtain ⟨_, _, hy⟩ := hi a _ rfl (.inl e2)
    obtain ⟨⟨Tc, hc⟩, hci⟩ := hy (.ref c) (.tail _ (.head _))
    have e3 := kd_inv g hc e3
    obtain ⟨_, _, hx⟩ := hci c _ rfl (.inl e3)
    exact ⟨a, c, xs, rfl, e2, e3, e4.inv g hx⟩
  · rintro ⟨t, my, q⟩
    exact ⟨t, my.mono g, q⟩
def spRight8 : Sp := fun vs H Q _ => ∃ (x : V), vs = [x] ∧ Gn 3 H x ∧ ∀ (H' : Hp), Same H H' → Q (.bl true) H'
theorem kit_bb8 {K : PySem.W.Frag} : PySem.W.kitOne K (.type "bool") (.type "bool") = some true := kit_t (by decide +kernel)
section
variable {P : Program} {w : World} {K : PySem.W.Frag} {mg : Str → Option Value} {base : Heap} {f : Addr} {fd : FuncData}
theorem ok_lwhole (z_isinstance : mg "isinstance" = none) (z_int : mg "int" = none) (z_bool : mg "bool" = none) (F : Fun K "_law_whole" "_law_whole" s_l_whole f fd) : FnOk P w K mg base CX0 1 f fd ["_law_thing"] spIsWhole := by
  refine F.ok sc_l_whole (fun vs H Q E h => ?_) (fun cdv A outer s H vs Q E hr h => ?_)
  · obtain ⟨x, T, rfl, _⟩ := h
    rfl
  obtain ⟨x, T, rfl, hk, hq⟩ := h
  refine ⟨_, (@pss_one _ _ _ (@ps_ret _ _ _ _ (@pe_and _ _ _ _ _ _ _ (pe_callB call_is rfl z_isinstance PyProof.Rows.boot_isinstance (@pa_cons _ _ _ _ _ (pv 0) (@pa_cons _ _ _ _ _ (pe_bltn (v := .ty "int") rfl z_int PyProof.Rows.boot_int rfl) pa_nil (by rfl)) (by rfl))) (@pe_one _ _ _ _ _ (@pe_not _ _ _ _ (pe_callB call_is rfl z_isinstance PyProof.Rows.boot_isinstance (@pa_cons _ _ _ _ _ (pv 0) (@pa_cons _ _ _ _ _ (pe_bltn (v := .ty "bool") rfl z_bool PyProof.Rows.boot_bool rfl) pa_nil (by rfl)) (by rfl)))))))), ?_⟩
  rw [← hk.wh] at hq
  refine ⟨_, rfl, _, _, "int", _, rfl, hk.ty, hk.kit (by decide) rfl, _, rfl, ?_⟩
  refine ite2 (fun c => ?_) (fun c => ?_)
  · refine ⟨_, rfl, _, _, "bool", _, rfl, hk.ty, hk.kit (by decide) rfl, _, rfl, ?_⟩
    rw [c, Bool.true_and] at hq
    exact hq
  · rw [Bool.eq_false_iff.mpr c, Bool.false_and] at hq
    exact hq
theorem ok_lmark (z_isinstance : mg "isinstance" = none) (z_str : mg "str" = none) (z_len : mg "len" = none) (F : Fun K "_law_is_mark" "_law_is_mark" s_l_is_mark f fd) : FnOk P w K mg base CX0 1 f fd ["_law_thing"] spMark := by
  refine F.ok sc_l_is_mark (fun vs H Q E h => ?_) (fun cdv A outer s H vs Q E hr h => ?_)
  · obtain ⟨x, T, rfl, _⟩ := h
    rfl
  obtain ⟨x, T, rfl, hk, hl, hq⟩ := h
  refine ⟨_, (@pss_cons _ _ _ _ _ (@ps_if _ _ _ _ _ _ _ _ (PW.pt (@pw_or _ _ _ _ _ _ _ (@pt_not _ _ _ _ (pt_val (pe_callB call_is rfl z_isinstance PyProof.Rows.boot_isinstance (@pa_cons _ _ _ _ _ (pv 0) (@pa_cons _ _ _ _ _ (pe_bltn (v := .ty "str") rfl z_str PyProof.Rows.boot_str rfl) pa_nil (by rfl)) (by rfl))))) (@pw_or1 _ _ _ _ (@pt_not _ _ _ _ (pt_chain op_le op_le pe_int (pe_callB call_len_str rfl z_len PySem.boot_len (@pa_cons _ _ _ _ _ (pv 0) pa_nil (by rfl))) pe_int))))) (@pss_one _ _ _ (@ps_ret _ _ _ _ pe_bl)) pss_nil)
  (@pss_one _ _ _ (@ps_ret _ _ _ _ (@pe_cmpR _ _ _ _ _ _ _ _ op_eq (pe_callB call_len_seq rfl z_len PySem.boot_len (@pa_cons _ _ _ _ _ (pe_comp (own := ["_law_sign"]) (CompOk.of rfl rfl (by rfl) (by rfl) (by rfl)) (pi_str (pv 0))
    (fun _ _ _ _ _ => (pg_name (i := 0) nd_l_is_mark_88_15 rfl (Or.inl rfl) (Or.inr rfl))) (fun _ _ _ _ _ => (pts_one (@pt_cmpR _ _ _ _ _ _ _ _ op_notin_str (pv 0) pe_str (by with_unfolding_all rfl))))
    (fun _ _ _ _ _ => (pv 0))) pa_nil (by rfl))) pe_int (nomark _))))), ?_⟩
  have no : isKd T "str" = false → mkB x = false := fun e => by
    cases hk with
    | str z => exact absurd e (by decide)
    | _ => rfl
  refine ⟨_, rfl, _, _, "str", _, rfl, hk.ty, hk.kit (by decide) rfl, _, rfl, ?_⟩
  cases hc : isKd T "str" with
  | false =>
    have q := hq H (Same.refl _)
    rw [no hc] at q
    exact iteT q
  | true =>
    obtain ⟨z, rfl⟩ : ∃ z, x = .str z := by
      cases hk with
      | str z => exact ⟨z, rfl⟩
      | _ => exact absurd hc (by decide)
    refine iteF ?_
    have hz : z.length ≤ sizeLine := small_le (by have := hl z rfl; omega)
    have zl : (z.length : Int) = (z.cps.size : Int) := rfl
    refine ⟨_, rfl, z, rfl, hz, _, _, rfl, rfl, _, rfl, ?_⟩
    have bad : ¬ (1 ≤ z.length ∧ z.length ≤ 8) → mkB (.str z) = false := fun c => by
      show mkS z = false
      unfold mkS
      by_cases c1 : 1 ≤ z.length
      · rw [decide_eq_false (p := z.length ≤ 8) (fun c2 => c ⟨c1, c2⟩), Bool.and_false, Bool.false_and]
      · rw [decide_eq_false c1, Bool.false_and, Bool.false_and]
    refine ite2 (fun c => ?_) (fun c => ?_)
    · have c := of_decide_eq_true c
      refine ⟨_, _, rfl, rfl, _, rfl, ite2 (fun c2 => ?_) (fun c2 => ?_)⟩
      · have c2 : ¬ (z.length : Int) ≤ 8 := fun q => by rw [decide_eq_true q] at c2; cases c2
        have q := hq H (Same.refl _)
        rw [bad (by omega)] at q
        exact q
      · have c2 : (z.length : Int) ≤ 8 := by
          by_cases q : (z.length : Int) ≤ 8
          · exact q
          · rw [decide_eq_false q] at c2; exact absurd rfl c2
        refine ⟨_, rfl, z, rfl, ?_⟩
        have hsz : z.cps.size ≤ 8 := by omega
        refine comp_str (fun i ys H' => H' = H ∧ ys = ((z.cps.toList.take i).filter fun c => !sgB c).map fun c => V.str ⟨#[c]⟩) ⟨rfl, rfl⟩ ?_ ?_
        · rintro i c ys H' C hx ⟨rfl, rfl⟩ hC
          have hx' : z.cps.toList[i]? = some c := by simpa using hx
          have fl := List.length_filter_le (fun c => !sgB c) (z.cps.toList.take i)
          have zz : z.cps.toList.length = z.cps.size := Array.length_toList
          rw [List.length_take] at fl
          refine ⟨small_lt (by rw [List.length_map]; omega), Wk.refl _, _, rfl, _, _, rfl, rfl, _, rfl, ?_⟩
          refine ite2 (fun c3 => ⟨_, rfl, hC _ _ ⟨rfl, ?_⟩⟩) (fun c3 => hC _ _ ⟨rfl, ?_⟩)
          · have c3 : (!sgB c) = true := c3
            rw [filter_step (fun c => !sgB c) hx', if_pos c3, List.map_append]; rfl
          · have c3 : ¬ (!sgB c) = true := c3
            rw [filter_step (fun c => !sgB c) hx', if_neg c3, List.append_nil]
        · rintro ys H' ⟨rfl, rfl⟩
          have e : z.cps.toList.take z.cps.size = z.cps.toList := by rw [← Array.length_toList, List.take_length]
          rw [e]
          have fl := List.length_filter_le (fun c => !sgB c) z.cps.toList
          have zz : z.cps.toList.length = z.cps.size := Array.length_toList
          refine ⟨small_le (by rw [List.length_map]; omega), fun p hp => ⟨p, _, rfl, .inl (SqL.of upd_same), rfl, ?_⟩⟩
          have q := hq _ (same_laid hp (.lst ((z.cps.toList.filter fun c => !sgB c).map fun c => V.str ⟨#[c]⟩)))
          have e2 : mkB (.str z) = decide (V.int (((z.cps.toList.filter fun c => !sgB c).map fun c => V.str ⟨#[c]⟩).length : Nat) = V.int 0) := by
            show mkS z = _
            unfold mkS
            rw [decide_eq_true (p := 1 ≤ z.length) (by omega), decide_eq_true (p := z.length ≤ 8) (by omega), List.length_map]
            rw [Bool.true_and, Bool.true_and]
            by_cases al : z.cps.toList.all sgB = true
            · rw [al, List.filter_eq_nil_iff.mpr (fun c hc => by rw [List.all_eq_true.mp al c hc]; simp)]
              rfl
            · rw [Bool.eq_false_iff.mpr al]
              symm
              refine decide_eq_false fun q => al (List.all_eq_true.mpr fun c hc => ?_)
              have q2 := V.int.inj q
              have q3 : (z.cps.toList.filter fun c => !sgB c) = [] := List.eq_nil_of_length_eq_zero (by omega)
              have := List.filter_eq_nil_iff.mp q3 c hc
              cases h : sgB c with
              | true => rfl
              | false => rw [h] at this; exact absurd rfl this
          rw [e2] at q
          exact q
    · have c := of_decide_eq_false (Bool.eq_false_iff.mpr c)
      have q := hq H (Same.refl _)
      rw [bad (by omega)] at q
      exact ⟨_, rfl, iteT q⟩
theorem ok_ldue (z_isinstance : mg "isinstance" = none) (z_tuple : mg "tuple" = none) (z_len : mg "len" = none) (z_range : mg "range" = none) (h_l_whole : Has P w K mg base "_law_whole" 1 ["_law_thing"] spIsWhole) (h_l_is_mark : Has P w K mg base "_law_is_mark" 1 ["_law_thing"] spMark)
    (F : Fun K "_law_due" "_law_due" s_l_due f fd) : FnOk P w K mg base CX0 2 f fd ["_law_thing"] spTalK := by
  refine F.ok sc_l_due (fun vs H Q E h => ?_) (fun cdv A outer s H vs Q E hr h => ?_)
  · obtain ⟨x, rfl, _⟩ := h
    rfl
  obtain ⟨x, rfl, ⟨⟨T, hk⟩, hi⟩, hq⟩ := h
  refine ⟨_, (@pss_cons _ _ _ _ _ (@ps_if _ _ _ _ _ _ _ _ (PW.pt (@pw_or _ _ _ _ _ _ _ (@pt_not _ _ _ _ (pt_val (pe_callB call_is rfl z_isinstance PyProof.Rows.boot_isinstance (@pa_cons _ _ _ _ _ (pv 0) (@pa_cons _ _ _ _ _ (pe_bltn (v := .ty "tuple") rfl z_tuple PyProof.Rows.boot_tuple rfl) pa_nil (by rfl)) (by rfl))))) (@pw_or1 _ _ _ _ (@pt_cmpR _ _ _ _ _ _ _ _ op_ne (pe_callB call_len_seq rfl z_len PySem.boot_len (@pa_cons _ _ _ _ _ (pv 0) pa_nil (by rfl))) pe_int (nomark _))))) (@pss_one _ _ _ (@ps_ret _ _ _ _ pe_bl)) pss_nil)
  (@pss_cons _ _ _ _ _ (ps_asg (pv 0) (pg_tup rfl (pgs_cons (pg_name (i := 1) sc_l_due.nd rfl (Or.inl rfl)) (pgs_cons (pg_name (i := 2) sc_l_due.nd rfl (Or.inl rfl)) (pgs_cons (pg_name (i := 3) sc_l_due.nd rfl (Or.inl rfl)) (pgs_cons (pg_name (i := 4) sc_l_due.nd rfl (Or.inl rfl)) pgs_nil))))))
  (@pss_cons _ _ _ _ _ (@ps_if _ _ _ _ _ _ _ _ (PW.pt (@pw_or _ _ _ _ _ _ _ (@pt_not _ _ _ _ (pt_val (pe_callH h_l_whole hr (@pa_cons _ _ _ _ _ (pv 1) pa_nil (by rfl))))) (@pw_or _ _ _ _ _ _ _ (@pt_not _ _ _ _ (pt_val (pe_callH h_l_whole hr (@pa_cons _ _ _ _ _ (pv 3) pa_nil (by rfl))))) (@pw_or _ _ _ _ _ _ _ (@pt_not _ _ _ _ (pt_val (pe_callH h_l_whole hr (@pa_cons _ _ _ _ _ (pv 4) pa_nil (by rfl))))) (@pw_or1 _ _ _ _ (@pt_not _ _ _ _ (pt_val (pe_callB call_is rfl z_isinstance PyProof.Rows.boot_isinstance (@pa_cons _ _ _ _ _ (pv 2) (@pa_cons _ _ _ _ _ (pe_bltn (v := .ty "tuple") rfl z_tuple PyProof.Rows.boot_tuple rfl) pa_nil (by rfl)) (by rfl)))))))))) (@pss_one _ _ _ (@ps_ret _ _ _ _ pe_bl)) pss_nil)
  (@pss_cons _ _ _ _ _ (@ps_if _ _ _ _ _ _ _ _ (PW.pt (@pw_or _ _ _ _ _ _ _ (@pt_not _ _ _ _ (pt_chain op_le op_le pe_int (pv 1) pe_int)) (@pw_or _ _ _ _ _ _ _ (@pt_cmpR _ _ _ _ _ _ _ _ op_lt (pv 3) pe_int (nomark _)) (@pw_or _ _ _ _ _ _ _ (@pt_cmpR _ _ _ _ _ _ _ _ op_lt (pv 4) pe_int (nomark _)) (@pw_or1 _ _ _ _ (@pt_cmpR _ _ _ _ _ _ _ _ op_gt (pe_callB call_len_seq rfl z_len PySem.boot_len (@pa_cons _ _ _ _ _ (pv 2) pa_nil (by rfl))) (pv 1) (nomark _))))))) (@pss_one _ _ _ (@ps_ret _ _ _ _ pe_bl)) pss_nil)
  (@pss_cons _ _ _ _ _ (@ps_set _ _ 5 _ _ _ _ sc_l_due.nd rfl (Or.inl rfl) (pv 4) (by rfl) (by first | exact .inl rfl | exact .inr rfl))
  (@pss_cons _ _ _ _ _ (ps_for PassesOwn.never rfl (pi_range1 rfl z_range (@pa_cons _ _ _ _ _ (pe_callB call_len_seq rfl z_len PySem.boot_len (@pa_cons _ _ _ _ _ (pv 2) pa_nil (by rfl))) pa_nil (by rfl))) (pg_name (i := 6) sc_l_due.nd rfl (Or.inl rfl))
  (@pss_cons _ _ _ _ _ (@ps_set _ _ 7 _ _ _ _ sc_l_due.nd rfl (Or.inl rfl) (@pe_ix _ _ _ _ _ _ _ ix_tup (pv 2) (pv 6) (fun _ _ => rfl)) (by rfl) (by first | exact .inl rfl | exact .inr rfl))
  (@pss_cons _ _ _ _ _ (@ps_if _ _ _ _ _ _ _ _ (PW.pt (@pw_or _ _ _ _ _ _ _ (@pt_not _ _ _ _ (pt_val (pe_callB call_is rfl z_isinstance PyProof.Rows.boot_isinstance (@pa_cons _ _ _ _ _ (pv 7) (@pa_cons _ _ _ _ _ (pe_bltn (v := .ty "tuple") rfl z_tuple PyProof.Rows.boot_tuple rfl) pa_nil (by rfl)) (by rfl))))) (@pw_or _ _ _ _ _ _ _ (@pt_cmpR _ _ _ _ _ _ _ _ op_ne (pe_callB call_len_seq rfl z_len PySem.boot_len (@pa_cons _ _ _ _ _ (pv 7) pa_nil (by rfl))) pe_int (nomark _)) (@pw_or _ _ _ _ _ _ _ (@pt_not _ _ _ _ (pt_val (pe_callH h_l_is_mark hr (@pa_cons _ _ _ _ _ (@pe_ix _ _ _ _ _ _ _ ix_tup (pv 7) pe_int (fun _ _ => rfl)) pa_nil (by rfl))))) (@pw_or1 _ _ _ _ (@pt_not _ _ _ _ (pt_val (pe_callH h_l_whole hr (@pa_cons _ _ _ _ _ (@pe_ix _ _ _ _ _ _ _ ix_tup (pv 7) pe_int (fun _ _ => rfl)) pa_nil (by rfl)))))))))) (@pss_one _ _ _ (@ps_ret _ _ _ _ pe_bl)) pss_nil)
  (@pss_cons _ _ _ _ _ (@ps_if _ _ _ _ _ _ _ _ (PW.pt (@pw_or _ _ _ _ _ _ _ (@pt_cmpR _ _ _ _ _ _ _ _ op_lt (@pe_ix _ _ _ _ _ _ _ ix_tup (pv 7) pe_int (fun _ _ => rfl)) pe_int (nomark _)) (@pw_or1 _ _ _ _ (PW.pt (@pw_and _ _ _ _ _ _ _ (@pt_cmpR _ _ _ _ _ _ _ _ op_gt (pv 6) pe_int (nomark _)) (@pw_and1 _ _ _ _ (@pt_cmpR _ _ _ _ _ _ _ _ op_ge_str (@pe_ix _ _ _ _ _ _ _ ix_tup (@pe_ix _ _ _ _ _ _ _ ix_tup (pv 2) (@pe_op _ _ _ _ _ _ _ _ op_sub (pv 6) pe_int) (fun _ _ => rfl)) pe_int (fun _ _ => rfl)) (@pe_ix _ _ _ _ _ _ _ ix_tup (pv 7) pe_int (fun _ _ => rfl)) (nomark _)))))))) (@pss_one _ _ _ (@ps_ret _ _ _ _ pe_bl)) pss_nil)
  (@pss_one _ _ _ (@ps_set _ _ 5 _ _ _ _ sc_l_due.nd rfl (Or.inl rfl) (@pe_op _ _ _ _ _ _ _ _ op_sub (pv 5) (@pe_ix _ _ _ _ _ _ _ ix_tup (pv 7) pe_int (fun _ _ => rfl))) (by rfl) (by first | exact .inl rfl | exact .inr rfl)))))))
  (@pss_one _ _ _ (@ps_ret _ _ _ _ (pe_chain op_le op_le (@pe_op _ _ _ _ _ _ _ _ op_mul (@pe_op _ _ _ _ _ _ _ _ op_add (pv 1) pe_int) (pv 3)) (pv 5) (@pe_op _ _ _ _ _ _ _ _ op_mul (@pe_op _ _ _ _ _ _ _ _ op_mul pe_int (pv 1)) (pv 3))))))))))), ?_⟩
  refine ⟨_, rfl, _, _, "tuple", _, rfl, hk.ty, hk.kit (by decide) rfl, _, rfl, ?_⟩
  by_cases ht : isKd T "tuple" = true
  · obtain ⟨a, xs, rfl, e⟩ := Kd.tupI hk ht
    obtain ⟨_, _, hy⟩ := hi a xs rfl (.inl e)
    rw [ht]
    refine iteF ⟨_, rfl, a, xs, rfl, .inr (SqT.of e), rfl, _, rfl, ite2 (fun c => ?_) (fun c => ?_)⟩
    · refine hq false H (Same.refl _) ⟨(fun z => nomatch z), fun ⟨t, my, _⟩ => ?_⟩
      obtain ⟨b, c2, xs2, e1, e2, _⟩ := my.at_
      cases e1
      rw [e] at e2
      cases e2
      simp at c
    have xl : xs.length = 4 := by
      have : ((xs.length : Nat) : Int) = 4 := by simpa using c
      omega
    clear c
    match xs, xl, e, hy with
    | [r, k, l, t], _, e, hy =>
      have hr1 := hy r (.head _)
      have hk1 := hy k (.tail _ (.head _))
      have hl1 := hy l (.tail _ (.tail _ (.head _)))
      have ht1 := hy t (.tail _ (.tail _ (.tail _ (.head _))))
      obtain ⟨Tr, hr1⟩ := hr1.g0
      obtain ⟨Tl, hl1⟩ := hl1.g0
      obtain ⟨Tt, ht1⟩ := ht1.g0
      obtain ⟨⟨Tk, hk2⟩, hki⟩ := hk1
      have inv : ∀ {y : Ty}, MadP H (.ref a) y → r = .int y.room ∧ (∃ c xs, k = .ref c ∧ H c = some (.tup xs) ∧ RowsP H xs y.cs) ∧ l = .int y.lt ∧ t = .int y.total := fun {y} my => by
        obtain ⟨b, c2, xs2, e1, e2, e3, e4⟩ := my.at_
        cases e1
        rw [e] at e2
        simp only [Option.some.injEq, HO.tup.injEq, List.cons.injEq, and_true] at e2
        obtain ⟨q1, q2, q3, q4⟩ := e2
        exact ⟨q1, ⟨c2, xs2, q2, e3, e4⟩, q3, q4⟩
      have no : (∀ y, MadP H (.ref a) y → False) → Q (.bl false) H := fun n => hq false H (Same.refl _) ⟨(fun z => nomatch z), fun ⟨y, my, _⟩ => (n y my).elim⟩
      have wint : ∀ {v : V}, whV v = true → ∃ i, v = .int i := fun {v} h => by cases v <;> first | exact ⟨_, rfl⟩ | cases h
      refine ⟨_, rfl, a, _, rfl, SqT.of e, rfl, _, _, rfl, _, _, rfl, _, _, rfl, _, _, rfl, rfl, ?_⟩
      refine ⟨_, rfl, r, Tr, rfl, hr1, _, rfl, ?_⟩
      by_cases c1 : whV r = true
      case neg =>
        rw [Bool.eq_false_iff.mpr c1]
        exact iteT (no fun y my => by rw [(inv my).1] at c1; exact c1 rfl)
      rw [c1]
      refine iteF ⟨_, rfl, l, Tl, rfl, hl1, _, rfl, ?_⟩
      by_cases c2 : whV l = true
      case neg =>
        rw [Bool.eq_false_iff.mpr c2]
        exact iteT (no fun y my => by rw [(inv my).2.2.1] at c2; exact c2 rfl)
      rw [c2]
      refine iteF ⟨_, rfl, t, Tt, rfl, ht1, _, rfl, ?_⟩
      by_cases c3 : whV t = true
      case neg =>
        rw [Bool.eq_false_iff.mpr c3]
        exact iteT (no fun y my => by rw [(inv my).2.2.2] at c3; exact c3 rfl)
      rw [c3]
      obtain ⟨ri, rfl⟩ := wint c1
      obtain ⟨li, rfl⟩ := wint c2
      obtain ⟨ti, rfl⟩ := wint c3
      refine iteF ⟨_, rfl, _, _, "tuple", _, rfl, hk2.ty, hk2.kit (by decide) rfl, _, rfl, ?_⟩
      by_cases c4 : isKd Tk "tuple" = true
      case neg =>
        have c4 := Bool.eq_false_iff.mpr c4
        rw [c4]
        refine ite2 (fun _ => no fun y my => ?_) (fun z => absurd rfl z)
        obtain ⟨_, ⟨c, xs, e2, e3, _⟩, _⟩ := inv my
        exact absurd e3 (Kd.tupN hk2 c4 e2)
      obtain ⟨c, xs, rfl, ec⟩ := Kd.tupI hk2 c4
      obtain ⟨xl, _, hx⟩ := hki c xs rfl (.inl ec)
      rw [c4]
      refine ite2 (fun z => absurd z Bool.false_ne_true) (fun _ => ?_)
      clear c1 c2 c3 c4
      have dT : ∀ {p : Prop} [Decidable p], p → decide p = true := fun h => decide_eq_true h
      refine ⟨_, rfl, _, _, rfl, rfl, _, rfl, ?_⟩
      by_cases q1 : (1 : Int) ≤ ri
      case neg =>
        rw [decide_eq_false q1]
        exact ⟨_, rfl, iteT (no fun y my => q1 (by have := V.int.inj (inv my).1; have := my.r1; omega))⟩
      rw [decide_eq_true q1]
      refine iteT ⟨_, _, rfl, rfl, _, rfl, ?_⟩
      by_cases q2 : ri ≤ (20 : Int)
      case neg =>
        rw [decide_eq_false q2]
        exact iteT (no fun y my => q2 (by have := V.int.inj (inv my).1; have := my.r2; omega))
      rw [decide_eq_true q2]
      refine iteF ⟨_, rfl, _, _, rfl, rfl, _, rfl, ?_⟩
      by_cases q3 : li < (0 : Int)
      case pos =>
        rw [decide_eq_true q3]
        exact iteT (no fun y my => by have := V.int.inj (inv my).2.2.1; have := my.l0; omega)
      rw [decide_eq_false q3]
      refine iteF ⟨_, rfl, _, _, rfl, rfl, _, rfl, ?_⟩
      by_cases q4 : ti < (0 : Int)
      case pos =>
        rw [decide_eq_true q4]
        exact iteT (no fun y my => by have := V.int.inj (inv my).2.2.2; have := my.t0; omega)
      rw [decide_eq_false q4]
      refine iteF ⟨_, rfl, c, xs, rfl, .inr (SqT.of ec), _, rfl, _, _, rfl, rfl, _, rfl, ?_⟩
      have csl : ∀ {y : Ty}, MadP H (.ref a) y → RowsP H xs y.cs := fun {y} my => by
        obtain ⟨_, ⟨c2, xs2, e2, e3, e4⟩, _⟩ := inv my
        cases e2
        rw [ec] at e3
        cases e3
        exact e4
      by_cases q5 : ri < (xs.length : Int)
      case pos =>
        rw [decide_eq_true q5]
        refine ite2 (fun _ => no fun y my => ?_) (fun z => absurd rfl z)
        have h1 := V.int.inj (inv my).1
        have h2 := my.len
        have h3 := (csl my).length
        omega
      rw [decide_eq_false q5]
      refine ite2 (fun z => absurd z Bool.false_ne_true) (fun _ => ?_)
      refine ⟨_, rfl, ?_⟩
      refine ⟨_, rfl, c, xs, rfl, .inr (SqT.of ec), (xs.length : Int), rfl, by omega, by omega, ?_⟩
      have no2 : ∀ {H' : Hp}, Same H H' → (∀ y, MadP H (.ref a) y → False) → Q (.bl false) H' := fun {H'} g n => hq false H' g ⟨(fun z => nomatch z), fun ⟨y, my, _⟩ => (n y my).elim⟩
      refine for_range (fun i σ H' => ∃ (o6 o7 : Option V) (ps : Ps), σ = [some (.ref a), some (.int ri), some (.ref c), some (.int li), some (.int ti), some (.int (ti - (nsOf ps).sum)), o6, o7] ∧ Same H H' ∧ RowsP H (xs.take i) ps ∧ risL (ps.map (·.1)) = true) ⟨_, _, [], by rw [show ti - (nsOf []).sum = ti by show ti - 0 = ti; omega]; rfl, Same.refl _, .nil, rfl⟩ ?_ ?_
      · rintro i σ H1 hi ⟨o6, o7, ps, rfl, g, rp, rs⟩
        have il : i < xs.length := by omega
        have hx0 : xs[i]? = some xs[i] := List.getElem?_eq_getElem il
        have mx := List.mem_of_getElem? hx0
        generalize xs[i] = row at hx0 mx
        have grow := hx row mx
        have hat : atI xs (0 + (i : Int)) = some row := by rw [Int.zero_add]; exact atI_nat hx0
        have need : ∀ {y : Ty}, MadP H (.ref a) y → ∃ p, y.cs[i]? = some p ∧ CntP H row p := fun {y} my => (csl my).at hx0
        refine ⟨_, rfl, _, rfl, c, _, _, _, rfl, rfl, SqT.of (g _ _ ec), hat, ?_⟩
        obtain ⟨⟨Tw, hkw⟩, hwi⟩ := grow.mono g
        have e0 : ∀ b ys, row = .ref b → H1 b = some (.tup ys) → H b = some (.tup ys) := fun b ys er eb => by
          obtain ⟨⟨T0, hk0⟩, _⟩ := grow
          subst er
          exact kd_inv g hk0 eb
        refine ⟨_, rfl, _, _, "tuple", _, rfl, hkw.ty, hkw.kit (by decide) rfl, _, rfl, ?_⟩
        by_cases w1 : isKd Tw "tuple" = true
        case neg =>
          have w1 := Bool.eq_false_iff.mpr w1
          rw [w1]
          refine iteT (no2 g fun y my => ?_)
          obtain ⟨p, _, b, e1, e2, _⟩ := need my
          exact absurd (g _ _ e2) (Kd.tupN hkw w1 e1)
        obtain ⟨b, ys, rfl, eb⟩ := Kd.tupI hkw w1
        have eb0 := e0 b ys rfl eb
        obtain ⟨_, hy0, hys⟩ := hwi b ys rfl (.inl eb)
        rw [w1]
        refine iteF ⟨_, rfl, b, ys, rfl, .inr (SqT.of eb), rfl, _, rfl, ?_⟩
        by_cases w2 : ys.length = 2
        case neg =>
          rw [show (!decide (V.int (ys.length : Nat) = V.int 2)) = true by
            rw [decide_eq_false (fun q => w2 (by have := V.int.inj q; omega))]; rfl]
          refine iteT (no2 g fun y my => ?_)
          obtain ⟨p, _, b2, e1, e2, _⟩ := need my
          cases e1
          rw [eb0] at e2
          cases e2
          exact w2 rfl
        rw [show (!decide (V.int (ys.length : Nat) = V.int 2)) = false by rw [w2]; simp]
        match ys, w2, eb, eb0, hys, hy0 with
        | [kk, nn], _, eb, eb0, hys, hy0 =>
          obtain ⟨Tkk, hkk⟩ := hys kk (.head _)
          have hkz : ∀ z, kk = .str z → z.length ≤ 1000 := fun z ez => hy0 z (by rw [ez]; rfl)
          obtain ⟨Tnn, hnn⟩ := hys nn (.tail _ (.head _))
          have pin : ∀ {p : Str × Int}, CntP H (.ref b) p → kk = .str p.1 ∧ nn = .int p.2 ∧ mkS p.1 = true ∧ 1 ≤ p.2 := fun {p} cp => by
            obtain ⟨b2, e1, e2, m1, m2⟩ := cp
            cases e1
            rw [eb0] at e2
            simp only [Option.some.injEq, HO.tup.injEq, List.cons.injEq, and_true] at e2
            exact ⟨e2.1, e2.2, m1, m2⟩
          refine iteF ⟨_, rfl, b, _, _, _, rfl, rfl, SqT.of eb, rfl, kk, Tkk, rfl, hkk, hkz, fun H2 g2 => ⟨_, rfl, ?_⟩⟩
          have g2' := g.trans g2
          by_cases w3 : mkB kk = true
          case neg =>
            rw [Bool.eq_false_iff.mpr w3]
            refine iteT (no2 g2' fun y my => ?_)
            obtain ⟨p, _, cp⟩ := need my
            rw [(pin cp).1] at w3
            exact w3 (pin cp).2.2.1
          obtain ⟨zk, rfl⟩ : ∃ z, kk = .str z := by cases kk <;> first | exact ⟨_, rfl⟩ | cases w3
          rw [w3]
          refine iteF ⟨_, rfl, b, _, _, _, rfl, rfl, SqT.of (g2 _ _ eb), rfl, nn, Tnn, rfl, hnn.mono g2, _, rfl, ?_⟩
          by_cases w4 : whV nn = true
          case neg =>
            rw [Bool.eq_false_iff.mpr w4]
            refine ite2 (fun _ => no2 g2' fun y my => ?_) (fun z => absurd rfl z)
            obtain ⟨p, _, cp⟩ := need my
            rw [(pin cp).2.1] at w4
            exact w4 rfl
          obtain ⟨nk, rfl⟩ := wint w4
          rw [w4]
          refine ite2 (fun z => absurd z Bool.false_ne_true) (fun _ => ?_)
          refine ⟨_, rfl, b, _, _, _, rfl, rfl, SqT.of (g2 _ _ eb), rfl, _, _, rfl, rfl, _, rfl, ?_⟩
          by_cases w5 : nk < 1
          case pos =>
            rw [decide_eq_true w5]
            refine iteT (no2 g2' fun y my => ?_)
            obtain ⟨p, _, cp⟩ := need my
            have := V.int.inj (pin cp).2.1
            have := (pin cp).2.2.2
            omega
          rw [decide_eq_false w5]
          have cp : CntP H (.ref b) (zk, nk) := ⟨b, rfl, eb0, w3, by show 1 ≤ nk; omega⟩
          have rp2 : RowsP H (xs.take (i + 1)) (ps ++ [(zk, nk)]) := by rw [take_one hx0]; exact rp.snoc cp
          have pl := rp.length
          rw [List.length_take] at pl
          have gone : ti - (nsOf (ps ++ [(zk, nk)])).sum = ti - (nsOf ps).sum - nk := by
            unfold nsOf
            rw [List.map_append, List.sum_append, List.map_cons, List.map_nil, List.sum_cons, List.sum_nil]
            omega
          refine iteF ⟨_, rfl, _, _, rfl, rfl, _, rfl, ?_⟩
          by_cases w6 : (0 : Int) < 0 + (i : Int)
          case neg =>
            rw [decide_eq_false w6]
            have i0 : i = 0 := by omega
            subst i0
            have p0 : ps = [] := List.eq_nil_of_length_eq_zero (by omega)
            subst p0
            refine iteF ?_
            refine ⟨_, rfl, _, rfl, b, _, _, _, rfl, rfl, SqT.of (g2 _ _ eb), rfl, _, _, rfl, rfl, some (.int (0 + ((0 : Nat) : Int))), some (.ref b), [(zk, nk)], ?_, g2', rp2, rfl⟩
            rw [show ti - (nsOf [(zk, nk)]).sum = ti - (nsOf ([] : Ps)).sum - nk from gone]
            rfl
          rw [decide_eq_true w6]
          obtain ⟨i', rfl⟩ : ∃ i', i = i' + 1 := ⟨i - 1, by omega⟩
          have il' : i' < xs.length := by omega
          have hx1 : xs[i']? = some xs[i'] := List.getElem?_eq_getElem il'
          have hx1t : (xs.take (i' + 1))[i']? = some xs[i'] := by rw [List.getElem?_take, if_pos (by omega)]; exact hx1
          generalize xs[i'] = prow at hx1 hx1t
          obtain ⟨pp, hpp, b3, rfl, eb3, _⟩ := rp.at hx1t
          have hat1 : atI xs (0 + ((i' + 1 : Nat) : Int) - 1) = some (.ref b3) := by
            rw [show 0 + ((i' + 1 : Nat) : Int) - 1 = (i' : Int) by omega]
            exact atI_nat hx1
          refine iteT ⟨_, rfl, _, rfl, _, _, rfl, rfl, c, _, _, _, rfl, rfl, SqT.of (g2' _ _ ec), hat1, b3, _, _, _, rfl, rfl, SqT.of (g2' _ _ eb3), rfl, _, rfl, b, _, _, _, rfl, rfl, SqT.of (g2 _ _ eb), rfl, _, _, rfl, rfl, _, rfl, ?_⟩
          by_cases w7 : pp.1.cps.toList < zk.cps.toList
          case neg =>
            rw [decide_eq_false w7]
            refine ite2 (fun _ => no2 g2' fun y my => ?_) (fun z => absurd rfl z)
            have r1 := (risL_iff _).mp my.rise
            obtain ⟨p1, hp1, cp1⟩ := (csl my).at hx1
            obtain ⟨p2, hp2, cp2⟩ := need my
            have e1 : p1 = pp := cp1.uni (by obtain ⟨p3, hp3, cp3⟩ := rp.at hx1t; rw [hpp] at hp3; cases hp3; exact cp3)
            have e2 := V.str.inj (pin cp2).1
            have := r1 i' p1.1 p2.1 (by rw [List.getElem?_map, hp1]; rfl) (by rw [List.getElem?_map, hp2]; rfl)
            rw [e1, ← e2] at this
            exact w7 this
          rw [decide_eq_true w7]
          refine ite2 (fun z => absurd z Bool.false_ne_true) (fun _ => ?_)
          refine ⟨_, rfl, _, rfl, b, _, _, _, rfl, rfl, SqT.of (g2 _ _ eb), rfl, _, _, rfl, rfl, some (.int (0 + ((i' + 1 : Nat) : Int))), some (.ref b), ps ++ [(zk, nk)], ?_, g2', rp2, ?_⟩
          · rw [gone]; rfl
          · rw [risL_iff]
            intro j x y hjx hjy
            rw [List.map_append] at hjx hjy
            have pml : (ps.map (·.1)).length = i' + 1 := by rw [List.length_map]; omega
            have hjl : j + 1 < (ps.map (·.1) ++ [zk]).length := (List.getElem?_eq_some_iff.mp hjy).1
            rw [List.length_append, List.length_cons, List.length_nil] at hjl
            by_cases hj : j + 1 < i' + 1
            · rw [List.getElem?_append_left (by omega)] at hjx hjy
              exact (risL_iff _).mp rs j x y hjx hjy
            · have je : j = i' := by omega
              subst je
              rw [List.getElem?_append_left (by omega), List.getElem?_map, hpp] at hjx
              rw [List.getElem?_append_right (by omega), pml, Nat.sub_self] at hjy
              cases hjx
              cases hjy
              exact w7
      · rintro σ H1 ⟨o6, o7, ps, rfl, g, rp, rs⟩
        have et : xs.take (xs.length : Int).toNat = xs := by rw [Int.toNat_natCast, List.take_length]
        rw [et] at rp
        have pl := rp.length
        have my : MadP H (.ref a) ⟨ri, ps, li, ti⟩ := ⟨⟨a, c, xs, rfl, e, ec, rp⟩, rs, q1, q2, by show (ps.length : Int) ≤ ri; omega, by show 0 ≤ li; omega, by show 0 ≤ ti; omega⟩
        refine ⟨_, rfl, _, _, rfl, rfl, _, rfl, _, _, rfl, rfl, Or.inl ⟨by omega, by omega⟩, _, rfl, _, _, rfl, rfl, _, rfl, ?_⟩
        refine ite2 (fun d1 => ?_) (fun d1 => ?_)
        · have d1 := of_decide_eq_true d1
          refine ⟨_, rfl, _, _, rfl, rfl, Or.inl ⟨by decide, by decide⟩, _, rfl, _, _, rfl, rfl, Or.inl ⟨by omega, by omega⟩, _, _, rfl, rfl, hq _ _ g ⟨fun d2 => ⟨_, my, d1, of_decide_eq_true d2⟩, ?_⟩⟩
          rintro ⟨u, mu, _, h2⟩
          rw [← my.uni mu] at h2
          exact decide_eq_true h2
        · refine hq _ _ g ⟨(fun z => nomatch z), ?_⟩
          rintro ⟨u, mu, h1, _⟩
          rw [← my.uni mu] at h1
          exact absurd (decide_eq_true h1) d1
  · have ht := Bool.eq_false_iff.mpr ht
    rw [ht]
    refine iteT (hq false H (Same.refl _) ⟨(fun z => nomatch z), fun ⟨t, my, _⟩ => ?_⟩)
    obtain ⟨b, c2, xs2, e1, e2, _⟩ := my.at_
    exact absurd e2 (Kd.tupN hk ht e1)
theorem ok_right8 (z_isinstance : mg "isinstance" = none) (z_bool : mg "bool" = none) (h_is_tally : Has P w K mg base "is_tally" 6 ["thing"] spTalK) (h_l_due : Has P w K mg base "_law_due" 2 ["_law_thing"] spTalK)
    (F : Fun K "_law_right" "_law_right" s_l_right f fd) : FnOk P w K mg base CX0 7 f fd ["_law_thing"] spRight8 := by
  refine F.ok sc_l_right (fun vs H Q E h => ?_) (fun cdv A outer s H vs Q E hr h => ?_)
  · obtain ⟨x, rfl, _⟩ := h
    rfl
  obtain ⟨x, rfl, gx, hq⟩ := h
  refine ⟨_, (@pss_cons _ _ _ _ _ (@ps_set _ _ 1 _ _ _ _ sc_l_right.nd rfl (Or.inl rfl) (pe_callH h_is_tally hr (@pa_cons _ _ _ _ _ (pv 0) pa_nil (by rfl))) (by rfl) (by first | exact .inl rfl | exact .inr rfl))
  (@pss_one _ _ _ (@ps_ret _ _ _ _ (@pe_and _ _ _ _ _ _ _ (pe_callB call_is rfl z_isinstance PyProof.Rows.boot_isinstance (@pa_cons _ _ _ _ _ (pv 1) (@pa_cons _ _ _ _ _ (pe_bltn (v := .ty "bool") rfl z_bool PyProof.Rows.boot_bool rfl) pa_nil (by rfl)) (by rfl))) (@pe_one _ _ _ _ _ (@pe_cmpR _ _ _ _ _ _ _ _ op_eq (pv 1) (pe_callH h_l_due hr (@pa_cons _ _ _ _ _ (pv 0) pa_nil (by rfl))) (nomark _))))))), ?_⟩
  refine ⟨_, rfl, x, rfl, gx, fun b1 H1 g1 i1 => ?_⟩
  refine ⟨_, rfl, _, _, "bool", _, rfl, TyOf.bl _, kit_bb8, _, rfl, iteT ?_⟩
  refine ⟨_, rfl, _, rfl, x, rfl, gx.mono g1, fun b2 H2 g2 i2 => ⟨rfl, ?_⟩⟩
  rw [TalP.same g1 gx, ← i1] at i2
  have : b1 = b2 := by cases b1 <;> cases b2 <;> simp_all
  rw [this, decide_eq_true rfl]
  exact hq _ (g1.trans g2)
end
end K08

namespace K08
open PySem L2
def spCtd : Sp := fun vs H Q _ => ∃ (x : V), vs = [x] ∧ Gn 2 H x ∧ ∀ (n : Int) (H' : Hp), Same H H' → Q (.int n) H'
section
variable {P : Program} {w : World} {K : PySem.W.Frag} {mg : Str → Option Value} {base : Heap} {f : Addr} {fd : FuncData}
/-- the second comprehension and the sum -/
theorem ok_ctd (z_isinstance : mg "isinstance" = none) (z_tuple : mg "tuple" = none) (z_list : mg "list" = none) (z_len : mg "len" = none) (z_sum : mg "sum" = none) (h_l_whole : Has P w K mg base "_law_whole" 1 ["_law_thing"] spIsWhole)
    (F : Fun K "_law_counted" "_law_counted" s_l_counted f fd) : FnOk P w K mg base CX0 2 f fd ["_law_counts"] spCtd := by
  refine F.ok sc_l_counted (fun vs H Q E h => ?_) (fun cdv A outer s H vs Q E hr h => ?_)
  · obtain ⟨x, rfl, _⟩ := h
    rfl
  obtain ⟨x, rfl, ⟨⟨T, hk⟩, hi⟩, hq⟩ := h
  by_cases hL : isKd T "list" = true
  · have hT : (isKd T "tuple" || isKd T "list") = true := by rw [hL, Bool.or_true]
    refine ⟨_, (@pss_cons _ _ _ _ _ (@ps_if _ _ _ _ _ _ _ _ (@pt_not _ _ _ _ (pt_val (pe_callB call_isKd2 rfl z_isinstance PyProof.Rows.boot_isinstance (@pa_cons _ _ _ _ _ (pv 0) (@pa_cons _ _ _ _ _ (@pe_tup _ _ _ _ _ (@pa_cons _ _ _ _ _ (pe_bltn (v := .ty "tuple") rfl z_tuple PyProof.Rows.boot_tuple rfl) (@pa_cons _ _ _ _ _ (pe_bltn (v := .ty "list") rfl z_list PyProof.Rows.boot_list rfl) pa_nil (by rfl)) (by rfl))) pa_nil (by rfl)) (by rfl))))) (@pss_one _ _ _ (@ps_ret _ _ _ _ pe_int)) pss_nil)
  (@pss_cons _ _ _ _ _ (ps_setC (i := 1) sc_l_counted.nd rfl rfl (own := ["_law_row"]) (CompOk.of rfl rfl (by rfl) (by rfl) (by rfl)) (pi_list (pv 0))
    (fun _ _ _ _ _ => (pg_name (i := 0) nd_l_counted_120_19 rfl (Or.inl rfl) (Or.inr rfl))) (fun _ _ _ _ _ => (pts_one (PW.pt (@pw_and _ _ _ _ _ _ _ (pt_val (pe_callB call_isKd2 rfl z_isinstance PyProof.Rows.boot_isinstance (@pa_cons _ _ _ _ _ (pv 0) (@pa_cons _ _ _ _ _ (@pe_tup _ _ _ _ _ (@pa_cons _ _ _ _ _ (pe_bltn (v := .ty "tuple") rfl z_tuple PyProof.Rows.boot_tuple rfl) (@pa_cons _ _ _ _ _ (pe_bltn (v := .ty "list") rfl z_list PyProof.Rows.boot_list rfl) pa_nil (by rfl)) (by rfl))) pa_nil (by rfl)) (by rfl)))) (@pw_and1 _ _ _ _ (@pt_cmpR _ _ _ _ _ _ _ _ op_gt (pe_callB (call_len_seqK K rfl) rfl z_len PySem.boot_len (@pa_cons _ _ _ _ _ (pv 0) pa_nil (by rfl))) pe_int (nomark _)))))))
    (fun _ _ _ _ _ => (@pe_ix _ _ _ _ _ _ _ (ix_anyK K rfl) (pv 0) pe_int (fun _ _ => rfl))))
  (@pss_one _ _ _ (@ps_ret _ _ _ _ (pe_callB (call_sum rfl) rfl z_sum PyProof.Rows.boot_sum (@pa_cons _ _ _ _ _ (pe_comp (own := ["_law_number"]) (CompOk.of rfl rfl (by rfl) (by rfl) (by rfl)) (pi_list (pv 1))
    (fun _ _ _ _ _ => (pg_name (i := 0) nd_l_counted_121_15 rfl (Or.inl rfl) (Or.inr rfl))) (fun _ _ _ _ _ => (pts_one (pt_val (pe_callH h_l_whole hr (@pa_cons _ _ _ _ _ (pv 0) pa_nil (by rfl))))))
    (fun _ _ _ _ _ => (pv 0))) pa_nil (by rfl))))))), ?_⟩
    obtain ⟨a, xs, rfl, e⟩ : ∃ a xs, x = .ref a ∧ H a = some (.lst xs) := by
      cases hk with
      | lst e1 => exact ⟨_, _, rfl, e1⟩
      | _ => simp [isKd] at hL
    obtain ⟨xl, _, hy⟩ := hi a xs rfl (.inr e)
    refine ⟨_, rfl, leN rfl, fun tp ntp => ⟨_, T, tp, rfl, hk.mono (same_laid ntp _), upd_same, _, rfl, ?_⟩⟩
    rw [hT]
    have g0 := same_laid ntp (.tup [.ty "tuple", .ty "list"])
    generalize upd H tp (.tup [.ty "tuple", .ty "list"]) = H0 at g0 ⊢
    refine iteF ?_
    have e := g0 _ _ e
    refine ⟨_, rfl, a, rfl, ⟨_, SqL.of e⟩, ?_⟩
    refine comp_list (xs := xs) (fun n ys H' => Same H0 H' ∧ (∀ y ∈ ys, G0 H' y) ∧ ys.length ≤ n) ⟨Same.refl _, (fun _ h => nomatch h), Nat.le_refl _⟩ (fun n ys H' _ h => SqL.of (h.1 _ _ e)) ?_ ?_
    · rintro n y ys H1 C hx ⟨g1, gy, yl⟩ hC
      have nl := (List.getElem?_eq_some_iff.mp hx).1
      have g2 := g0.trans g1
      obtain ⟨⟨Ty, hky⟩, hyi⟩ := (hy y (List.mem_of_getElem? hx)).mono g2
      have gyM : ∀ {H2 : Hp}, Same H1 H2 → ∀ z ∈ ys, G0 H2 z := fun {H2} g z hz => let ⟨T, k⟩ := gy z hz; ⟨T, k.mono g⟩
      refine ⟨small_lt (by omega), Wk.refl _, _, rfl, leN rfl, fun tq ntq => ⟨y, Ty, tq, rfl, hky.mono (same_laid ntq _), upd_same, _, rfl, ?_⟩⟩
      have g3 := same_laid ntq (.tup [.ty "tuple", .ty "list"])
      generalize upd H1 tq (.tup [.ty "tuple", .ty "list"]) = H2 at g3 ⊢
      by_cases hc : (isKd Ty "tuple" || isKd Ty "list") = true
      · rw [hc]
        obtain ⟨b, zs, rfl, eb⟩ : ∃ b zs, y = .ref b ∧ (H1 b = some (.tup zs) ∨ H1 b = some (.lst zs)) := by
          cases hky with
          | tup e1 => exact ⟨_, _, rfl, .inl e1⟩
          | lst e1 => exact ⟨_, _, rfl, .inr e1⟩
          | _ => simp [isKd] at hc
        obtain ⟨zl, _, hz⟩ := hyi b zs rfl eb
        have sq : SqL K H2 b zs ∨ SqT K H2 b zs := eb.symm.imp (fun h => SqL.of (g3 _ _ h)) (fun h => SqT.of (g3 _ _ h))
        refine iteT ⟨_, rfl, b, zs, rfl, sq, _, _, rfl, rfl, _, rfl, ite2 (fun c1 => ?_) (fun c1 => ?_)⟩
        · have c1 := of_decide_eq_true c1
          have h1 : 1 < zs.length := by have : (1 : Int) < (zs.length : Int) := c1; omega
          have hv : atI zs 1 = some zs[1] := atI_nat (j := 1) (List.getElem?_eq_getElem h1)
          have gz := hz zs[1] (List.getElem_mem h1)
          generalize zs[1] = v at hv gz
          have fin : C (ys ++ [v]) H2 := hC _ _ ⟨g1.trans g3, fun z hz2 => by
            rcases List.mem_append.mp hz2 with h | h
            · exact gyM g3 z h
            · rw [List.mem_singleton.mp h]; exact let ⟨T, k⟩ := gz; ⟨T, k.mono g3⟩, by rw [List.length_append]; show ys.length + 1 ≤ _; omega⟩
          rcases sq with sq | sq
          · exact ⟨_, rfl, .inr ⟨b, zs, 1, v, rfl, rfl, sq, hv, fin⟩⟩
          · exact ⟨_, rfl, .inl ⟨b, zs, 1, v, rfl, rfl, sq, hv, fin⟩⟩
        · exact hC _ _ ⟨g1.trans g3, gyM g3, by omega⟩
      · rw [Bool.eq_false_iff.mpr hc]
        exact iteF (hC _ _ ⟨g1.trans g3, gyM g3, by omega⟩)
    · rintro ys H1 ⟨g1, gy, yl⟩
      refine ⟨small_le (by omega), fun l nl => ?_⟩
      have g2 := g1.trans (same_laid nl (.lst ys))
      have el : upd H1 l (.lst ys) l = some (.lst ys) := upd_same
      have gy : ∀ y ∈ ys, G0 (upd H1 l (.lst ys)) y := fun y hy => let ⟨T, k⟩ := gy y hy; ⟨T, k.mono (same_laid nl _)⟩
      generalize upd H1 l (.lst ys) = H2 at g2 el gy ⊢
      refine ⟨_, rfl, l, rfl, ⟨_, SqL.of el⟩, ?_⟩
      refine comp_list (xs := ys) (fun n zs H' => H' = H2 ∧ ∃ ns : List Int, zs = ns.map V.int ∧ ns.length ≤ n) ⟨rfl, [], rfl, Nat.le_refl _⟩ (fun n zs H' _ h => by rw [h.1]; exact SqL.of el) ?_ ?_
      · rintro n y zs H3 C hx ⟨hH, ns, rfl, nsl⟩ hC
        subst hH
        have nl := (List.getElem?_eq_some_iff.mp hx).1
        obtain ⟨Ty, hky⟩ := gy y (List.mem_of_getElem? hx)
        refine ⟨small_lt (by rw [List.length_map]; omega), Wk.refl _, _, rfl, y, Ty, rfl, hky, _, rfl, ?_⟩
        cases y with
        | int i => exact iteT ⟨_, rfl, hC _ _ ⟨rfl, ns ++ [i], by rw [List.map_append]; rfl, by rw [List.length_append]; show ns.length + 1 ≤ _; omega⟩⟩
        | _ => exact iteF (hC _ _ ⟨rfl, ns, rfl, by omega⟩)
      · rintro zs H3 ⟨hH, ns, rfl, nsl⟩
        subst hH
        refine ⟨small_le (by rw [List.length_map]; omega), fun l2 nl2 => ⟨l2, ns, rfl, SqL.of upd_same, hq _ _ (g0.trans (g2.trans (same_laid nl2 _)))⟩⟩
  by_cases hT0 : isKd T "tuple" = true
  · have hT : (isKd T "tuple" || isKd T "list") = true := by rw [hT0, Bool.true_or]
    refine ⟨_, (@pss_cons _ _ _ _ _ (@ps_if _ _ _ _ _ _ _ _ (@pt_not _ _ _ _ (pt_val (pe_callB call_isKd2 rfl z_isinstance PyProof.Rows.boot_isinstance (@pa_cons _ _ _ _ _ (pv 0) (@pa_cons _ _ _ _ _ (@pe_tup _ _ _ _ _ (@pa_cons _ _ _ _ _ (pe_bltn (v := .ty "tuple") rfl z_tuple PyProof.Rows.boot_tuple rfl) (@pa_cons _ _ _ _ _ (pe_bltn (v := .ty "list") rfl z_list PyProof.Rows.boot_list rfl) pa_nil (by rfl)) (by rfl))) pa_nil (by rfl)) (by rfl))))) (@pss_one _ _ _ (@ps_ret _ _ _ _ pe_int)) pss_nil)
  (@pss_cons _ _ _ _ _ (ps_setC (i := 1) sc_l_counted.nd rfl rfl (own := ["_law_row"]) (CompOk.of rfl rfl (by rfl) (by rfl) (by rfl)) (pi_tup (pv 0))
    (fun _ _ _ _ _ => (pg_name (i := 0) nd_l_counted_120_19 rfl (Or.inl rfl) (Or.inr rfl))) (fun _ _ _ _ _ => (pts_one (PW.pt (@pw_and _ _ _ _ _ _ _ (pt_val (pe_callB call_isKd2 rfl z_isinstance PyProof.Rows.boot_isinstance (@pa_cons _ _ _ _ _ (pv 0) (@pa_cons _ _ _ _ _ (@pe_tup _ _ _ _ _ (@pa_cons _ _ _ _ _ (pe_bltn (v := .ty "tuple") rfl z_tuple PyProof.Rows.boot_tuple rfl) (@pa_cons _ _ _ _ _ (pe_bltn (v := .ty "list") rfl z_list PyProof.Rows.boot_list rfl) pa_nil (by rfl)) (by rfl))) pa_nil (by rfl)) (by rfl)))) (@pw_and1 _ _ _ _ (@pt_cmpR _ _ _ _ _ _ _ _ op_gt (pe_callB (call_len_seqK K rfl) rfl z_len PySem.boot_len (@pa_cons _ _ _ _ _ (pv 0) pa_nil (by rfl))) pe_int (nomark _)))))))
    (fun _ _ _ _ _ => (@pe_ix _ _ _ _ _ _ _ (ix_anyK K rfl) (pv 0) pe_int (fun _ _ => rfl))))
  (@pss_one _ _ _ (@ps_ret _ _ _ _ (pe_callB (call_sum rfl) rfl z_sum PyProof.Rows.boot_sum (@pa_cons _ _ _ _ _ (pe_comp (own := ["_law_number"]) (CompOk.of rfl rfl (by rfl) (by rfl) (by rfl)) (pi_list (pv 1))
    (fun _ _ _ _ _ => (pg_name (i := 0) nd_l_counted_121_15 rfl (Or.inl rfl) (Or.inr rfl))) (fun _ _ _ _ _ => (pts_one (pt_val (pe_callH h_l_whole hr (@pa_cons _ _ _ _ _ (pv 0) pa_nil (by rfl))))))
    (fun _ _ _ _ _ => (pv 0))) pa_nil (by rfl))))))), ?_⟩
    obtain ⟨a, xs, rfl, e⟩ := Kd.tupI hk hT0
    obtain ⟨xl, _, hy⟩ := hi a xs rfl (.inl e)
    refine ⟨_, rfl, leN rfl, fun tp ntp => ⟨_, T, tp, rfl, hk.mono (same_laid ntp _), upd_same, _, rfl, ?_⟩⟩
    rw [hT]
    have g0 := same_laid ntp (.tup [.ty "tuple", .ty "list"])
    generalize upd H tp (.tup [.ty "tuple", .ty "list"]) = H0 at g0 ⊢
    refine iteF ?_
    have e := g0 _ _ e
    refine ⟨_, rfl, a, rfl, ⟨_, SqT.of e⟩, ?_⟩
    refine comp_tup (xs := xs) (fun n ys H' => Same H0 H' ∧ (∀ y ∈ ys, G0 H' y) ∧ ys.length ≤ n) ⟨Same.refl _, (fun _ h => nomatch h), Nat.le_refl _⟩ (fun n ys H' _ h => SqT.of (h.1 _ _ e)) ?_ ?_
    · rintro n y ys H1 C hx ⟨g1, gy, yl⟩ hC
      have nl := (List.getElem?_eq_some_iff.mp hx).1
      have g2 := g0.trans g1
      obtain ⟨⟨Ty, hky⟩, hyi⟩ := (hy y (List.mem_of_getElem? hx)).mono g2
      have gyM : ∀ {H2 : Hp}, Same H1 H2 → ∀ z ∈ ys, G0 H2 z := fun {H2} g z hz => let ⟨T, k⟩ := gy z hz; ⟨T, k.mono g⟩
      refine ⟨small_lt (by omega), Wk.refl _, _, rfl, leN rfl, fun tq ntq => ⟨y, Ty, tq, rfl, hky.mono (same_laid ntq _), upd_same, _, rfl, ?_⟩⟩
      have g3 := same_laid ntq (.tup [.ty "tuple", .ty "list"])
      generalize upd H1 tq (.tup [.ty "tuple", .ty "list"]) = H2 at g3 ⊢
      by_cases hc : (isKd Ty "tuple" || isKd Ty "list") = true
      · rw [hc]
        obtain ⟨b, zs, rfl, eb⟩ : ∃ b zs, y = .ref b ∧ (H1 b = some (.tup zs) ∨ H1 b = some (.lst zs)) := by
          cases hky with
          | tup e1 => exact ⟨_, _, rfl, .inl e1⟩
          | lst e1 => exact ⟨_, _, rfl, .inr e1⟩
          | _ => simp [isKd] at hc
        obtain ⟨zl, _, hz⟩ := hyi b zs rfl eb
        have sq : SqL K H2 b zs ∨ SqT K H2 b zs := eb.symm.imp (fun h => SqL.of (g3 _ _ h)) (fun h => SqT.of (g3 _ _ h))
        refine iteT ⟨_, rfl, b, zs, rfl, sq, _, _, rfl, rfl, _, rfl, ite2 (fun c1 => ?_) (fun c1 => ?_)⟩
        · have c1 := of_decide_eq_true c1
          have h1 : 1 < zs.length := by have : (1 : Int) < (zs.length : Int) := c1; omega
          have hv : atI zs 1 = some zs[1] := atI_nat (j := 1) (List.getElem?_eq_getElem h1)
          have gz := hz zs[1] (List.getElem_mem h1)
          generalize zs[1] = v at hv gz
          have fin : C (ys ++ [v]) H2 := hC _ _ ⟨g1.trans g3, fun z hz2 => by
            rcases List.mem_append.mp hz2 with h | h
            · exact gyM g3 z h
            · rw [List.mem_singleton.mp h]; exact let ⟨T, k⟩ := gz; ⟨T, k.mono g3⟩, by rw [List.length_append]; show ys.length + 1 ≤ _; omega⟩
          rcases sq with sq | sq
          · exact ⟨_, rfl, .inr ⟨b, zs, 1, v, rfl, rfl, sq, hv, fin⟩⟩
          · exact ⟨_, rfl, .inl ⟨b, zs, 1, v, rfl, rfl, sq, hv, fin⟩⟩
        · exact hC _ _ ⟨g1.trans g3, gyM g3, by omega⟩
      · rw [Bool.eq_false_iff.mpr hc]
        exact iteF (hC _ _ ⟨g1.trans g3, gyM g3, by omega⟩)
    · rintro ys H1 ⟨g1, gy, yl⟩
      refine ⟨small_le (by omega), fun l nl => ?_⟩
      have g2 := g1.trans (same_laid nl (.lst ys))
      have el : upd H1 l (.lst ys) l = some (.lst ys) := upd_same
      have gy : ∀ y ∈ ys, G0 (upd H1 l (.lst ys)) y := fun y hy => let ⟨T, k⟩ := gy y hy; ⟨T, k.mono (same_laid nl _)⟩
      generalize upd H1 l (.lst ys) = H2 at g2 el gy ⊢
      refine ⟨_, rfl, l, rfl, ⟨_, SqL.of el⟩, ?_⟩
      refine comp_list (xs := ys) (fun n zs H' => H' = H2 ∧ ∃ ns : List Int, zs = ns.map V.int ∧ ns.length ≤ n) ⟨rfl, [], rfl, Nat.le_refl _⟩ (fun n zs H' _ h => by rw [h.1]; exact SqL.of el) ?_ ?_
      · rintro n y zs H3 C hx ⟨hH, ns, rfl, nsl⟩ hC
        subst hH
        have nl := (List.getElem?_eq_some_iff.mp hx).1
        obtain ⟨Ty, hky⟩ := gy y (List.mem_of_getElem? hx)
        refine ⟨small_lt (by rw [List.length_map]; omega), Wk.refl _, _, rfl, y, Ty, rfl, hky, _, rfl, ?_⟩
        cases y with
        | int i => exact iteT ⟨_, rfl, hC _ _ ⟨rfl, ns ++ [i], by rw [List.map_append]; rfl, by rw [List.length_append]; show ns.length + 1 ≤ _; omega⟩⟩
        | _ => exact iteF (hC _ _ ⟨rfl, ns, rfl, by omega⟩)
      · rintro zs H3 ⟨hH, ns, rfl, nsl⟩
        subst hH
        refine ⟨small_le (by rw [List.length_map]; omega), fun l2 nl2 => ⟨l2, ns, rfl, SqL.of upd_same, hq _ _ (g0.trans (g2.trans (same_laid nl2 _)))⟩⟩
  · refine ⟨_, (@pss_cons _ _ _ _ _ (@ps_if _ _ _ _ _ _ _ _ (@pt_not _ _ _ _ (pt_val (pe_callB call_isKd2 rfl z_isinstance PyProof.Rows.boot_isinstance (@pa_cons _ _ _ _ _ (pv 0) (@pa_cons _ _ _ _ _ (@pe_tup _ _ _ _ _ (@pa_cons _ _ _ _ _ (pe_bltn (v := .ty "tuple") rfl z_tuple PyProof.Rows.boot_tuple rfl) (@pa_cons _ _ _ _ _ (pe_bltn (v := .ty "list") rfl z_list PyProof.Rows.boot_list rfl) pa_nil (by rfl)) (by rfl))) pa_nil (by rfl)) (by rfl))))) (@pss_one _ _ _ (@ps_ret _ _ _ _ pe_int)) pss_nil)
  (@pss_cons _ _ _ _ _ (ps_setC (i := 1) sc_l_counted.nd rfl rfl (own := ["_law_row"]) (CompOk.of rfl rfl (by rfl) (by rfl) (by rfl)) (pi_list (pv 0))
    (fun _ _ _ _ _ => (pg_name (i := 0) nd_l_counted_120_19 rfl (Or.inl rfl) (Or.inr rfl))) (fun _ _ _ _ _ => (pts_one (PW.pt (@pw_and _ _ _ _ _ _ _ (pt_val (pe_callB call_isKd2 rfl z_isinstance PyProof.Rows.boot_isinstance (@pa_cons _ _ _ _ _ (pv 0) (@pa_cons _ _ _ _ _ (@pe_tup _ _ _ _ _ (@pa_cons _ _ _ _ _ (pe_bltn (v := .ty "tuple") rfl z_tuple PyProof.Rows.boot_tuple rfl) (@pa_cons _ _ _ _ _ (pe_bltn (v := .ty "list") rfl z_list PyProof.Rows.boot_list rfl) pa_nil (by rfl)) (by rfl))) pa_nil (by rfl)) (by rfl)))) (@pw_and1 _ _ _ _ (@pt_cmpR _ _ _ _ _ _ _ _ op_gt (pe_callB (call_len_seqK K rfl) rfl z_len PySem.boot_len (@pa_cons _ _ _ _ _ (pv 0) pa_nil (by rfl))) pe_int (nomark _)))))))
    (fun _ _ _ _ _ => (@pe_ix _ _ _ _ _ _ _ (ix_anyK K rfl) (pv 0) pe_int (fun _ _ => rfl))))
  (@pss_one _ _ _ (@ps_ret _ _ _ _ (pe_callB (call_sum rfl) rfl z_sum PyProof.Rows.boot_sum (@pa_cons _ _ _ _ _ (pe_comp (own := ["_law_number"]) (CompOk.of rfl rfl (by rfl) (by rfl) (by rfl)) (pi_list (pv 1))
    (fun _ _ _ _ _ => (pg_name (i := 0) nd_l_counted_121_15 rfl (Or.inl rfl) (Or.inr rfl))) (fun _ _ _ _ _ => (pts_one (pt_val (pe_callH h_l_whole hr (@pa_cons _ _ _ _ _ (pv 0) pa_nil (by rfl))))))
    (fun _ _ _ _ _ => (pv 0))) pa_nil (by rfl))))))), ?_⟩
    refine ⟨_, rfl, leN rfl, fun tp ntp => ⟨_, T, tp, rfl, hk.mono (same_laid ntp _), upd_same, _, rfl, ?_⟩⟩
    rw [Bool.eq_false_iff.mpr hT0, Bool.eq_false_iff.mpr hL]
    exact iteT (hq _ _ (same_laid ntp _))
end
end K08

namespace K08
open PySem L2
def Scal : V → Prop
  | .non => True
  | .bl _ => True
  | .int _ => True
  | .str _ => True
  | _ => False
theorem Gn.scal {H : Hp} : ∀ (n : Nat) {x : V}, Scal x → Gn n H x := fun n x h => by
  have g : G0 H x := by
    cases x with
    | non => exact ⟨_, .non⟩
    | bl b => exact ⟨_, .bl b⟩
    | int i => exact ⟨_, .int i⟩
    | str z => exact ⟨_, .str z⟩
    | _ => cases h
  cases n with
  | zero => exact g
  | succ n => exact ⟨g, fun a xs e => by subst e; cases h⟩
theorem Gn.tup {H : Hp} {n : Nat} {a : Addr} {xs : List V} (e : H a = some (.tup xs)) (l : xs.length ≤ 1000) (z0 : ∀ z, xs[0]? = some (.str z) → z.length ≤ 1000) (h : ∀ y ∈ xs, Gn n H y) : Gn (n + 1) H (.ref a) :=
  ⟨⟨_, .tup e⟩, fun b ys eb eq => by
    cases eb
    rcases eq with eq | eq
    · rw [e] at eq; cases eq; exact ⟨l, z0, h⟩
    · rw [e] at eq; cases eq⟩
theorem Gn.lst {H : Hp} {n : Nat} {a : Addr} {xs : List V} (e : H a = some (.lst xs)) (l : xs.length ≤ 1000) (z0 : ∀ z, xs[0]? = some (.str z) → z.length ≤ 1000) (h : ∀ y ∈ xs, Gn n H y) : Gn (n + 1) H (.ref a) :=
  ⟨⟨_, .lst e⟩, fun b ys eb eq => by
    cases eb
    rcases eq with eq | eq
    · rw [e] at eq; cases eq
    · rw [e] at eq; cases eq; exact ⟨l, z0, h⟩⟩
theorem Gn.dct {H : Hp} : ∀ (n : Nat) {a : Addr} {kvs : List (Key × V)}, H a = some (.dK kvs) → Gn n H (.ref a)
  | 0, _, _, e => ⟨_, .dK e⟩
  | n + 1, a, _, e => ⟨⟨_, .dK e⟩, fun b ys eb eq => by
    cases eb
    rcases eq with eq | eq <;> (rw [e] at eq; cases eq)⟩
def Gl (n : Nat) (H : Hp) (xs : List V) : Prop := ∀ x ∈ xs, Gn n H x
theorem gl_mono {a : Addr} {H H' : Hp} {n : Nat} {xs : List V} (g : Grw a H H') (h : Gl n (hide a H) xs) : Gl n (hide a H') xs := fun x hx => (h x hx).mono g
theorem gl_cons {n : Nat} {H : Hp} {x : V} {xs : List V} (h : Gn n H x) (r : Gl n H xs) : Gl n H (x :: xs) := fun y hy => by
  rcases List.mem_cons.mp hy with e | m
  · rw [e]; exact h
  · exact r y m
theorem gl_app {n : Nat} {H : Hp} {xs ys : List V} (h : Gl n H xs) (r : Gl n H ys) : Gl n H (xs ++ ys) := fun y hy => (List.mem_append.mp hy).elim (h y) (r y)
theorem gl_nil {n : Nat} {H : Hp} : Gl n H [] := fun _ h => nomatch h
theorem sc2 {H : Hp} {n : Nat} {x y : V} (h : Scal x) (g : Scal y) : ∀ z ∈ [x, y], Gn n H z := gl_cons (Gn.scal n h) (gl_cons (Gn.scal n g) gl_nil)
theorem cut_mem {xs : List V} {lo hi : Option Int} {x : V} (h : x ∈ cutV xs lo hi) : x ∈ xs := List.mem_of_mem_drop (List.mem_of_mem_take h)
theorem gl_cut {n : Nat} {H : Hp} {xs : List V} {lo hi : Option Int} (h : Gl n H xs) : Gl n H (cutV xs lo hi) := fun x hx => h x (cut_mem hx)
theorem z0s {x : V} {xs : List V} (h : ∀ z, x = .str z → z.length ≤ 1000) : ∀ z, (x :: xs)[0]? = some (.str z) → z.length ≤ 1000 := fun z e => h z (by simpa using e)
/-- a tally's counts, by a pen -/
structure OC (a cb : Addr) (rows : List V) (H H' : Hp) : Prop where
  eb : hide a H' cb = some (.tup rows)
  gr : Gl 1 (hide a H') rows
  hp : PenAt H' a
  gg : Grw a H H'
theorem OC.step {a cb : Addr} {rows : List V} {H H' H'' : Hp} (f : OC a cb rows H H') (g : Grw a H' H'') (hp : PenAt H'' a) : OC a cb rows H H'' := ⟨g _ _ f.eb, gl_mono g f.gr, hp, f.gg.trans g⟩
theorem Gl.mono {a : Addr} {H H' : Hp} {n : Nat} {xs : List V} (h : Gl n (hide a H) xs) (g : Grw a H H') : Gl n (hide a H') xs := gl_mono g h
def ScS : V → Prop
  | .non => True
  | .bl _ => True
  | .int _ => True
  | .str z => z.length ≤ 1000
  | _ => False
theorem ScS.scal {x : V} (h : ScS x) : Scal x := by
  cases x <;> first | trivial | cases h
theorem ScS.z0 {x : V} {xs : List V} (h : ScS x) : ∀ z, (x :: xs)[0]? = some (.str z) → z.length ≤ 1000 := z0s fun z e => by subst e; exact h
theorem ref_z0 {p : Addr} {xs : List V} : ∀ z, (V.ref p :: xs)[0]? = some (.str z) → z.length ≤ 1000 := z0s fun z e => nomatch e
theorem nil_z0 : ∀ z, ([] : List V)[0]? = some (.str z) → z.length ≤ 1000 := fun z e => by simp at e
section
variable {a cb p : Addr} {rows xs : List V} {H0 H H1 : Hp} {n : Nat}
/-- a tuple laid beside a pen -/
theorem lay_t (hz : upd H p (.tup xs) = H1) (np : H p = none) (f : OC a cb rows H0 H) (h : Gl n (hide a H) xs) (l : xs.length ≤ 1000) (z0 : ∀ z, xs[0]? = some (.str z) → z.length ≤ 1000) : OC a cb rows H0 H1 ∧ Grw a H H1 ∧ hide a H1 p = some (.tup xs) ∧ Gn (n + 1) (hide a H1) (.ref p) := by
  obtain ⟨hp, g, _, e⟩ := laid_pen hz np f.hp
  exact ⟨f.step g hp, g, e, Gn.tup e l z0 (h.mono g)⟩
theorem lay_l (hz : upd H p (.lst xs) = H1) (np : H p = none) (f : OC a cb rows H0 H) (h : Gl n (hide a H) xs) (l : xs.length ≤ 1000) (z0 : ∀ z, xs[0]? = some (.str z) → z.length ≤ 1000) : OC a cb rows H0 H1 ∧ Grw a H H1 ∧ hide a H1 p = some (.lst xs) ∧ Gn (n + 1) (hide a H1) (.ref p) := by
  obtain ⟨hp, g, _, e⟩ := laid_pen hz np f.hp
  exact ⟨f.step g hp, g, e, Gn.lst e l z0 (h.mono g)⟩
theorem lay_d {kvs : List (Key × V)} (hz : upd H p (.dK kvs) = H1) (np : H p = none) (f : OC a cb rows H0 H) : OC a cb rows H0 H1 ∧ Grw a H H1 ∧ hide a H1 p = some (.dK kvs) ∧ ∀ n, Gn n (hide a H1) (.ref p) := by
  obtain ⟨hp, g, _, e⟩ := laid_pen hz np f.hp
  exact ⟨f.step g hp, g, e, fun n => Gn.dct n e⟩
theorem lay_k (hz : upd H p (.lst xs) = H1) (np : H p = none) (f : OC a cb rows H0 H) (h : Gl n (hide a H) xs) : OC a cb rows H0 H1 ∧ Grw a H H1 ∧ hide a H1 p = some (.lst xs) ∧ Gl n (hide a H1) xs := by
  obtain ⟨hp, g, _, e⟩ := laid_pen hz np f.hp
  exact ⟨f.step g hp, g, e, h.mono g⟩
theorem got_t (g : Same H H1) (e : H1 p = some (.tup xs)) (f : OC a cb rows H0 H) : OC a cb rows H0 H1 ∧ Grw a H H1 ∧ hide a H1 p = some (.tup xs) := by
  have hp := f.hp.same g
  exact ⟨f.step (f.hp.grw g) hp, f.hp.grw g, hp.tup e⟩
theorem gl_scs (h : ∀ x ∈ xs, Scal x) : Gl n H xs := fun x hx => Gn.scal n (h x hx)
end
theorem Gl.up {n : Nat} {H : Hp} {x : V} {xs : List V} (h : Gl n H xs) (m : x ∈ xs) : Gn n H x := h x m
theorem pairs_gl {H : Hp} {rows : List V} {ps : Ps} (h : PairsAt H rows (kvOf ps)) (hw : ∀ p ∈ ps, p.1.length ≤ 1000) : Gl 1 H rows := fun x hx => by
  obtain ⟨i, hi⟩ := List.mem_iff_getElem?.mp hx
  obtain ⟨b, p, rfl, hp, e⟩ := h.getP hi
  exact Gn.tup e (by show 2 ≤ 1000; decide) (ScS.z0 (hw p (List.mem_of_getElem? hp))) (sc2 trivial trivial)
theorem word8 : ∀ x ∈ words, x.length ≤ 8 := by decide +kernel
theorem cs_lay8 {ps : Ps} (h : ∀ p ∈ ps, p.1 ∈ words) : (PyData.tuple (ps.map pD)).canLay0 = true ∧ (PyData.tuple (ps.map pD)).depth ≤ 2 := by
  have q := lay_ps (ps := ps) fun p hp => words_ok _ (h p hp)
  simp only [PyData.canLay0, PyData.depth] at q ⊢
  exact q
end K08

namespace K08
open PySem L2
theorem str_app (x y : Str) : (x ++ y).length = x.length + y.length := by
  show (x.cps ++ y.cps).size = _
  exact Array.size_append
theorem nat200 {n : Int} (h : 1 ≤ n) (h2 : n ≤ 1000000000) : n.natAbs < 2 ^ 200 := Nat.lt_of_le_of_lt (m := 1000000000) (by omega) (by decide +kernel)
theorem Gl.take6 {n : Nat} {H : Hp} {x : V} (h : Gn n H x) : Gl n H (List.replicate (6 : Int).toNat [x]).flatten := by
  show Gl n H [x, x, x, x, x, x]
  exact gl_cons h (gl_cons h (gl_cons h (gl_cons h (gl_cons h (gl_cons h gl_nil)))))
theorem z0m {xs : List V} (h : ∀ z, V.str z ∈ xs → z.length ≤ 1000) : ∀ z, xs[0]? = some (.str z) → z.length ≤ 1000 := fun z e => h z (List.mem_of_getElem? e)
def spOC : Sp := fun vs H Q _ => ∃ (a cb : Addr) (room : Int) (rows : List V) (ps : Ps), vs = [.ref a, .int room, .ref cb] ∧ PenAt H a ∧ hide a H cb = some (.tup rows) ∧ PairsAt (hide a H) rows (kvOf ps) ∧ (∀ p ∈ ps, p.1 ∈ words) ∧ (∀ p ∈ ps, 1 ≤ p.2 ∧ p.2 ≤ 1000000000) ∧ ps.length ≤ 20 ∧
  ∀ (v : V) (H' : Hp), Gn 2 (hide a H') v → PenAt H' a → Grw a H H' → Q v H'
section
variable {P : Program} {w : World} {K : PySem.W.Frag} {mg : Str → Option Value} {base : Heap} {f : Addr} {fd : FuncData}
theorem ok_oc (z_len : mg "len" = none) (z_str : mg "str" = none) (z_list : mg "list" = none) (h_l_draw : Has P w K mg base "_law_draw" 1 ["_law_pen_here", "_law_size"] spDraw)
    (F : Fun K "_law_other_counts" "_law_other_counts" s_l_other_counts f fd) : FnOk P w K mg base CX0 2 f fd ["_law_pen_here", "_law_room_here", "_law_counts"] spOC := by
  refine F.ok sc_l_other_counts (fun vs H Q E h => ?_) (fun cdv A outer s H vs Q E hr h => ?_)
  · obtain ⟨a, cb, room, rows, ps, rfl, _⟩ := h
    rfl
  obtain ⟨a, cb, room, rows, ps, rfl, hp, eb, pa, pw, pn, pl, hq⟩ := h
  refine ⟨_, (@pss_cons _ _ _ _ _ (@ps_if _ _ _ _ _ _ _ _ (@pt_cmpR _ _ _ _ _ _ _ _ (op_eqD hr.units) (pv 2) (@pe_tup _ _ _ _ _ pa_nil) (nomark _)) (@pss_one _ _ _ (@ps_ret _ _ _ _ (@pe_ix _ _ _ _ _ _ _ ix_list (@pe_lst _ _ _ _ (@pa_cons _ _ _ _ _ pe_non (@pa_cons _ _ _ _ _ (@pe_lst _ _ _ _ pa_nil) (@pa_cons _ _ _ _ _ pe_str (@pa_cons _ _ _ _ _ (@pe_tup _ _ _ _ _ (@pa_cons _ _ _ _ _ pe_int pa_nil (by rfl))) (@pa_cons _ _ _ _ _ (@pe_tup _ _ _ _ _ (@pa_cons _ _ _ _ _ (@pe_tup _ _ _ _ _ (@pa_cons _ _ _ _ _ pe_str (@pa_cons _ _ _ _ _ pe_int pa_nil (by rfl)) (by rfl))) (@pa_cons _ _ _ _ _ (@pe_tup _ _ _ _ _ (@pa_cons _ _ _ _ _ pe_str (@pa_cons _ _ _ _ _ pe_int pa_nil (by rfl)) (by rfl))) pa_nil (by rfl)) (by rfl))) (@pa_cons _ _ _ _ _ (@pe_tup _ _ _ _ _ (@pa_cons _ _ _ _ _ (@pe_tup _ _ _ _ _ (@pa_cons _ _ _ _ _ pe_str (@pa_cons _ _ _ _ _ pe_int pa_nil (by rfl)) (by rfl))) pa_nil (by rfl))) (@pa_cons _ _ _ _ _ (@pe_tup _ _ _ _ _ (@pa_cons _ _ _ _ _ (@pe_tup _ _ _ _ _ (@pa_cons _ _ _ _ _ pe_str (@pa_cons _ _ _ _ _ pe_int pa_nil (by rfl)) (by rfl))) pa_nil (by rfl))) (@pa_cons _ _ _ _ _ (@pe_tup _ _ _ _ _ (@pa_cons _ _ _ _ _ (@pe_tup _ _ _ _ _ pa_nil) pa_nil (by rfl))) pa_nil (by rfl)) (by rfl)) (by rfl)) (by rfl)) (by rfl)) (by rfl)) (by rfl)) (by rfl))) (pe_callH h_l_draw hr (@pa_cons _ _ _ _ _ (pv 0) (@pa_cons _ _ _ _ _ pe_int pa_nil (by rfl)) (by rfl))) (fun _ _ => rfl)))) pss_nil)
  (@pss_cons _ _ _ _ _ (@ps_set _ _ 3 _ _ _ _ sc_l_other_counts.nd rfl (Or.inl rfl) (pe_callH h_l_draw hr (@pa_cons _ _ _ _ _ (pv 0) (@pa_cons _ _ _ _ _ (pe_callB call_len_seq rfl z_len PySem.boot_len (@pa_cons _ _ _ _ _ (pv 2) pa_nil (by rfl))) pa_nil (by rfl)) (by rfl))) (by rfl) (by first | exact .inl rfl | exact .inr rfl))
  (@pss_cons _ _ _ _ _ (ps_asg (@pe_ix _ _ _ _ _ _ _ ix_tup (pv 2) (pv 3) (fun _ _ => rfl)) (pg_tup rfl (pgs_cons (pg_name (i := 4) sc_l_other_counts.nd rfl (Or.inl rfl)) (pgs_cons (pg_name (i := 5) sc_l_other_counts.nd rfl (Or.inl rfl)) pgs_nil))))
  (@pss_cons _ _ _ _ _ (@ps_set _ _ 6 _ _ _ _ sc_l_other_counts.nd rfl (Or.inl rfl) (@pe_lst _ _ _ _ (@pa_cons _ _ _ _ _ (@pe_tup _ _ _ _ _ (@pa_cons _ _ _ _ _ pe_str (@pa_cons _ _ _ _ _ (pv 5) pa_nil (by rfl)) (by rfl))) (@pa_cons _ _ _ _ _ (@pe_tup _ _ _ _ _ (@pa_cons _ _ _ _ _ (@pe_op _ _ _ _ _ _ _ _ op_add_str (pv 4) (@pe_op _ _ _ _ _ _ _ _ op_repS pe_str pe_int)) (@pa_cons _ _ _ _ _ (pv 5) pa_nil (by rfl)) (by rfl))) (@pa_cons _ _ _ _ _ (@pe_tup _ _ _ _ _ (@pa_cons _ _ _ _ _ (pe_bm0 PySem.F.plainAttrs_str PySem.F.slot_str_upper PySem.F.type_str_upper mt_upper (pv 4)) (@pa_cons _ _ _ _ _ (pv 5) pa_nil (by rfl)) (by rfl))) (@pa_cons _ _ _ _ _ (@pe_tup _ _ _ _ _ (@pa_cons _ _ _ _ _ pe_int (@pa_cons _ _ _ _ _ (pv 5) pa_nil (by rfl)) (by rfl))) (@pa_cons _ _ _ _ _ (@pe_tup _ _ _ _ _ (@pa_cons _ _ _ _ _ pe_non (@pa_cons _ _ _ _ _ (pv 5) pa_nil (by rfl)) (by rfl))) (@pa_cons _ _ _ _ _ (@pe_tup _ _ _ _ _ (@pa_cons _ _ _ _ _ (pv 4) (@pa_cons _ _ _ _ _ pe_int pa_nil (by rfl)) (by rfl))) pa_nil (by rfl)) (by rfl)) (by rfl)) (by rfl)) (by rfl)) (by rfl))) (by rfl) (by first | exact .inl rfl | exact .inr rfl))
  (@pss_cons _ _ _ _ _ (@ps_set _ _ 6 _ _ _ _ sc_l_other_counts.nd rfl (Or.inl rfl) (@pe_op _ _ _ _ _ _ _ _ op_cat (pv 6) (@pe_lst _ _ _ _ (@pa_cons _ _ _ _ _ (@pe_tup _ _ _ _ _ (@pa_cons _ _ _ _ _ (pv 4) (@pa_cons _ _ _ _ _ pe_bl pa_nil (by rfl)) (by rfl))) (@pa_cons _ _ _ _ _ (@pe_tup _ _ _ _ _ (@pa_cons _ _ _ _ _ (pv 4) (@pa_cons _ _ _ _ _ (@pe_un _ _ _ _ _ _ un_neg pe_int) pa_nil (by rfl)) (by rfl))) (@pa_cons _ _ _ _ _ (@pe_tup _ _ _ _ _ (@pa_cons _ _ _ _ _ (pv 4) (@pa_cons _ _ _ _ _ pe_non pa_nil (by rfl)) (by rfl))) (@pa_cons _ _ _ _ _ (@pe_tup _ _ _ _ _ (@pa_cons _ _ _ _ _ (pv 4) (@pa_cons _ _ _ _ _ (pe_callTy call_strI rfl z_str PyProof.Rows.boot_str (@pa_cons _ _ _ _ _ (pv 5) pa_nil (by rfl))) pa_nil (by rfl)) (by rfl))) (@pa_cons _ _ _ _ _ (@pe_lst _ _ _ _ (@pa_cons _ _ _ _ _ (pv 4) (@pa_cons _ _ _ _ _ (pv 5) pa_nil (by rfl)) (by rfl))) (@pa_cons _ _ _ _ _ (@pe_tup _ _ _ _ _ (@pa_cons _ _ _ _ _ (pv 4) (@pa_cons _ _ _ _ _ (pv 5) (@pa_cons _ _ _ _ _ (pv 5) pa_nil (by rfl)) (by rfl)) (by rfl))) pa_nil (by rfl)) (by rfl)) (by rfl)) (by rfl)) (by rfl)) (by rfl)))) (by rfl) (by first | exact .inl rfl | exact .inr rfl))
  (@pss_cons _ _ _ _ _ (@ps_set _ _ 6 _ _ _ _ sc_l_other_counts.nd rfl (Or.inl rfl) (@pe_op _ _ _ _ _ _ _ _ op_cat (pv 6) (@pe_lst _ _ _ _ (@pa_cons _ _ _ _ _ (@pe_tup _ _ _ _ _ (@pa_cons _ _ _ _ _ (pv 4) pa_nil (by rfl))) (@pa_cons _ _ _ _ _ (pv 4) (@pa_cons _ _ _ _ _ pe_non (@pa_cons _ _ _ _ _ (@pe_tup _ _ _ _ _ (@pa_cons _ _ _ _ _ (@pe_op _ _ _ _ _ _ _ _ op_add_str (pv 4) pe_str) (@pa_cons _ _ _ _ _ (pv 5) pa_nil (by rfl)) (by rfl))) (@pa_cons _ _ _ _ _ (@pe_tup _ _ _ _ _ (@pa_cons _ _ _ _ _ (pv 4) (@pa_cons _ _ _ _ _ (@pe_op _ _ _ _ _ _ _ _ op_add (pv 5) pe_int) pa_nil (by rfl)) (by rfl))) (@pa_cons _ _ _ _ _ (@pe_tup _ _ _ _ _ (@pa_cons _ _ _ _ _ (@pe_op _ _ _ _ _ _ _ _ op_add_str (pv 4) pe_str) (@pa_cons _ _ _ _ _ (pv 5) pa_nil (by rfl)) (by rfl))) pa_nil (by rfl)) (by rfl)) (by rfl)) (by rfl)) (by rfl)) (by rfl)))) (by rfl) (by first | exact .inl rfl | exact .inr rfl))
  (@pss_cons _ _ _ _ _ (@ps_set _ _ 7 _ _ _ _ sc_l_other_counts.nd rfl (Or.inl rfl) (@pe_op _ _ _ _ _ _ _ _ op_rep (@pe_lst _ _ _ _ (@pa_cons _ _ _ _ _ (@pe_op _ _ _ _ _ _ _ _ op_catG (@pe_op _ _ _ _ _ _ _ _ op_catG (pe_slice sl_tupG (pv 2) po_none (po_some (pv 3))) (@pe_tup _ _ _ _ _ (@pa_cons _ _ _ _ _ (@pe_ix _ _ _ _ _ _ _ ix_list (pv 6) (pe_callH h_l_draw hr (@pa_cons _ _ _ _ _ (pv 0) (@pa_cons _ _ _ _ _ pe_int pa_nil (by rfl)) (by rfl))) (fun _ _ => rfl)) pa_nil (by rfl)))) (pe_slice sl_tupG (pv 2) (po_some (@pe_op _ _ _ _ _ _ _ _ op_add (pv 3) pe_int)) po_none)) pa_nil (by rfl))) pe_int) (by rfl) (by first | exact .inl rfl | exact .inr rfl))
  (@pss_cons _ _ _ _ _ (@ps_set _ _ 7 _ _ _ _ sc_l_other_counts.nd rfl (Or.inl rfl) (@pe_op _ _ _ _ _ _ _ _ op_cat (pv 7) (@pe_lst _ _ _ _ (@pa_cons _ _ _ _ _ (pe_revT (pv 2) (@pe_un _ _ _ _ _ _ un_neg pe_int)) (@pa_cons _ _ _ _ _ (@pe_op _ _ _ _ _ _ _ _ op_catG (@pe_op _ _ _ _ _ _ _ _ op_catG (pe_slice sl_tupG (pv 2) po_none (po_some (pv 3))) (pe_slice sl_tupG (pv 2) (po_some (pv 3)) (po_some (@pe_op _ _ _ _ _ _ _ _ op_add (pv 3) pe_int)))) (pe_slice sl_tupG (pv 2) (po_some (pv 3)) po_none)) (@pa_cons _ _ _ _ _ (pe_callTy call_list_of rfl z_list PyProof.Rows.boot_list (@pa_cons _ _ _ _ _ (pv 2) pa_nil (by rfl))) pa_nil (by rfl)) (by rfl)) (by rfl)))) (by rfl) (by first | exact .inl rfl | exact .inr rfl))
  (@pss_one _ _ _ (@ps_ret _ _ _ _ (@pe_ix _ _ _ _ _ _ _ ix_list (@pe_op _ _ _ _ _ _ _ _ op_cat (pv 7) (@pe_lst _ _ _ _ (@pa_cons _ _ _ _ _ (@pe_op _ _ _ _ _ _ _ _ op_catG (pv 2) (@pe_tup _ _ _ _ _ (@pa_cons _ _ _ _ _ (@pe_tup _ _ _ _ _ (@pa_cons _ _ _ _ _ pe_str (@pa_cons _ _ _ _ _ pe_int pa_nil (by rfl)) (by rfl))) pa_nil (by rfl)))) (@pa_cons _ _ _ _ _ (pe_slice sl_tupG (pv 2) (po_some pe_int) po_none) (@pa_cons _ _ _ _ _ pe_non pa_nil (by rfl)) (by rfl)) (by rfl)))) (pe_callH h_l_draw hr (@pa_cons _ _ _ _ _ (pv 0) (@pa_cons _ _ _ _ _ pe_int pa_nil (by rfl)) (by rfl))) (fun _ _ => rfl)))))))))))), ?_⟩
  have rl : rows.length = ps.length := by rw [pa.length, kvOf_len]
  have rn : ∀ z, V.str z ∉ rows := fun z hz => by
    obtain ⟨i, hi⟩ := List.mem_iff_getElem?.mp hz
    obtain ⟨_, _, e, _⟩ := pa.getP hi
    cases e
  have rc : ∀ lo hi z, V.str z ∉ cutV rows lo hi := fun lo hi z hz => rn z (cut_mem hz)
  have f : OC a cb rows H H := ⟨eb, pairs_gl pa fun p hp => Nat.le_trans (word8 _ (pw p hp)) (by decide), hp, Same.refl _⟩
  refine ⟨_, rfl, leN rfl, ?_⟩
  skip
  intro z0 n_z0
  generalize hz : upd _ z0 _ = H1
  obtain ⟨f, gz, e_z0, G_z0⟩ := lay_t hz n_z0 f (n := 0) (by repeat (first | exact gl_nil | refine gl_cons (by first | assumption | exact Gn.scal _ trivial) ?_)) (leN rfl) (by first | exact nil_z0 | exact ref_z0 | exact ScS.z0 trivial | exact ScS.z0 (leN rfl) | exact ScS.z0 (by assumption) | exact z0s (by assumption))
  clear hz
  have pa := pa.mono gz
  refine ⟨_, _, .tup (hide_some f.eb).2 (pairs_dvs (pa.mono hide_sub)), .tup (hide_some e_z0).2 .nil, shaped_of (cs_lay8 pw) (by decide), by decide, _, rfl, ?_⟩
  rw [show PyData.eqv (.tuple (ps.map pD)) (.tuple []) = ps.isEmpty by cases ps <;> rfl]
  refine ite2 (fun c => ?_) (fun c => ?_)
  · refine ⟨leN rfl, ?_⟩
    skip
    intro q1 n_q1
    generalize hz : upd _ q1 _ = H2
    obtain ⟨f, gz, e_q1, G_q1⟩ := lay_l hz n_q1 f (n := 1) (by repeat (first | exact gl_nil | refine gl_cons (by first | assumption | exact Gn.scal _ trivial) ?_)) (leN rfl) (by first | exact nil_z0 | exact ref_z0 | exact ScS.z0 trivial | exact ScS.z0 (leN rfl) | exact ScS.z0 (by assumption) | exact z0s (by assumption))
    clear hz
    refine ⟨leN rfl, ?_⟩
    intro q2 n_q2
    generalize hz : upd _ q2 _ = H3
    obtain ⟨f, gz, e_q2, G_q2⟩ := lay_t hz n_q2 f (n := 1) (by repeat (first | exact gl_nil | refine gl_cons (by first | assumption | exact Gn.scal _ trivial) ?_)) (leN rfl) (by first | exact nil_z0 | exact ref_z0 | exact ScS.z0 trivial | exact ScS.z0 (leN rfl) | exact ScS.z0 (by assumption) | exact z0s (by assumption))
    clear hz
    have G_q1 := G_q1.mono gz
    refine ⟨leN rfl, ?_⟩
    intro q3 n_q3
    generalize hz : upd _ q3 _ = H4
    obtain ⟨f, gz, e_q3, G_q3⟩ := lay_t hz n_q3 f (n := 0) (by repeat (first | exact gl_nil | refine gl_cons (by first | assumption | exact Gn.scal _ trivial) ?_)) (leN rfl) (by first | exact nil_z0 | exact ref_z0 | exact ScS.z0 trivial | exact ScS.z0 (leN rfl) | exact ScS.z0 (by assumption) | exact z0s (by assumption))
    clear hz
    have G_q1 := G_q1.mono gz
    have G_q2 := G_q2.mono gz
    refine ⟨leN rfl, ?_⟩
    intro q4 n_q4
    generalize hz : upd _ q4 _ = H5
    obtain ⟨f, gz, e_q4, G_q4⟩ := lay_t hz n_q4 f (n := 0) (by repeat (first | exact gl_nil | refine gl_cons (by first | assumption | exact Gn.scal _ trivial) ?_)) (leN rfl) (by first | exact nil_z0 | exact ref_z0 | exact ScS.z0 trivial | exact ScS.z0 (leN rfl) | exact ScS.z0 (by assumption) | exact z0s (by assumption))
    clear hz
    have G_q1 := G_q1.mono gz
    have G_q2 := G_q2.mono gz
    have G_q3 := G_q3.mono gz
    refine ⟨leN rfl, ?_⟩
    intro q5 n_q5
    generalize hz : upd _ q5 _ = H6
    obtain ⟨f, gz, e_q5, G_q5⟩ := lay_t hz n_q5 f (n := 1) (by repeat (first | exact gl_nil | refine gl_cons (by first | assumption | exact Gn.scal _ trivial) ?_)) (leN rfl) (by first | exact nil_z0 | exact ref_z0 | exact ScS.z0 trivial | exact ScS.z0 (leN rfl) | exact ScS.z0 (by assumption) | exact z0s (by assumption))
    clear hz
    have G_q1 := G_q1.mono gz
    have G_q2 := G_q2.mono gz
    have G_q3 := G_q3.mono gz
    have G_q4 := G_q4.mono gz
    refine ⟨leN rfl, ?_⟩
    intro q6 n_q6
    generalize hz : upd _ q6 _ = H7
    obtain ⟨f, gz, e_q6, G_q6⟩ := lay_t hz n_q6 f (n := 0) (by repeat (first | exact gl_nil | refine gl_cons (by first | assumption | exact Gn.scal _ trivial) ?_)) (leN rfl) (by first | exact nil_z0 | exact ref_z0 | exact ScS.z0 trivial | exact ScS.z0 (leN rfl) | exact ScS.z0 (by assumption) | exact z0s (by assumption))
    clear hz
    have G_q1 := G_q1.mono gz
    have G_q2 := G_q2.mono gz
    have G_q3 := G_q3.mono gz
    have G_q4 := G_q4.mono gz
    have G_q5 := G_q5.mono gz
    refine ⟨leN rfl, ?_⟩
    intro q7 n_q7
    generalize hz : upd _ q7 _ = H8
    obtain ⟨f, gz, e_q7, G_q7⟩ := lay_t hz n_q7 f (n := 1) (by repeat (first | exact gl_nil | refine gl_cons (by first | assumption | exact Gn.scal _ trivial) ?_)) (leN rfl) (by first | exact nil_z0 | exact ref_z0 | exact ScS.z0 trivial | exact ScS.z0 (leN rfl) | exact ScS.z0 (by assumption) | exact z0s (by assumption))
    clear hz
    have G_q1 := G_q1.mono gz
    have G_q2 := G_q2.mono gz
    have G_q3 := G_q3.mono gz
    have G_q4 := G_q4.mono gz
    have G_q5 := G_q5.mono gz
    have G_q6 := G_q6.mono gz
    refine ⟨leN rfl, ?_⟩
    intro q8 n_q8
    generalize hz : upd _ q8 _ = H9
    obtain ⟨f, gz, e_q8, G_q8⟩ := lay_t hz n_q8 f (n := 0) (by repeat (first | exact gl_nil | refine gl_cons (by first | assumption | exact Gn.scal _ trivial) ?_)) (leN rfl) (by first | exact nil_z0 | exact ref_z0 | exact ScS.z0 trivial | exact ScS.z0 (leN rfl) | exact ScS.z0 (by assumption) | exact z0s (by assumption))
    clear hz
    have G_q1 := G_q1.mono gz
    have G_q2 := G_q2.mono gz
    have G_q3 := G_q3.mono gz
    have G_q4 := G_q4.mono gz
    have G_q5 := G_q5.mono gz
    have G_q6 := G_q6.mono gz
    have G_q7 := G_q7.mono gz
    refine ⟨leN rfl, ?_⟩
    intro q9 n_q9
    generalize hz : upd _ q9 _ = H10
    obtain ⟨f, gz, e_q9, G_q9⟩ := lay_t hz n_q9 f (n := 1) (by repeat (first | exact gl_nil | refine gl_cons (by first | assumption | exact Gn.scal _ trivial) ?_)) (leN rfl) (by first | exact nil_z0 | exact ref_z0 | exact ScS.z0 trivial | exact ScS.z0 (leN rfl) | exact ScS.z0 (by assumption) | exact z0s (by assumption))
    clear hz
    have G_q1 := G_q1.mono gz
    have G_q2 := G_q2.mono gz
    have G_q3 := G_q3.mono gz
    have G_q4 := G_q4.mono gz
    have G_q5 := G_q5.mono gz
    have G_q6 := G_q6.mono gz
    have G_q7 := G_q7.mono gz
    have G_q8 := G_q8.mono gz
    refine ⟨leN rfl, ?_⟩
    intro qa n_qa
    generalize hz : upd _ qa _ = H11
    obtain ⟨f, gz, e_qa, G_qa⟩ := lay_t hz n_qa f (n := 0) (by repeat (first | exact gl_nil | refine gl_cons (by first | assumption | exact Gn.scal _ trivial) ?_)) (leN rfl) (by first | exact nil_z0 | exact ref_z0 | exact ScS.z0 trivial | exact ScS.z0 (leN rfl) | exact ScS.z0 (by assumption) | exact z0s (by assumption))
    clear hz
    have G_q1 := G_q1.mono gz
    have G_q2 := G_q2.mono gz
    have G_q3 := G_q3.mono gz
    have G_q4 := G_q4.mono gz
    have G_q5 := G_q5.mono gz
    have G_q6 := G_q6.mono gz
    have G_q7 := G_q7.mono gz
    have G_q8 := G_q8.mono gz
    have G_q9 := G_q9.mono gz
    refine ⟨leN rfl, ?_⟩
    intro qb n_qb
    generalize hz : upd _ qb _ = H12
    obtain ⟨f, gz, e_qb, G_qb⟩ := lay_t hz n_qb f (n := 1) (by repeat (first | exact gl_nil | refine gl_cons (by first | assumption | exact Gn.scal _ trivial) ?_)) (leN rfl) (by first | exact nil_z0 | exact ref_z0 | exact ScS.z0 trivial | exact ScS.z0 (leN rfl) | exact ScS.z0 (by assumption) | exact z0s (by assumption))
    clear hz
    have G_q1 := G_q1.mono gz
    have G_q2 := G_q2.mono gz
    have G_q3 := G_q3.mono gz
    have G_q4 := G_q4.mono gz
    have G_q5 := G_q5.mono gz
    have G_q6 := G_q6.mono gz
    have G_q7 := G_q7.mono gz
    have G_q8 := G_q8.mono gz
    have G_q9 := G_q9.mono gz
    have G_qa := G_qa.mono gz
    refine ⟨leN rfl, ?_⟩
    intro big n_big
    generalize hz : upd _ big _ = H13
    obtain ⟨f, gz, e_big, G_big⟩ := lay_k hz n_big f (n := 2) (by repeat (first | exact gl_nil | refine gl_cons (by first | assumption | exact Gn.scal _ trivial) ?_))
    clear hz
    have G_q1 := G_q1.mono gz
    have G_q2 := G_q2.mono gz
    have G_q3 := G_q3.mono gz
    have G_q4 := G_q4.mono gz
    have G_q5 := G_q5.mono gz
    have G_q6 := G_q6.mono gz
    have G_q7 := G_q7.mono gz
    have G_q8 := G_q8.mono gz
    have G_q9 := G_q9.mono gz
    have G_qa := G_qa.mono gz
    have G_qb := G_qb.mono gz
    skip
    refine ⟨_, rfl, a, 8, rfl, f.hp, posI rfl, ltI rfl, fun d H14 d0 d1 hp gz => ?_⟩
    have f := f.step gz hp
    clear hp
    have e_big := gz _ _ e_big
    have G_big := G_big.mono gz
    obtain ⟨v, hv, mv⟩ := pick e_big d0 d1
    exact ⟨big, _, _, v, rfl, rfl, hSqL e_big, hv, hq v _ (G_big v mv) f.hp f.gg⟩
  have ppos : 0 < ps.length := by
    cases ps with
    | nil => exact absurd rfl c
    | cons _ _ => simp
  refine ⟨_, rfl, _, rfl, cb, rows, rfl, .inr (hSqT f.eb), a, _, rfl, f.hp, by omega, by omega, fun at1 H2 x0 x1 hp2 g2 => ?_⟩
  have f := f.step g2 hp2
  have pa := pa.mono g2
  clear hp2
  obtain ⟨k, rfl⟩ := Int.eq_ofNat_of_zero_le x0
  have kl : k < rows.length := by have x1 : (k : Int) < (rows.length : Int) := x1; omega
  obtain ⟨v, hv⟩ : ∃ v, rows[k]? = some v := ⟨rows[k], List.getElem?_eq_getElem kl⟩
  obtain ⟨b, ⟨mk, n⟩, rfl, hb, e_b⟩ := pa.getP hv
  have mb := List.mem_of_getElem? hb
  have m8 : mk.length ≤ 8 := word8 _ (pw _ mb)
  have ms : ScS (.str mk) := Nat.le_trans m8 (by decide)
  have nb : 1 ≤ n ∧ n ≤ 1000000000 := pn _ mb
  have gb : Gn 1 (hide a H2) (.ref b) := f.gr _ (List.mem_of_getElem? hv)
  refine ⟨_, rfl, _, rfl, cb, _, _, _, rfl, rfl, hSqT f.eb, atI_nat hv, b, _, rfl, hSqT e_b, rfl, _, _, rfl, _, _, rfl, rfl, ?_⟩
  dsimp only
  -- the first six
  skip
  refine ⟨_, rfl, leN rfl, ?_⟩
  intro q1 n_q1
  generalize hz : upd _ q1 _ = H3
  obtain ⟨f, gz, e_q1, G_q1⟩ := lay_t hz n_q1 f (n := 0) (by repeat (first | exact gl_nil | refine gl_cons (by first | assumption | exact Gn.scal _ trivial) ?_)) (leN rfl) (by first | exact nil_z0 | exact ref_z0 | exact ScS.z0 trivial | exact ScS.z0 (leN rfl) | exact ScS.z0 (by assumption) | exact z0s (by assumption))
  clear hz
  refine ⟨_, rfl, _, rfl, rfl, rfl, fun y8 hy8 => ⟨_, _, rfl, rfl, small_le (by omega), ?_⟩⟩
  have s1 : ScS (.str (mk ++ y8)) := by
    show (mk ++ y8).length ≤ 1000
    rw [str_app]
    omega
  refine ⟨_, rfl, leN rfl, ?_⟩
  intro q2 n_q2
  generalize hz : upd _ q2 _ = H4
  obtain ⟨f, gz, e_q2, G_q2⟩ := lay_t hz n_q2 f (n := 0) (by repeat (first | exact gl_nil | refine gl_cons (by first | assumption | exact Gn.scal _ trivial) ?_)) (leN rfl) (by first | exact nil_z0 | exact ref_z0 | exact ScS.z0 trivial | exact ScS.z0 (leN rfl) | exact ScS.z0 (by assumption) | exact z0s (by assumption))
  clear hz
  have G_q1 := G_q1.mono gz
  refine ⟨_, rfl, rfl, _, rfl, rfl, by omega, fun yu hyu => ?_⟩
  have s2 : ScS (.str yu) := Nat.le_trans hyu (by decide)
  refine ⟨_, rfl, leN rfl, ?_⟩
  intro q3 n_q3
  generalize hz : upd _ q3 _ = H5
  obtain ⟨f, gz, e_q3, G_q3⟩ := lay_t hz n_q3 f (n := 0) (by repeat (first | exact gl_nil | refine gl_cons (by first | assumption | exact Gn.scal _ trivial) ?_)) (leN rfl) (by first | exact nil_z0 | exact ref_z0 | exact ScS.z0 trivial | exact ScS.z0 (leN rfl) | exact ScS.z0 (by assumption) | exact z0s (by assumption))
  clear hz
  have G_q1 := G_q1.mono gz
  have G_q2 := G_q2.mono gz
  refine ⟨_, rfl, leN rfl, ?_⟩
  intro q4 n_q4
  generalize hz : upd _ q4 _ = H6
  obtain ⟨f, gz, e_q4, G_q4⟩ := lay_t hz n_q4 f (n := 0) (by repeat (first | exact gl_nil | refine gl_cons (by first | assumption | exact Gn.scal _ trivial) ?_)) (leN rfl) (by first | exact nil_z0 | exact ref_z0 | exact ScS.z0 trivial | exact ScS.z0 (leN rfl) | exact ScS.z0 (by assumption) | exact z0s (by assumption))
  clear hz
  have G_q1 := G_q1.mono gz
  have G_q2 := G_q2.mono gz
  have G_q3 := G_q3.mono gz
  refine ⟨_, rfl, leN rfl, ?_⟩
  intro q5 n_q5
  generalize hz : upd _ q5 _ = H7
  obtain ⟨f, gz, e_q5, G_q5⟩ := lay_t hz n_q5 f (n := 0) (by repeat (first | exact gl_nil | refine gl_cons (by first | assumption | exact Gn.scal _ trivial) ?_)) (leN rfl) (by first | exact nil_z0 | exact ref_z0 | exact ScS.z0 trivial | exact ScS.z0 (leN rfl) | exact ScS.z0 (by assumption) | exact z0s (by assumption))
  clear hz
  have G_q1 := G_q1.mono gz
  have G_q2 := G_q2.mono gz
  have G_q3 := G_q3.mono gz
  have G_q4 := G_q4.mono gz
  refine ⟨_, rfl, leN rfl, ?_⟩
  intro q6 n_q6
  generalize hz : upd _ q6 _ = H8
  obtain ⟨f, gz, e_q6, G_q6⟩ := lay_t hz n_q6 f (n := 0) (by repeat (first | exact gl_nil | refine gl_cons (by first | assumption | exact Gn.scal _ trivial) ?_)) (leN rfl) (by first | exact nil_z0 | exact ref_z0 | exact ScS.z0 trivial | exact ScS.z0 (leN rfl) | exact ScS.z0 (by assumption) | exact z0s (by assumption))
  clear hz
  have G_q1 := G_q1.mono gz
  have G_q2 := G_q2.mono gz
  have G_q3 := G_q3.mono gz
  have G_q4 := G_q4.mono gz
  have G_q5 := G_q5.mono gz
  refine ⟨leN rfl, ?_⟩
  intro o1 n_o1
  generalize hz : upd _ o1 _ = H9
  obtain ⟨f, gz, e_o1, G_o1⟩ := lay_k hz n_o1 f (n := 1) (by repeat (first | exact gl_nil | refine gl_cons (by first | assumption | exact Gn.scal _ trivial) ?_))
  clear hz
  have G_q1 := G_q1.mono gz
  have G_q2 := G_q2.mono gz
  have G_q3 := G_q3.mono gz
  have G_q4 := G_q4.mono gz
  have G_q5 := G_q5.mono gz
  have G_q6 := G_q6.mono gz
  -- the second six
  skip
  refine ⟨_, rfl, _, rfl, leN rfl, ?_⟩
  intro q1 n_q1
  generalize hz : upd _ q1 _ = Ha1
  obtain ⟨f, gz, e_q1, G_q1⟩ := lay_t hz n_q1 f (n := 0) (by repeat (first | exact gl_nil | refine gl_cons (by first | assumption | exact Gn.scal _ trivial) ?_)) (leN rfl) (by first | exact nil_z0 | exact ref_z0 | exact ScS.z0 trivial | exact ScS.z0 (leN rfl) | exact ScS.z0 (by assumption) | exact z0s (by assumption))
  clear hz
  have e_o1 := gz _ _ e_o1
  have G_o1 := G_o1.mono gz
  refine ⟨_, rfl, _, rfl, leN rfl, ?_⟩
  intro q2 n_q2
  generalize hz : upd _ q2 _ = Ha2
  obtain ⟨f, gz, e_q2, G_q2⟩ := lay_t hz n_q2 f (n := 0) (by repeat (first | exact gl_nil | refine gl_cons (by first | assumption | exact Gn.scal _ trivial) ?_)) (leN rfl) (by first | exact nil_z0 | exact ref_z0 | exact ScS.z0 trivial | exact ScS.z0 (leN rfl) | exact ScS.z0 (by assumption) | exact z0s (by assumption))
  clear hz
  have e_o1 := gz _ _ e_o1
  have G_o1 := G_o1.mono gz
  have G_q1 := G_q1.mono gz
  refine ⟨_, rfl, leN rfl, ?_⟩
  intro q3 n_q3
  generalize hz : upd _ q3 _ = Ha3
  obtain ⟨f, gz, e_q3, G_q3⟩ := lay_t hz n_q3 f (n := 0) (by repeat (first | exact gl_nil | refine gl_cons (by first | assumption | exact Gn.scal _ trivial) ?_)) (leN rfl) (by first | exact nil_z0 | exact ref_z0 | exact ScS.z0 trivial | exact ScS.z0 (leN rfl) | exact ScS.z0 (by assumption) | exact z0s (by assumption))
  clear hz
  have e_o1 := gz _ _ e_o1
  have G_o1 := G_o1.mono gz
  have G_q1 := G_q1.mono gz
  have G_q2 := G_q2.mono gz
  refine ⟨_, rfl, _, rfl, _, rfl, nat200 nb.1 nb.2, fun ys => ⟨leN rfl, ?_⟩⟩
  intro q4 n_q4
  generalize hz : upd _ q4 _ = Ha4
  obtain ⟨f, gz, e_q4, G_q4⟩ := lay_t hz n_q4 f (n := 0) (by repeat (first | exact gl_nil | refine gl_cons (by first | assumption | exact Gn.scal _ trivial) ?_)) (leN rfl) (by first | exact nil_z0 | exact ref_z0 | exact ScS.z0 trivial | exact ScS.z0 (leN rfl) | exact ScS.z0 (by assumption) | exact z0s (by assumption))
  clear hz
  have e_o1 := gz _ _ e_o1
  have G_o1 := G_o1.mono gz
  have G_q1 := G_q1.mono gz
  have G_q2 := G_q2.mono gz
  have G_q3 := G_q3.mono gz
  refine ⟨_, rfl, _, rfl, leN rfl, ?_⟩
  intro q5 n_q5
  generalize hz : upd _ q5 _ = Ha5
  obtain ⟨f, gz, e_q5, G_q5⟩ := lay_l hz n_q5 f (n := 0) (by repeat (first | exact gl_nil | refine gl_cons (by first | assumption | exact Gn.scal _ trivial) ?_)) (leN rfl) (by first | exact nil_z0 | exact ref_z0 | exact ScS.z0 trivial | exact ScS.z0 (leN rfl) | exact ScS.z0 (by assumption) | exact z0s (by assumption))
  clear hz
  have e_o1 := gz _ _ e_o1
  have G_o1 := G_o1.mono gz
  have G_q1 := G_q1.mono gz
  have G_q2 := G_q2.mono gz
  have G_q3 := G_q3.mono gz
  have G_q4 := G_q4.mono gz
  refine ⟨_, rfl, _, rfl, _, rfl, leN rfl, ?_⟩
  intro q6 n_q6
  generalize hz : upd _ q6 _ = Ha6
  obtain ⟨f, gz, e_q6, G_q6⟩ := lay_t hz n_q6 f (n := 0) (by repeat (first | exact gl_nil | refine gl_cons (by first | assumption | exact Gn.scal _ trivial) ?_)) (leN rfl) (by first | exact nil_z0 | exact ref_z0 | exact ScS.z0 trivial | exact ScS.z0 (leN rfl) | exact ScS.z0 (by assumption) | exact z0s (by assumption))
  clear hz
  have e_o1 := gz _ _ e_o1
  have G_o1 := G_o1.mono gz
  have G_q1 := G_q1.mono gz
  have G_q2 := G_q2.mono gz
  have G_q3 := G_q3.mono gz
  have G_q4 := G_q4.mono gz
  have G_q5 := G_q5.mono gz
  refine ⟨leN rfl, ?_⟩
  intro o2 n_o2
  generalize hz : upd _ o2 _ = Ha7
  obtain ⟨f, gz, e_o2, G_o2⟩ := lay_k hz n_o2 f (n := 1) (by repeat (first | exact gl_nil | refine gl_cons (by first | assumption | exact Gn.scal _ trivial) ?_))
  clear hz
  have e_o1 := gz _ _ e_o1
  have G_o1 := G_o1.mono gz
  have G_q1 := G_q1.mono gz
  have G_q2 := G_q2.mono gz
  have G_q3 := G_q3.mono gz
  have G_q4 := G_q4.mono gz
  have G_q5 := G_q5.mono gz
  have G_q6 := G_q6.mono gz
  refine ⟨o1, o2, _, _, rfl, rfl, (hide_some e_o1).2, (hide_some e_o2).2, leN rfl, ?_⟩
  skip
  intro o3 n_o3
  generalize hz : upd _ o3 _ = Hb0
  obtain ⟨f, gz, e_o3, G_o3⟩ := lay_k hz n_o3 f (gl_app G_o1 G_o2)
  clear hz
  refine ⟨_, rfl, _, rfl, leN rfl, ?_⟩
  intro q1 n_q1
  generalize hz : upd _ q1 _ = Hb1
  obtain ⟨f, gz, e_q1, G_q1⟩ := lay_t hz n_q1 f (n := 0) (by repeat (first | exact gl_nil | refine gl_cons (by first | assumption | exact Gn.scal _ trivial) ?_)) (leN rfl) (by first | exact nil_z0 | exact ref_z0 | exact ScS.z0 trivial | exact ScS.z0 (leN rfl) | exact ScS.z0 (by assumption) | exact z0s (by assumption))
  clear hz
  have e_o3 := gz _ _ e_o3
  have G_o3 := G_o3.mono gz
  refine ⟨_, rfl, _, rfl, _, _, rfl, rfl, small_le (by show mk.length + 1 ≤ _; omega), ?_⟩
  have s3 : ScS (.str (mk ++ "1")) := by
    show (mk ++ "1").length ≤ 1000
    rw [str_app]
    show mk.length + 1 ≤ 1000
    omega
  refine ⟨_, rfl, leN rfl, ?_⟩
  intro q2 n_q2
  generalize hz : upd _ q2 _ = Hb2
  obtain ⟨f, gz, e_q2, G_q2⟩ := lay_t hz n_q2 f (n := 0) (by repeat (first | exact gl_nil | refine gl_cons (by first | assumption | exact Gn.scal _ trivial) ?_)) (leN rfl) (by first | exact nil_z0 | exact ref_z0 | exact ScS.z0 trivial | exact ScS.z0 (leN rfl) | exact ScS.z0 (by assumption) | exact z0s (by assumption))
  clear hz
  have e_o3 := gz _ _ e_o3
  have G_o3 := G_o3.mono gz
  have G_q1 := G_q1.mono gz
  refine ⟨_, rfl, _, rfl, _, _, rfl, rfl, leN rfl, ?_⟩
  intro q3 n_q3
  generalize hz : upd _ q3 _ = Hb3
  obtain ⟨f, gz, e_q3, G_q3⟩ := lay_t hz n_q3 f (n := 0) (by repeat (first | exact gl_nil | refine gl_cons (by first | assumption | exact Gn.scal _ trivial) ?_)) (leN rfl) (by first | exact nil_z0 | exact ref_z0 | exact ScS.z0 trivial | exact ScS.z0 (leN rfl) | exact ScS.z0 (by assumption) | exact z0s (by assumption))
  clear hz
  have e_o3 := gz _ _ e_o3
  have G_o3 := G_o3.mono gz
  have G_q1 := G_q1.mono gz
  have G_q2 := G_q2.mono gz
  refine ⟨_, rfl, _, _, rfl, rfl, small_le (by show mk.length + 1 ≤ _; omega), ?_⟩
  have s4 : ScS (.str (mk ++ " ")) := by
    show (mk ++ " ").length ≤ 1000
    rw [str_app]
    show mk.length + 1 ≤ 1000
    omega
  refine ⟨_, rfl, leN rfl, ?_⟩
  intro q4 n_q4
  generalize hz : upd _ q4 _ = Hb4
  obtain ⟨f, gz, e_q4, G_q4⟩ := lay_t hz n_q4 f (n := 0) (by repeat (first | exact gl_nil | refine gl_cons (by first | assumption | exact Gn.scal _ trivial) ?_)) (leN rfl) (by first | exact nil_z0 | exact ref_z0 | exact ScS.z0 trivial | exact ScS.z0 (leN rfl) | exact ScS.z0 (by assumption) | exact z0s (by assumption))
  clear hz
  have e_o3 := gz _ _ e_o3
  have G_o3 := G_o3.mono gz
  have G_q1 := G_q1.mono gz
  have G_q2 := G_q2.mono gz
  have G_q3 := G_q3.mono gz
  refine ⟨leN rfl, ?_⟩
  intro o4 n_o4
  generalize hz : upd _ o4 _ = Hb5
  obtain ⟨f, gz, e_o4, G_o4⟩ := lay_k hz n_o4 f (n := 1) (by repeat (first | exact gl_nil | refine gl_cons (by first | assumption | exact Gn.scal _ trivial) ?_))
  clear hz
  have e_o3 := gz _ _ e_o3
  have G_o3 := G_o3.mono gz
  have G_q1 := G_q1.mono gz
  have G_q2 := G_q2.mono gz
  have G_q3 := G_q3.mono gz
  have G_q4 := G_q4.mono gz
  refine ⟨o3, o4, _, _, rfl, rfl, (hide_some e_o3).2, (hide_some e_o4).2, leN rfl, ?_⟩
  skip
  intro o5 n_o5
  generalize hz : upd _ o5 _ = Hb6
  obtain ⟨f, gz, e_o5, G_o5⟩ := lay_k hz n_o5 f (gl_app G_o3 G_o4)
  clear hz
  dsimp only
  -- counts[:at] + (odd[..],) + counts[at + 1:]
  refine ⟨_, rfl, _, rfl, _, rfl, cb, rows, rfl, (hide_some f.eb).2, ?_⟩
  intro t1 Hc1 gs ez
  obtain ⟨f, gz, e_t1⟩ := got_t gs ez f
  clear gs ez
  have e_o5 := gz _ _ e_o5
  have G_o5 := G_o5.mono gz
  have k_t1 := gl_cut (lo := none) (hi := some (k : Int)) f.gr
  skip
  refine ⟨_, rfl, ?_⟩
  refine ⟨_, rfl, a, 18, rfl, f.hp, posI rfl, ltI rfl, fun d Hc2 d0 d1 hp gz => ?_⟩
  have f := f.step gz hp
  clear hp
  have e_o5 := gz _ _ e_o5
  have G_o5 := G_o5.mono gz
  have e_t1 := gz _ _ e_t1
  have k_t1 := k_t1.mono gz
  obtain ⟨u, hu, mu⟩ := pick e_o5 d0 d1
  have G_u := G_o5 u mu
  have su : ∀ z, u = .str z → z.length ≤ 1000 := fun z ez => by
    subst ez
    simp only [List.cons_append, List.nil_append, List.mem_cons, V.str.injEq, reduceCtorEq, false_or, or_false, List.not_mem_nil] at mu
    rw [mu]
    exact ms
  refine ⟨o5, _, _, u, rfl, rfl, hSqL e_o5, hu, leN rfl, ?_⟩
  skip
  intro q1 n_q1
  generalize hz : upd _ q1 _ = Hc3
  obtain ⟨f, gz, e_q1, G_q1⟩ := lay_t hz n_q1 f (n := 1) (by repeat (first | exact gl_nil | refine gl_cons (by first | assumption | exact Gn.scal _ trivial) ?_)) (leN rfl) (by first | exact nil_z0 | exact ref_z0 | exact ScS.z0 trivial | exact ScS.z0 (leN rfl) | exact ScS.z0 (by assumption) | exact z0s (by assumption))
  clear hz
  have e_t1 := gz _ _ e_t1
  have k_t1 := k_t1.mono gz
  have G_u := G_u.mono gz
  have len1 : ∀ lo hi, (cutV rows lo hi).length ≤ 20 := fun lo hi => by
    unfold cutV
    rw [List.length_take, List.length_drop]
    omega
  have k_u1 := gl_cons G_u gl_nil
  refine ⟨t1, q1, _, _, rfl, rfl, (hide_some e_t1).2, (hide_some e_q1).2, Nat.le_trans (Nat.add_le_add_right (len1 _ _) _) (leN rfl), ?_⟩
  skip
  intro t2 Hc4 gs ez
  obtain ⟨f, gz, e_t2⟩ := got_t gs ez f
  clear gs ez
  have k_t1 := k_t1.mono gz
  have k_u1 := k_u1.mono gz
  have k_t2 := gl_app k_t1 k_u1
  refine ⟨_, rfl, _, rfl, _, _, rfl, rfl, _, rfl, cb, rows, rfl, (hide_some f.eb).2, ?_⟩
  skip
  intro t3 Hc5 gs ez
  obtain ⟨f, gz, e_t3⟩ := got_t gs ez f
  clear gs ez
  have e_t2 := gz _ _ e_t2
  have k_t2 := k_t2.mono gz
  have k_t3 := gl_cut (lo := some ((k : Int) + 1)) (hi := none) f.gr
  have len2 : (cutV rows none (some (k : Int)) ++ [u]).length ≤ 21 := by
    rw [List.length_append]
    exact Nat.add_le_add_right (len1 _ _) 1
  refine ⟨t2, t3, _, _, rfl, rfl, (hide_some e_t2).2, (hide_some e_t3).2, Nat.le_trans (Nat.add_le_add len2 (len1 _ _)) (leN rfl), ?_⟩
  skip
  intro t4 Hc6 gs ez
  obtain ⟨f, gz, e_t4⟩ := got_t gs ez f
  clear gs ez
  have k_t2 := k_t2.mono gz
  have k_t3 := k_t3.mono gz
  have k_t4 := gl_app k_t2 k_t3
  have G_t4 := Gn.tup e_t4 (by rw [List.length_append]; exact Nat.le_trans (Nat.add_le_add len2 (len1 _ _)) (leN rfl)) (z0m fun z hz => by
    rcases List.mem_append.mp hz with h | h
    · rcases List.mem_append.mp h with h | h
      · exact absurd h (rc _ _ z)
      · exact su z (List.mem_singleton.mp h).symm
    · exact absurd h (rc _ _ z)) k_t4
  refine ⟨leN rfl, ?_⟩
  skip
  intro q2 n_q2
  generalize hz : upd _ q2 _ = Hd0
  obtain ⟨f, gz, e_q2, G_q2⟩ := lay_l hz n_q2 f (n := 2) (by repeat (first | exact gl_nil | refine gl_cons (by first | assumption | exact Gn.scal _ trivial) ?_)) (leN rfl) (by first | exact nil_z0 | exact ref_z0 | exact ScS.z0 trivial | exact ScS.z0 (leN rfl) | exact ScS.z0 (by assumption) | exact z0s (by assumption))
  clear hz
  have G_t4 := G_t4.mono gz
  refine ⟨q2, 6, _, rfl, rfl, (hide_some e_q2).2, by decide, by decide, leN rfl, ?_⟩
  skip
  intro o6 n_o6
  generalize hz : upd _ o6 _ = Hd1
  obtain ⟨f, gz, e_o6, G_o6⟩ := lay_k hz n_o6 f (Gl.take6 G_t4)
  clear hz
  dsimp only
  -- the three others
  refine ⟨_, rfl, _, rfl, _, rfl, cb, rows, rfl, rfl, hSqT f.eb, ?_⟩
  have rl20 : rows.length ≤ 1000 := by omega
  skip
  intro r1 n_r1
  generalize hz : upd _ r1 _ = He0
  obtain ⟨f, gz, e_r1, G_r1⟩ := lay_t hz n_r1 f (fun x hx => f.gr x (List.mem_reverse.mp hx)) (by rw [List.length_reverse]; exact rl20) (z0m fun z hz => absurd (List.mem_reverse.mp hz) (rn z))
  clear hz
  have e_o6 := gz _ _ e_o6
  have G_o6 := G_o6.mono gz
  refine ⟨_, rfl, _, rfl, _, rfl, cb, rows, rfl, (hide_some f.eb).2, ?_⟩
  intro t1 He1 gs ez
  obtain ⟨f, gz, e_t1⟩ := got_t gs ez f
  clear gs ez
  have e_o6 := gz _ _ e_o6
  have G_o6 := G_o6.mono gz
  have G_r1 := G_r1.mono gz
  refine ⟨_, rfl, _, rfl, _, rfl, _, rfl, _, _, rfl, rfl, _, rfl, cb, rows, rfl, (hide_some f.eb).2, ?_⟩
  intro t2 He2 gs ez
  obtain ⟨f, gz, e_t2⟩ := got_t gs ez f
  clear gs ez
  have e_o6 := gz _ _ e_o6
  have G_o6 := G_o6.mono gz
  have G_r1 := G_r1.mono gz
  have e_t1 := gz _ _ e_t1
  refine ⟨t1, t2, _, _, rfl, rfl, (hide_some e_t1).2, (hide_some e_t2).2, Nat.le_trans (Nat.add_le_add (len1 _ _) (len1 _ _)) (leN rfl), ?_⟩
  skip
  intro t3 He3 gs ez
  obtain ⟨f, gz, e_t3⟩ := got_t gs ez f
  clear gs ez
  have e_o6 := gz _ _ e_o6
  have G_o6 := G_o6.mono gz
  have G_r1 := G_r1.mono gz
  refine ⟨_, rfl, _, rfl, _, rfl, cb, rows, rfl, (hide_some f.eb).2, ?_⟩
  intro t4 He4 gs ez
  obtain ⟨f, gz, e_t4⟩ := got_t gs ez f
  clear gs ez
  have e_o6 := gz _ _ e_o6
  have G_o6 := G_o6.mono gz
  have G_r1 := G_r1.mono gz
  have e_t3 := gz _ _ e_t3
  have len3 : (cutV rows none (some (k : Int)) ++ cutV rows (some (k : Int)) (some ((k : Int) + 1))).length ≤ 40 := by
    rw [List.length_append]
    exact Nat.add_le_add (len1 _ _) (len1 _ _)
  refine ⟨t3, t4, _, _, rfl, rfl, (hide_some e_t3).2, (hide_some e_t4).2, Nat.le_trans (Nat.add_le_add len3 (len1 _ _)) (leN rfl), ?_⟩
  skip
  intro t5 He5 gs ez
  obtain ⟨f, gz, e_t5⟩ := got_t gs ez f
  clear gs ez
  have e_o6 := gz _ _ e_o6
  have G_o6 := G_o6.mono gz
  have G_r1 := G_r1.mono gz
  have G_t5 := Gn.tup e_t5 (by rw [List.length_append]; exact Nat.le_trans (Nat.add_le_add len3 (len1 _ _)) (leN rfl)) (z0m fun z hz => by
    rcases List.mem_append.mp hz with h | h
    · rcases List.mem_append.mp h with h | h
      · exact absurd h (rc _ _ z)
      · exact absurd h (rc _ _ z)
    · exact absurd h (rc _ _ z)) (gl_app (gl_app (gl_cut f.gr) (gl_cut f.gr)) (gl_cut f.gr))
  skip
  refine ⟨_, rfl, cb, rows, rfl, .inr (hSqT f.eb), ?_⟩
  intro r2 n_r2
  generalize hz : upd _ r2 _ = He6
  obtain ⟨f, gz, e_r2, G_r2⟩ := lay_l hz n_r2 f f.gr rl20 (z0m fun z hz => absurd hz (rn z))
  clear hz
  have e_o6 := gz _ _ e_o6
  have G_o6 := G_o6.mono gz
  have G_r1 := G_r1.mono gz
  have G_t5 := G_t5.mono gz
  refine ⟨leN rfl, ?_⟩
  intro o7 n_o7
  generalize hz : upd _ o7 _ = He7
  obtain ⟨f, gz, e_o7, G_o7⟩ := lay_k hz n_o7 f (n := 2) (by repeat (first | exact gl_nil | refine gl_cons (by first | assumption | exact Gn.scal _ trivial) ?_))
  clear hz
  have e_o6 := gz _ _ e_o6
  have G_o6 := G_o6.mono gz
  have G_r1 := G_r1.mono gz
  have G_t5 := G_t5.mono gz
  have G_r2 := G_r2.mono gz
  refine ⟨o6, o7, _, _, rfl, rfl, (hide_some e_o6).2, (hide_some e_o7).2, leN rfl, ?_⟩
  skip
  intro o8 n_o8
  generalize hz : upd _ o8 _ = He8
  obtain ⟨f, gz, e_o8, G_o8⟩ := lay_k hz n_o8 f (gl_app G_o6 G_o7)
  clear hz
  dsimp only
  -- the last three
  refine ⟨_, rfl, _, rfl, leN rfl, ?_⟩
  intro r1 n_r1
  generalize hz : upd _ r1 _ = Hf0
  obtain ⟨f, gz, e_r1, G_r1⟩ := lay_t hz n_r1 f (n := 0) (by repeat (first | exact gl_nil | refine gl_cons (by first | assumption | exact Gn.scal _ trivial) ?_)) (leN rfl) (by first | exact nil_z0 | exact ref_z0 | exact ScS.z0 trivial | exact ScS.z0 (leN rfl) | exact ScS.z0 (by assumption) | exact z0s (by assumption))
  clear hz
  have e_o8 := gz _ _ e_o8
  have G_o8 := G_o8.mono gz
  refine ⟨leN rfl, ?_⟩
  intro r2 n_r2
  generalize hz : upd _ r2 _ = Hf1
  obtain ⟨f, gz, e_r2, G_r2⟩ := lay_t hz n_r2 f (n := 1) (by repeat (first | exact gl_nil | refine gl_cons (by first | assumption | exact Gn.scal _ trivial) ?_)) (leN rfl) (by first | exact nil_z0 | exact ref_z0 | exact ScS.z0 trivial | exact ScS.z0 (leN rfl) | exact ScS.z0 (by assumption) | exact z0s (by assumption))
  clear hz
  have e_o8 := gz _ _ e_o8
  have G_o8 := G_o8.mono gz
  have G_r1 := G_r1.mono gz
  refine ⟨cb, r2, _, _, rfl, rfl, (hide_some f.eb).2, (hide_some e_r2).2, Nat.le_trans (Nat.add_le_add_right rl20 _) (leN rfl), ?_⟩
  skip
  intro t1 Hf2 gs ez
  obtain ⟨f, gz, e_t1⟩ := got_t gs ez f
  clear gs ez
  have e_o8 := gz _ _ e_o8
  have G_o8 := G_o8.mono gz
  have G_r1 := G_r1.mono gz
  have G_t1 := Gn.tup e_t1 (by rw [List.length_append]; show rows.length + 1 ≤ 1000; omega) (z0m fun z hz => by
    rcases List.mem_append.mp hz with h | h
    · exact absurd h (rn z)
    · exact nomatch (List.mem_singleton.mp h)) (gl_app f.gr (gl_cons G_r1 gl_nil))
  skip
  refine ⟨_, rfl, _, rfl, cb, rows, rfl, (hide_some f.eb).2, ?_⟩
  intro t2 Hf3 gs ez
  obtain ⟨f, gz, e_t2⟩ := got_t gs ez f
  clear gs ez
  have e_o8 := gz _ _ e_o8
  have G_o8 := G_o8.mono gz
  have G_t1 := G_t1.mono gz
  have G_t2 := Gn.tup e_t2 (Nat.le_trans (len1 _ _) (leN rfl)) (z0m fun z hz => absurd hz (rc _ _ z)) (gl_cut f.gr)
  skip
  refine ⟨leN rfl, ?_⟩
  intro o9 n_o9
  generalize hz : upd _ o9 _ = Hf4
  obtain ⟨f, gz, e_o9, G_o9⟩ := lay_k hz n_o9 f (n := 2) (by repeat (first | exact gl_nil | refine gl_cons (by first | assumption | exact Gn.scal _ trivial) ?_))
  clear hz
  have e_o8 := gz _ _ e_o8
  have G_o8 := G_o8.mono gz
  have G_t1 := G_t1.mono gz
  have G_t2 := G_t2.mono gz
  refine ⟨o8, o9, _, _, rfl, rfl, (hide_some e_o8).2, (hide_some e_o9).2, leN rfl, ?_⟩
  skip
  intro oa n_oa
  generalize hz : upd _ oa _ = Hf5
  obtain ⟨f, gz, e_oa, G_oa⟩ := lay_k hz n_oa f (gl_app G_o8 G_o9)
  clear hz
  refine ⟨_, rfl, a, 12, rfl, f.hp, posI rfl, ltI rfl, fun d2 Hf6 d20 d21 hp gz => ?_⟩
  have f := f.step gz hp
  clear hp
  have e_oa := gz _ _ e_oa
  have G_oa := G_oa.mono gz
  obtain ⟨v, hv, mv⟩ := pick e_oa d20 d21
  exact ⟨oa, _, _, v, rfl, rfl, hSqL e_oa, hv, hq v _ (G_oa v mv) f.hp f.gg⟩
end
end K08

namespace K08
open PySem L2
theorem Gn.down {H : Hp} : ∀ {n : Nat} {x : V}, Gn (n + 1) H x → Gn n H x
  | 0, _, h => h.1
  | _ + 1, _, h => ⟨h.1, fun a xs e q => let ⟨l, z, g⟩ := h.2 a xs e q; ⟨l, z, fun y hy => (g y hy).down⟩⟩
theorem OC.cnt {a cb : Addr} {rows : List V} {H H' : Hp} (f : OC a cb rows H H') (l : rows.length ≤ 1000) (rn : ∀ z, V.str z ∉ rows) : Gn 2 (hide a H') (.ref cb) := Gn.tup f.eb l (z0m fun z hz => absurd hz (rn z)) f.gr
structure Tb (t : Ty) : Prop where
  ok : t.Ok
  lt : t.lt ≤ 1000000000000000000
  cs : ∀ p ∈ t.cs, p.2 ≤ 1000000000
def spOther8 : Sp := fun vs H Q _ => ∃ (a q : Addr) (t : Ty), vs = [.ref a, .ref q] ∧ PenAt H a ∧ DV (hide a H) (.ref q) t.D ∧ Tb t ∧ ∀ (v : V) (H' : Hp), Gn 3 (hide a H') v → PenAt H' a → Grw a H H' → Q v H'
section
variable {P : Program} {w : World} {K : PySem.W.Frag} {mg : Str → Option Value} {base : Heap} {f : Addr} {fd : FuncData}
theorem ok_other8 (z_len : mg "len" = none) (z_list : mg "list" = none) (h_l_draw : Has P w K mg base "_law_draw" 1 ["_law_pen_here", "_law_size"] spDraw) (h_l_other_counts : Has P w K mg base "_law_other_counts" 2 ["_law_pen_here", "_law_room_here", "_law_counts"] spOC)
    (h_l_counted : Has P w K mg base "_law_counted" 2 ["_law_counts"] spCtd) (F : Fun K "_law_other" "_law_other" s_l_other f fd) : FnOk P w K mg base CX0 3 f fd ["_law_pen_here", "_law_tally_here"] spOther8 := by
  refine F.ok sc_l_other (fun vs H Q E h => ?_) (fun cdv A outer s H vs Q E hr h => ?_)
  · obtain ⟨a, q, t, rfl, _⟩ := h
    rfl
  obtain ⟨a, q, t, rfl, hp, kq, tb, hq⟩ := h
  refine ⟨_, (@pss_cons _ _ _ _ _ (ps_asg (pv 1) (pg_tup rfl (pgs_cons (pg_name (i := 2) sc_l_other.nd rfl (Or.inl rfl)) (pgs_cons (pg_name (i := 3) sc_l_other.nd rfl (Or.inl rfl)) (pgs_cons (pg_name (i := 4) sc_l_other.nd rfl (Or.inl rfl)) (pgs_cons (pg_name (i := 5) sc_l_other.nd rfl (Or.inl rfl)) pgs_nil))))))
  (@pss_cons _ _ _ _ _ (@ps_set _ _ 6 _ _ _ _ sc_l_other.nd rfl (Or.inl rfl) (pe_callH h_l_draw hr (@pa_cons _ _ _ _ _ (pv 0) (@pa_cons _ _ _ _ _ pe_int pa_nil (by rfl)) (by rfl))) (by rfl) (by first | exact .inl rfl | exact .inr rfl))
  (@pss_cons _ _ _ _ _ (@ps_set _ _ 7 _ _ _ _ sc_l_other.nd rfl (Or.inl rfl) (@pe_ix _ _ _ _ _ _ _ ix_list (@pe_lst _ _ _ _ (@pa_cons _ _ _ _ _ pe_non (@pa_cons _ _ _ _ _ pe_bl (@pa_cons _ _ _ _ _ pe_bl (@pa_cons _ _ _ _ _ pe_str (@pa_cons _ _ _ _ _ (@pe_un _ _ _ _ _ _ un_neg pe_int) (@pa_cons _ _ _ _ _ (@pe_lst _ _ _ _ (@pa_cons _ _ _ _ _ pe_int pa_nil (by rfl))) (@pa_cons _ _ _ _ _ (@pe_tup _ _ _ _ _ (@pa_cons _ _ _ _ _ pe_int pa_nil (by rfl))) (@pa_cons _ _ _ _ _ pe_dnewK pa_nil (by rfl)) (by rfl)) (by rfl)) (by rfl)) (by rfl)) (by rfl)) (by rfl)) (by rfl))) (pe_callH h_l_draw hr (@pa_cons _ _ _ _ _ (pv 0) (@pa_cons _ _ _ _ _ pe_int pa_nil (by rfl)) (by rfl))) (fun _ _ => rfl)) (by rfl) (by first | exact .inl rfl | exact .inr rfl))
  (@pss_cons _ _ _ _ _ (@ps_if _ _ _ _ _ _ _ _ (@pt_cmpR _ _ _ _ _ _ _ _ op_lt (pv 6) pe_int (nomark _)) (@pss_cons _ _ _ _ _ (@ps_set _ _ 8 _ _ _ _ sc_l_other.nd rfl (Or.inl rfl) (pe_callH h_l_other_counts hr (@pa_cons _ _ _ _ _ (pv 0) (@pa_cons _ _ _ _ _ (pv 2) (@pa_cons _ _ _ _ _ (pv 3) pa_nil (by rfl)) (by rfl)) (by rfl))) (by rfl) (by first | exact .inl rfl | exact .inr rfl))
  (@pss_one _ _ _ (@ps_ret _ _ _ _ (@pe_tup _ _ _ _ _ (@pa_cons _ _ _ _ _ (pv 2) (@pa_cons _ _ _ _ _ (pv 8) (@pa_cons _ _ _ _ _ (pv 4) (@pa_cons _ _ _ _ _ (@pe_op _ _ _ _ _ _ _ _ op_add (@pe_op _ _ _ _ _ _ _ _ op_sub (pv 5) (pe_callH h_l_counted hr (@pa_cons _ _ _ _ _ (pv 3) pa_nil (by rfl)))) (pe_callH h_l_counted hr (@pa_cons _ _ _ _ _ (pv 8) pa_nil (by rfl)))) pa_nil (by rfl)) (by rfl)) (by rfl)) (by rfl)))))) pss_nil)
  (@pss_cons _ _ _ _ _ (@ps_if _ _ _ _ _ _ _ _ (@pt_cmpR _ _ _ _ _ _ _ _ op_eq (pv 6) pe_int (nomark _)) (@pss_cons _ _ _ _ _ (@ps_set _ _ 9 _ _ _ _ sc_l_other.nd rfl (Or.inl rfl) (@pe_lst _ _ _ _ (@pa_cons _ _ _ _ _ pe_int (@pa_cons _ _ _ _ _ pe_int (@pa_cons _ _ _ _ _ (@pe_un _ _ _ _ _ _ un_neg pe_int) (@pa_cons _ _ _ _ _ (@pe_op _ _ _ _ _ _ _ _ op_add (pv 2) pe_int) (@pa_cons _ _ _ _ _ (@pe_op _ _ _ _ _ _ _ _ op_sub (pv 2) pe_int) (@pa_cons _ _ _ _ _ (pe_callB call_len_seq rfl z_len PySem.boot_len (@pa_cons _ _ _ _ _ (pv 3) pa_nil (by rfl))) (@pa_cons _ _ _ _ _ (@pe_op _ _ _ _ _ _ _ _ op_sub (pe_callB call_len_seq rfl z_len PySem.boot_len (@pa_cons _ _ _ _ _ (pv 3) pa_nil (by rfl))) pe_int) (@pa_cons _ _ _ _ _ (pv 7) pa_nil (by rfl)) (by rfl)) (by rfl)) (by rfl)) (by rfl)) (by rfl)) (by rfl)) (by rfl))) (by rfl) (by first | exact .inl rfl | exact .inr rfl))
  (@pss_one _ _ _ (@ps_ret _ _ _ _ (@pe_tup _ _ _ _ _ (@pa_cons _ _ _ _ _ (@pe_ix _ _ _ _ _ _ _ ix_list (pv 9) (pe_callH h_l_draw hr (@pa_cons _ _ _ _ _ (pv 0) (@pa_cons _ _ _ _ _ pe_int pa_nil (by rfl)) (by rfl))) (fun _ _ => rfl)) (@pa_cons _ _ _ _ _ (pv 3) (@pa_cons _ _ _ _ _ (pv 4) (@pa_cons _ _ _ _ _ (pv 5) pa_nil (by rfl)) (by rfl)) (by rfl)) (by rfl)))))) pss_nil)
  (@pss_cons _ _ _ _ _ (@ps_if _ _ _ _ _ _ _ _ (@pt_cmpR _ _ _ _ _ _ _ _ op_eq (pv 6) pe_int (nomark _)) (@pss_one _ _ _ (@ps_ret _ _ _ _ (@pe_tup _ _ _ _ _ (@pa_cons _ _ _ _ _ (pv 2) (@pa_cons _ _ _ _ _ (pv 3) (@pa_cons _ _ _ _ _ (@pe_ix _ _ _ _ _ _ _ ix_list (@pe_lst _ _ _ _ (@pa_cons _ _ _ _ _ (@pe_op _ _ _ _ _ _ _ _ op_add (pv 4) pe_int) (@pa_cons _ _ _ _ _ (@pe_op _ _ _ _ _ _ _ _ op_sub (pv 4) pe_int) (@pa_cons _ _ _ _ _ (pv 7) (@pa_cons _ _ _ _ _ (@pe_op _ _ _ _ _ _ _ _ op_add (pv 4) (@pe_op _ _ _ _ _ _ _ _ op_pow pe_int pe_int)) pa_nil (by rfl)) (by rfl)) (by rfl)) (by rfl))) (pe_callH h_l_draw hr (@pa_cons _ _ _ _ _ (pv 0) (@pa_cons _ _ _ _ _ pe_int pa_nil (by rfl)) (by rfl))) (fun _ _ => rfl)) (@pa_cons _ _ _ _ _ (pv 5) pa_nil (by rfl)) (by rfl)) (by rfl)) (by rfl))))) pss_nil)
  (@pss_cons _ _ _ _ _ (@ps_if _ _ _ _ _ _ _ _ (@pt_cmpR _ _ _ _ _ _ _ _ op_eq (pv 6) pe_int (nomark _)) (@pss_cons _ _ _ _ _ (@ps_set _ _ 10 _ _ _ _ sc_l_other.nd rfl (Or.inl rfl) (@pe_op _ _ _ _ _ _ _ _ op_add (pv 5) (@pe_op _ _ _ _ _ _ _ _ op_mul (@pe_op _ _ _ _ _ _ _ _ op_sub (pv 2) pe_int) (pv 4))) (by rfl) (by first | exact .inl rfl | exact .inr rfl))
  (@pss_cons _ _ _ _ _ (@ps_set _ _ 11 _ _ _ _ sc_l_other.nd rfl (Or.inl rfl) (@pe_lst _ _ _ _ (@pa_cons _ _ _ _ _ (@pe_op _ _ _ _ _ _ _ _ op_add (pv 5) pe_int) (@pa_cons _ _ _ _ _ (@pe_op _ _ _ _ _ _ _ _ op_sub (pv 5) pe_int) (@pa_cons _ _ _ _ _ (pv 10) (@pa_cons _ _ _ _ _ (@pe_op _ _ _ _ _ _ _ _ op_add (pv 10) pe_int) (@pa_cons _ _ _ _ _ (pv 7) (@pa_cons _ _ _ _ _ pe_int pa_nil (by rfl)) (by rfl)) (by rfl)) (by rfl)) (by rfl)) (by rfl))) (by rfl) (by first | exact .inl rfl | exact .inr rfl))
  (@pss_one _ _ _ (@ps_ret _ _ _ _ (@pe_tup _ _ _ _ _ (@pa_cons _ _ _ _ _ (pv 2) (@pa_cons _ _ _ _ _ (pv 3) (@pa_cons _ _ _ _ _ (pv 4) (@pa_cons _ _ _ _ _ (@pe_ix _ _ _ _ _ _ _ ix_list (pv 11) (pe_callH h_l_draw hr (@pa_cons _ _ _ _ _ (pv 0) (@pa_cons _ _ _ _ _ pe_int pa_nil (by rfl)) (by rfl))) (fun _ _ => rfl)) pa_nil (by rfl)) (by rfl)) (by rfl)) (by rfl))))))) pss_nil)
  (@pss_cons _ _ _ _ _ (@ps_set _ _ 12 _ _ _ _ sc_l_other.nd rfl (Or.inl rfl) (@pe_lst _ _ _ _ (@pa_cons _ _ _ _ _ (pe_callTy call_list_of rfl z_list PyProof.Rows.boot_list (@pa_cons _ _ _ _ _ (pv 1) pa_nil (by rfl))) (@pa_cons _ _ _ _ _ (pe_slice sl_tupG (pv 1) po_none (po_some pe_int)) (@pa_cons _ _ _ _ _ (@pe_op _ _ _ _ _ _ _ _ op_catG (pv 1) (@pe_tup _ _ _ _ _ (@pa_cons _ _ _ _ _ pe_int pa_nil (by rfl)))) (@pa_cons _ _ _ _ _ (@pe_tup _ _ _ _ _ (@pa_cons _ _ _ _ _ (pv 1) pa_nil (by rfl))) (@pa_cons _ _ _ _ _ pe_non (@pa_cons _ _ _ _ _ (pv 7) (@pa_cons _ _ _ _ _ pe_dnewK (@pa_cons _ _ _ _ _ pe_str pa_nil (by rfl)) (by rfl)) (by rfl)) (by rfl)) (by rfl)) (by rfl)) (by rfl)) (by rfl))) (by rfl) (by first | exact .inl rfl | exact .inr rfl))
  (@pss_one _ _ _ (@ps_ret _ _ _ _ (@pe_ix _ _ _ _ _ _ _ ix_list (pv 12) (pe_callH h_l_draw hr (@pa_cons _ _ _ _ _ (pv 0) (@pa_cons _ _ _ _ _ pe_int pa_nil (by rfl)) (by rfl))) (fun _ _ => rfl)))))))))))), ?_⟩
  have r1 := tb.ok.room1
  have r2 := tb.ok.room2
  have pl : t.cs.length ≤ 20 := by have := tb.ok.len; omega
  have pw := tb.ok.word
  obtain ⟨_, cb, rows, e0, e_q, eb, pa⟩ := DV.ty_inv kq
  cases e0
  have rl : rows.length = t.cs.length := by rw [pa.length, kvOf_len]
  have rl20 : rows.length ≤ 1000 := by omega
  have rn : ∀ z, V.str z ∉ rows := fun z hz => by
    obtain ⟨i, hi⟩ := List.mem_iff_getElem?.mp hz
    obtain ⟨_, _, e, _⟩ := pa.getP hi
    cases e
  have f : OC a cb rows H H := ⟨eb, pairs_gl pa fun p hp => Nat.le_trans (word8 _ (pw p hp)) (by decide), hp, Same.refl _⟩
  clear kq eb
  refine ⟨_, rfl, q, _, rfl, hSqT e_q, rfl, _, _, rfl, _, _, rfl, _, _, rfl, _, _, rfl, rfl, ?_⟩
  dsimp only
  skip
  refine ⟨_, rfl, a, 7, rfl, f.hp, posI rfl, ltI rfl, fun way H1 way0 way1 hp gz => ?_⟩
  have f := f.step gz hp
  clear hp
  have e_q := gz _ _ e_q
  have pa := pa.mono gz
  dsimp only
  refine ⟨_, rfl, leN rfl, ?_⟩
  intro q1 n_q1
  generalize hz : upd _ q1 _ = H2
  obtain ⟨f, gz, e_q1, G_q1⟩ := lay_l hz n_q1 f (n := 2) (by repeat (first | exact gl_nil | refine gl_cons (by first | assumption | exact Gn.scal _ trivial) ?_)) (leN rfl) (by first | exact nil_z0 | exact ref_z0 | exact ScS.z0 trivial | exact ScS.z0 (leN rfl) | exact ScS.z0 (by assumption) | exact z0s (by assumption))
  clear hz
  have e_q := gz _ _ e_q
  have pa := pa.mono gz
  refine ⟨leN rfl, ?_⟩
  intro q2 n_q2
  generalize hz : upd _ q2 _ = H3
  obtain ⟨f, gz, e_q2, G_q2⟩ := lay_t hz n_q2 f (n := 2) (by repeat (first | exact gl_nil | refine gl_cons (by first | assumption | exact Gn.scal _ trivial) ?_)) (leN rfl) (by first | exact nil_z0 | exact ref_z0 | exact ScS.z0 trivial | exact ScS.z0 (leN rfl) | exact ScS.z0 (by assumption) | exact z0s (by assumption))
  clear hz
  have e_q := gz _ _ e_q
  have pa := pa.mono gz
  have G_q1 := G_q1.mono gz
  intro q3 n_q3
  generalize hz : upd _ q3 _ = H4
  obtain ⟨f, gz, e_q3, G_q3⟩ := lay_d hz n_q3 f 
  clear hz
  have e_q := gz _ _ e_q
  have pa := pa.mono gz
  have G_q1 := G_q1.mono gz
  have G_q2 := G_q2.mono gz
  have G_q3 := G_q3 3
  refine ⟨leN rfl, ?_⟩
  intro os n_os
  generalize hz : upd _ os _ = H5
  obtain ⟨f, gz, e_os, G_os⟩ := lay_k hz n_os f (n := 3) (by repeat (first | exact gl_nil | refine gl_cons (by first | assumption | exact Gn.scal _ trivial) ?_))
  clear hz
  have e_q := gz _ _ e_q
  have pa := pa.mono gz
  have G_q1 := G_q1.mono gz
  have G_q2 := G_q2.mono gz
  have G_q3 := G_q3.mono gz
  skip
  refine ⟨_, rfl, a, 8, rfl, f.hp, posI rfl, ltI rfl, fun d H6 d0 d1 hp gz => ?_⟩
  have f := f.step gz hp
  clear hp
  have e_q := gz _ _ e_q
  have pa := pa.mono gz
  have e_os := gz _ _ e_os
  have G_os := G_os.mono gz
  obtain ⟨odd, ho, mo⟩ := pick e_os d0 d1
  have G_o := G_os odd mo
  have so : ∀ z, odd = .str z → z.length ≤ 1000 := fun z ez => by
    subst ez
    simp only [List.mem_cons, V.str.injEq, reduceCtorEq, false_or, or_false, List.not_mem_nil] at mo
    rw [mo]
    exact leN rfl
  refine ⟨os, _, _, odd, rfl, rfl, hSqL e_os, ho, ?_⟩
  dsimp only
  skip
  refine ⟨_, rfl, _, _, rfl, rfl, _, rfl, ite2 (fun c => ?_) (fun c => ?_)⟩
  · refine ⟨_, rfl, _, rfl, _, rfl, a, cb, _, rows, t.cs, rfl, f.hp, f.eb, pa, pw, fun p hp => ⟨tb.ok.pos p hp, tb.cs p hp⟩, pl, fun v H7 G_v hp gz => ?_⟩
    have f := f.step gz hp
    clear hp
    dsimp only
    have gc := f.cnt rl20 rn
    refine ⟨_, rfl, _, rfl, _, rfl, _, rfl, _, rfl, _, rfl, gc.mono hide_sub, fun n1 H8 gs => ⟨_, _, rfl, rfl, _, rfl, _, rfl, (G_v.mono hide_sub).mono gs, fun n2 H9 gs2 => ⟨_, _, rfl, rfl, leN rfl, ?_⟩⟩⟩
    have g3 := f.hp.grw (gs.trans gs2)
    have f := f.step g3 (f.hp.same (gs.trans gs2))
    have gc := f.cnt rl20 rn
    have G_v := G_v.mono g3
    skip
    intro r n_r
    generalize hz : upd _ r _ = Hr
    obtain ⟨f, gz, e_r, G_r⟩ := lay_t hz n_r f (n := 2) (by repeat (first | exact gl_nil | refine gl_cons (by first | assumption | exact Gn.scal _ trivial) ?_)) (leN rfl) (by first | exact nil_z0 | exact ref_z0 | exact ScS.z0 trivial | exact ScS.z0 (leN rfl) | exact ScS.z0 (by assumption) | exact z0s (by assumption))
    clear hz
    exact hq _ _ G_r f.hp f.gg
  refine ⟨_, rfl, rfl, _, rfl, ite2 (fun c => ?_) (fun c => ?_)⟩
  · refine ⟨_, rfl, _, rfl, _, _, rfl, rfl, _, rfl, _, _, rfl, rfl, _, rfl, cb, rows, rfl, .inr (hSqT f.eb), _, rfl, cb, rows, rfl, .inr (hSqT f.eb), _, _, rfl, rfl, _, rfl, leN rfl, ?_⟩
    have G_o2 := G_o.down
    skip
    intro rs n_rs
    generalize hz : upd _ rs _ = Hr
    obtain ⟨f, gz, e_rs, G_rs⟩ := lay_k hz n_rs f (n := 2) (by repeat (first | exact gl_nil | refine gl_cons (by first | assumption | exact Gn.scal _ trivial) ?_))
    clear hz
    dsimp only
    refine ⟨_, rfl, ?_⟩
    refine ⟨_, rfl, a, 8, rfl, f.hp, posI rfl, ltI rfl, fun e Hr2 e0 e1 hp gz => ?_⟩
    have f := f.step gz hp
    clear hp
    have e_rs := gz _ _ e_rs
    have G_rs := G_rs.mono gz
    obtain ⟨u, hu, mu⟩ := pick e_rs e0 e1
    have G_u := G_rs u mu
    have su : ∀ z, u = .str z → z.length ≤ 1000 := fun z ez => by
      subst ez
      simp only [List.mem_cons, V.str.injEq, reduceCtorEq, false_or, or_false, List.not_mem_nil] at mu
      exact so z mu.symm
    have gc := f.cnt rl20 rn
    refine ⟨rs, _, _, u, rfl, rfl, hSqL e_rs, hu, _, rfl, _, rfl, _, rfl, leN rfl, ?_⟩
    skip
    intro r n_r
    generalize hz : upd _ r _ = Hr3
    obtain ⟨f, gz, e_r, G_r⟩ := lay_t hz n_r f (n := 2) (by repeat (first | exact gl_nil | refine gl_cons (by first | assumption | exact Gn.scal _ trivial) ?_)) (leN rfl) (by first | exact nil_z0 | exact ref_z0 | exact ScS.z0 trivial | exact ScS.z0 (leN rfl) | exact ScS.z0 (by assumption) | exact z0s (by assumption))
    clear hz
    exact hq _ _ G_r f.hp f.gg
  refine ⟨_, rfl, rfl, _, rfl, ite2 (fun c => ?_) (fun c => ?_)⟩
  · refine ⟨_, rfl, _, rfl, _, rfl, _, _, rfl, rfl, _, rfl, _, _, rfl, rfl, _, rfl, _, rfl, _, _, rfl, rfl, ⟨by decide, by decide, by decide⟩, _, _, rfl, rfl, leN rfl, ?_⟩
    have G_o2 := G_o.down
    skip
    intro rs n_rs
    generalize hz : upd _ rs _ = Hr
    obtain ⟨f, gz, e_rs, G_rs⟩ := lay_k hz n_rs f (n := 2) (by repeat (first | exact gl_nil | refine gl_cons (by first | assumption | exact Gn.scal _ trivial) ?_))
    clear hz
    refine ⟨_, rfl, a, 4, rfl, f.hp, posI rfl, ltI rfl, fun e Hr2 e0 e1 hp gz => ?_⟩
    have f := f.step gz hp
    clear hp
    have e_rs := gz _ _ e_rs
    have G_rs := G_rs.mono gz
    obtain ⟨u, hu, mu⟩ := pick e_rs e0 e1
    have G_u := G_rs u mu
    have gc := f.cnt rl20 rn
    refine ⟨rs, _, _, u, rfl, rfl, hSqL e_rs, hu, _, rfl, leN rfl, ?_⟩
    skip
    intro r n_r
    generalize hz : upd _ r _ = Hr3
    obtain ⟨f, gz, e_r, G_r⟩ := lay_t hz n_r f (n := 2) (by repeat (first | exact gl_nil | refine gl_cons (by first | assumption | exact Gn.scal _ trivial) ?_)) (leN rfl) (by first | exact nil_z0 | exact ref_z0 | exact ScS.z0 trivial | exact ScS.z0 (leN rfl) | exact ScS.z0 (by assumption) | exact z0s (by assumption))
    clear hz
    exact hq _ _ G_r f.hp f.gg
  refine ⟨_, rfl, rfl, _, rfl, ite2 (fun c => ?_) (fun c => ?_)⟩
  · refine ⟨_, rfl, _, rfl, _, _, rfl, rfl, _, rfl, _, _, rfl, rfl, Or.inl ⟨by omega, by omega⟩, _, _, rfl, rfl, ?_⟩
    dsimp only
    refine ⟨_, rfl, _, _, rfl, rfl, _, rfl, _, _, rfl, rfl, _, rfl, _, rfl, _, _, rfl, rfl, _, rfl, leN rfl, ?_⟩
    have G_o2 := G_o.down
    skip
    intro rs n_rs
    generalize hz : upd _ rs _ = Hr
    obtain ⟨f, gz, e_rs, G_rs⟩ := lay_k hz n_rs f (n := 2) (by repeat (first | exact gl_nil | refine gl_cons (by first | assumption | exact Gn.scal _ trivial) ?_))
    clear hz
    dsimp only
    refine ⟨_, rfl, _, rfl, _, rfl, _, rfl, ?_⟩
    refine ⟨_, rfl, a, 6, rfl, f.hp, posI rfl, ltI rfl, fun e Hr2 e0 e1 hp gz => ?_⟩
    have f := f.step gz hp
    clear hp
    have e_rs := gz _ _ e_rs
    have G_rs := G_rs.mono gz
    obtain ⟨u, hu, mu⟩ := pick e_rs e0 e1
    have G_u := G_rs u mu
    have gc := f.cnt rl20 rn
    refine ⟨rs, _, _, u, rfl, rfl, hSqL e_rs, hu, leN rfl, ?_⟩
    skip
    intro r n_r
    generalize hz : upd _ r _ = Hr3
    obtain ⟨f, gz, e_r, G_r⟩ := lay_t hz n_r f (n := 2) (by repeat (first | exact gl_nil | refine gl_cons (by first | assumption | exact Gn.scal _ trivial) ?_)) (leN rfl) (by first | exact nil_z0 | exact ref_z0 | exact ScS.z0 trivial | exact ScS.z0 (leN rfl) | exact ScS.z0 (by assumption) | exact z0s (by assumption))
    clear hz
    exact hq _ _ G_r f.hp f.gg
  skip
  have gc := f.cnt rl20 rn
  refine ⟨_, rfl, q, _, rfl, .inr (hSqT e_q), ?_⟩
  intro r1 n_r1
  generalize hz : upd _ r1 _ = Hs0
  obtain ⟨f, gz, e_r1, G_r1⟩ := lay_l hz n_r1 f (n := 2) (by repeat (first | exact gl_nil | refine gl_cons (by first | assumption | exact Gn.scal _ trivial) ?_)) (leN rfl) (by first | exact nil_z0 | exact ref_z0 | exact ScS.z0 trivial | exact ScS.z0 (leN rfl) | exact ScS.z0 (by assumption) | exact z0s (by assumption))
  clear hz
  have e_q := gz _ _ e_q
  have pa := pa.mono gz
  have G_o := G_o.mono gz
  refine ⟨_, rfl, _, rfl, q, _, rfl, (hide_some e_q).2, ?_⟩
  intro t1 Hs1 gs ez
  obtain ⟨f, gz, e_t1⟩ := got_t gs ez f
  clear gs ez
  have e_q := gz _ _ e_q
  have pa := pa.mono gz
  have G_o := G_o.mono gz
  have G_r1 := G_r1.mono gz
  have gc := f.cnt rl20 rn
  have G_t1 : Gn 3 (hide a Hs1) (.ref t1) := Gn.tup e_t1 (leN rfl) (ScS.z0 (x := .int t.room) trivial) (show Gl 2 _ [.int t.room, .ref cb, .int t.lt] by repeat (first | exact gl_nil | refine gl_cons (by first | assumption | exact Gn.scal _ trivial) ?_))
  skip
  refine ⟨_, rfl, leN rfl, ?_⟩
  intro r2 n_r2
  generalize hz : upd _ r2 _ = Hs2
  obtain ⟨f, gz, e_r2, G_r2⟩ := lay_t hz n_r2 f (n := 2) (by repeat (first | exact gl_nil | refine gl_cons (by first | assumption | exact Gn.scal _ trivial) ?_)) (leN rfl) (by first | exact nil_z0 | exact ref_z0 | exact ScS.z0 trivial | exact ScS.z0 (leN rfl) | exact ScS.z0 (by assumption) | exact z0s (by assumption))
  clear hz
  have e_q := gz _ _ e_q
  have pa := pa.mono gz
  have G_o := G_o.mono gz
  have G_r1 := G_r1.mono gz
  have G_t1 := G_t1.mono gz
  refine ⟨q, r2, _, _, rfl, rfl, (hide_some e_q).2, (hide_some e_r2).2, leN rfl, ?_⟩
  skip
  intro t2 Hs3 gs ez
  obtain ⟨f, gz, e_t2⟩ := got_t gs ez f
  clear gs ez
  have e_q := gz _ _ e_q
  have pa := pa.mono gz
  have G_o := G_o.mono gz
  have G_r1 := G_r1.mono gz
  have G_t1 := G_t1.mono gz
  have gc := f.cnt rl20 rn
  have G_t2 : Gn 3 (hide a Hs3) (.ref t2) := Gn.tup e_t2 (leN rfl) (ScS.z0 (x := .int t.room) trivial) (show Gl 2 _ [.int t.room, .ref cb, .int t.lt, .int t.total, .int 0] by repeat (first | exact gl_nil | refine gl_cons (by first | assumption | exact Gn.scal _ trivial) ?_))
  have G_q : Gn 2 (hide a Hs3) (.ref q) := Gn.tup e_q (leN rfl) (ScS.z0 (x := .int t.room) trivial) (show Gl 1 _ [.int t.room, .ref cb, .int t.lt, .int t.total] by have gc := gc.down; repeat (first | exact gl_nil | refine gl_cons (by first | assumption | exact Gn.scal _ trivial) ?_))
  skip
  refine ⟨_, rfl, leN rfl, ?_⟩
  intro r3 n_r3
  generalize hz : upd _ r3 _ = Hs4
  obtain ⟨f, gz, e_r3, G_r3⟩ := lay_t hz n_r3 f (n := 2) (by repeat (first | exact gl_nil | refine gl_cons (by first | assumption | exact Gn.scal _ trivial) ?_)) (leN rfl) (by first | exact nil_z0 | exact ref_z0 | exact ScS.z0 trivial | exact ScS.z0 (leN rfl) | exact ScS.z0 (by assumption) | exact z0s (by assumption))
  clear hz
  have G_o := G_o.mono gz
  have G_r1 := G_r1.mono gz
  have G_t1 := G_t1.mono gz
  have G_t2 := G_t2.mono gz
  refine ⟨_, rfl, ?_⟩
  intro r4 n_r4
  generalize hz : upd _ r4 _ = Hs5
  obtain ⟨f, gz, e_r4, G_r4⟩ := lay_d hz n_r4 f 
  clear hz
  have G_o := G_o.mono gz
  have G_r1 := G_r1.mono gz
  have G_t1 := G_t1.mono gz
  have G_t2 := G_t2.mono gz
  have G_r3 := G_r3.mono gz
  have G_r4 := G_r4 3
  refine ⟨leN rfl, ?_⟩
  intro rs n_rs
  generalize hz : upd _ rs _ = Hs6
  obtain ⟨f, gz, e_rs, G_rs⟩ := lay_k hz n_rs f (n := 3) (by repeat (first | exact gl_nil | refine gl_cons (by first | assumption | exact Gn.scal _ trivial) ?_))
  clear hz
  have G_o := G_o.mono gz
  have G_r1 := G_r1.mono gz
  have G_t1 := G_t1.mono gz
  have G_t2 := G_t2.mono gz
  have G_r3 := G_r3.mono gz
  have G_r4 := G_r4.mono gz
  dsimp only
  refine ⟨_, rfl, ?_⟩
  skip
  refine ⟨_, rfl, a, 8, rfl, f.hp, posI rfl, ltI rfl, fun e Hs7 e0 e1 hp gz => ?_⟩
  have f := f.step gz hp
  clear hp
  have e_rs := gz _ _ e_rs
  have G_rs := G_rs.mono gz
  obtain ⟨u, hu, mu⟩ := pick e_rs e0 e1
  exact ⟨rs, _, _, u, rfl, rfl, hSqL e_rs, hu, hq u _ (G_rs u mu) f.hp f.gg⟩
end
end K08

namespace K08
open PySem L2
def spLaw (K : PySem.W.Frag) : Sp := fun vs H Q _ => ∃ (a : Addr) (ns : List Int), vs = [.ref a] ∧ SqL K H a (ns.map V.int) ∧ ns.length ≤ 63 ∧ ∀ H', Q (.bl true) H'
theorem fresh_grw {p : Addr} {H0 H1 H2 : Hp} (n : H0 p = none) (s : Same H0 H1) (g : Grw p H1 H2) : Same H0 H2 := fun b u e => (hide_some (g b u (by rw [hide_ne (ne_of_none e n)]; exact s b u e))).2
theorem sqL_same {K : PySem.W.Frag} {H H' : Hp} {a : Addr} {xs : List V} (s : Same H H') (h : SqL K H a xs) : SqL K H' a xs := by
  rcases h with h | h
  · rcases h with h | ⟨o, h⟩
    · exact .inl (.inl (s _ _ h))
    · exact .inl (.inr ⟨o, s _ _ h⟩)
  · exact .inr h
theorem ok_risL {t : Ty} (ok : t.Ok) : risL (t.cs.map (·.1)) = true := by
  rw [risL_iff]
  intro j x y hx hy
  have h := List.pairwise_iff_getElem.mp (List.Pairwise.and ok.rise ok.nd)
  obtain ⟨hj, ex⟩ := List.getElem?_eq_some_iff.mp hx
  obtain ⟨hj1, ey⟩ := List.getElem?_eq_some_iff.mp hy
  obtain ⟨h1, h2⟩ := h j (j + 1) hj hj1 (Nat.lt_succ_self j)
  rw [ex, ey] at h1 h2
  by_cases c : x.cps.toList < y.cps.toList
  · exact c
  · have h3 : leS y x = true := by unfold leS; rw [decide_eq_false c]; rfl
    exact absurd (leS_anti h1 h3) h2
theorem rows_of {H : Hp} : ∀ {rows : List V} {ps : Ps}, PairsAt H rows (kvOf ps) → (∀ p ∈ ps, mkS p.1 = true ∧ 1 ≤ p.2) → RowsP H rows ps
  | _, [], h, _ => by cases h; exact .nil
  | _, p :: ps, h, g => by
    unfold kvOf at h
    rw [List.map_cons] at h
    cases h with
    | cons e r => exact .cons ⟨_, rfl, e, g p (.head _)⟩ (rows_of r fun x hx => g x (.tail _ hx))
theorem sum_pos : ∀ {ps : Ps}, (∀ p ∈ ps, 1 ≤ p.2) → 0 ≤ (nsOf ps).sum
  | [], _ => Int.le_refl _
  | p :: ps, h => by
    have h1 := sum_pos fun x hx => h x (.tail p hx)
    have h2 := h p (.head _)
    show 0 ≤ p.2 + (nsOf ps).sum
    omega
theorem tal_ok {H : Hp} {a : Addr} {t : Ty} (ok : t.Ok) (d : DV H (.ref a) t.D) : TalP H (.ref a) := by
  obtain ⟨_, cb, rows, e0, eq, eb, pa⟩ := DV.ty_inv d
  cases e0
  have lo := ok.lo
  have hi := ok.hi
  unfold Ty.sum at lo hi
  have s0 := sum_pos ok.pos
  have r1 := ok.room1
  have l0 := ok.lt0
  have m0 : 0 ≤ (t.room + 1) * t.lt := Int.mul_nonneg (by omega) l0
  exact ⟨t, ⟨⟨a, cb, rows, rfl, eq, eb, rows_of pa fun p hp => ⟨words_mk _ (ok.word p hp), ok.pos p hp⟩⟩, ok_risL ok, ok.room1, ok.room2, ok.len, ok.lt0, by omega⟩, lo, hi⟩
theorem tal_nil {H : Hp} {a c : Addr} {room : Int} (r1 : 1 ≤ room) (r2 : room ≤ 20) (e : H a = some (.tup [.int room, .ref c, .int 0, .int 0])) (ec : H c = some (.tup [])) : TalP H (.ref a) :=
  ⟨⟨room, [], 0, 0⟩, ⟨⟨a, c, [], rfl, e, ec, .nil⟩, rfl, r1, r2, by show (0 : Int) ≤ room; omega, Int.le_refl _, Int.le_refl _⟩, by show (room + 1) * 0 ≤ 0 - 0; rw [Int.mul_zero]; exact Int.le_refl _, by show (0 : Int) - 0 ≤ 2 * room * 0; rw [Int.mul_zero]; exact Int.le_refl _⟩
section
variable {P : Program} {w : World} {K : PySem.W.Frag} {mg : Str → Option Value} {base : Heap} {f : Addr} {fd : FuncData}
theorem ok_law (h_l_pen : Has P w K mg base "_law_pen" 1 ["_law_script", "_law_k"] (spPen K)) (h_l_draw : Has P w K mg base "_law_draw" 1 ["_law_pen_here", "_law_size"] spDraw)
    (h_l_room : Has P w K mg base "_law_room" 2 ["_law_pen_here"] spRoom) (h_l_tally : Has P w K mg base "_law_tally" 3 ["_law_pen_here", "_law_room_here"] spTally) (h_is_tally : Has P w K mg base "is_tally" 6 ["thing"] spTalK)
    (h_l_right : Has P w K mg base "_law_right" 7 ["_law_thing"] spRight8) (h_l_other : Has P w K mg base "_law_other" 3 ["_law_pen_here", "_law_tally_here"] spOther8)
    (z_range : mg "range" = none) (z_sum : mg "sum" = none) (F : Fun K "law" "law" s_law f fd) : FnOk P w K mg base CX0 8 f fd ["_law_script"] (spLaw K) := by
  refine F.ok sc_law (fun vs H Q E h => ?_) (fun cdv A outer s H vs Q E hr h => ?_)
  · obtain ⟨a, ns, rfl, _⟩ := h
    rfl
  obtain ⟨s0, ns, rfl, hS, _, hq⟩ := h
  refine ⟨_, (@pss_cons _ _ _ _ _ (ps_for PassesOwn.never rfl (pi_range1 rfl z_range (@pa_cons _ _ _ _ _ pe_int pa_nil (by rfl))) (pg_name (i := 1) sc_law.nd rfl (Or.inl rfl))
  (@pss_cons _ _ _ _ _ (@ps_set _ _ 2 _ _ _ _ sc_law.nd rfl (Or.inl rfl) (pe_callH h_l_pen hr (@pa_cons _ _ _ _ _ (pv 0) (@pa_cons _ _ _ _ _ (pv 1) pa_nil (by rfl)) (by rfl))) (by rfl) (by first | exact .inl rfl | exact .inr rfl))
  (@pss_cons _ _ _ _ _ (@ps_set _ _ 3 _ _ _ _ sc_law.nd rfl (Or.inl rfl) (pe_callH h_l_room hr (@pa_cons _ _ _ _ _ (pv 2) pa_nil (by rfl))) (by rfl) (by first | exact .inl rfl | exact .inr rfl))
  (@pss_cons _ _ _ _ _ (@ps_set _ _ 4 _ _ _ _ sc_law.nd rfl (Or.inl rfl) (pe_callH h_l_tally hr (@pa_cons _ _ _ _ _ (pv 2) (@pa_cons _ _ _ _ _ (pv 3) pa_nil (by rfl)) (by rfl))) (by rfl) (by first | exact .inl rfl | exact .inr rfl))
  (@pss_cons _ _ _ _ _ (@ps_if _ _ _ _ _ _ _ _ (PW.pt (@pw_or _ _ _ _ _ _ _ (@pt_cmpR _ _ _ _ _ _ _ _ op_notT (pe_callH h_is_tally hr (@pa_cons _ _ _ _ _ (pv 4) pa_nil (by rfl))) pe_bl (nomark _)) (@pw_or1 _ _ _ _ (@pt_cmpR _ _ _ _ _ _ _ _ op_notT (pe_callH h_is_tally hr (@pa_cons _ _ _ _ _ (@pe_tup _ _ _ _ _ (@pa_cons _ _ _ _ _ (pv 3) (@pa_cons _ _ _ _ _ (@pe_tup _ _ _ _ _ pa_nil) (@pa_cons _ _ _ _ _ pe_int (@pa_cons _ _ _ _ _ pe_int pa_nil (by rfl)) (by rfl)) (by rfl)) (by rfl))) pa_nil (by rfl))) pe_bl (nomark _))))) (@pss_one _ _ _ (@ps_ret _ _ _ _ pe_bl)) pss_nil)
  (@pss_cons _ _ _ _ _ (@ps_set _ _ 5 _ _ _ _ sc_law.nd rfl (Or.inl rfl) (pe_callB (call_sum rfl) rfl z_sum PyProof.Rows.boot_sum (@pa_cons _ _ _ _ _ (pe_comp (own := ["_law_mark", "_law_count"]) (CompOk.of rfl rfl (by rfl) (by rfl) (by rfl)) (pi_tup (@pe_ix _ _ _ _ _ _ _ ix_tup (pv 4) pe_int (fun _ _ => rfl)))
    (fun _ _ _ _ _ => (pg_tupK K 2 rfl rfl (pgs_cons (pg_name (i := 0) nd_law_150_32 rfl (Or.inl rfl) (Or.inr rfl)) (pgs_cons (pg_name (i := 1) nd_law_150_32 rfl (Or.inl rfl) (Or.inr rfl)) pgs_nil)))) (fun _ _ _ _ _ => pts_nil)
    (fun _ _ _ _ _ => (pv 1))) pa_nil (by rfl))) (by rfl) (by first | exact .inl rfl | exact .inr rfl))
  (@pss_cons _ _ _ _ _ (@ps_set _ _ 6 _ _ _ _ sc_law.nd rfl (Or.inl rfl) (@pe_lst _ _ _ _ (@pa_cons _ _ _ _ _ (@pe_op _ _ _ _ _ _ _ _ op_mul (@pe_op _ _ _ _ _ _ _ _ op_add (pv 3) pe_int) (@pe_ix _ _ _ _ _ _ _ ix_tup (pv 4) pe_int (fun _ _ => rfl))) (@pa_cons _ _ _ _ _ (@pe_op _ _ _ _ _ _ _ _ op_mul (@pe_op _ _ _ _ _ _ _ _ op_mul pe_int (pv 3)) (@pe_ix _ _ _ _ _ _ _ ix_tup (pv 4) pe_int (fun _ _ => rfl))) pa_nil (by rfl)) (by rfl))) (by rfl) (by first | exact .inl rfl | exact .inr rfl))
  (@pss_cons _ _ _ _ _ (ps_for PassesOwn.never rfl (pi_list (@pe_lst _ _ _ _ (@pa_cons _ _ _ _ _ (@pe_ix _ _ _ _ _ _ _ ix_list (pv 6) pe_int (fun _ _ => rfl)) (@pa_cons _ _ _ _ _ (@pe_op _ _ _ _ _ _ _ _ op_sub (@pe_ix _ _ _ _ _ _ _ ix_list (pv 6) pe_int (fun _ _ => rfl)) pe_int) (@pa_cons _ _ _ _ _ (@pe_ix _ _ _ _ _ _ _ ix_list (pv 6) pe_int (fun _ _ => rfl)) (@pa_cons _ _ _ _ _ (@pe_op _ _ _ _ _ _ _ _ op_add (@pe_ix _ _ _ _ _ _ _ ix_list (pv 6) pe_int (fun _ _ => rfl)) pe_int) pa_nil (by rfl)) (by rfl)) (by rfl)) (by rfl)))) (pg_name (i := 7) sc_law.nd rfl (Or.inl rfl))
  (@pss_one _ _ _ (@ps_if _ _ _ _ _ _ _ _ (@pt_not _ _ _ _ (pt_val (pe_callH h_l_right hr (@pa_cons _ _ _ _ _ (@pe_tup _ _ _ _ _ (@pa_cons _ _ _ _ _ (pv 3) (@pa_cons _ _ _ _ _ (@pe_ix _ _ _ _ _ _ _ ix_tup (pv 4) pe_int (fun _ _ => rfl)) (@pa_cons _ _ _ _ _ (@pe_ix _ _ _ _ _ _ _ ix_tup (pv 4) pe_int (fun _ _ => rfl)) (@pa_cons _ _ _ _ _ (@pe_op _ _ _ _ _ _ _ _ op_add (pv 5) (pv 7)) pa_nil (by rfl)) (by rfl)) (by rfl)) (by rfl))) pa_nil (by rfl))))) (@pss_one _ _ _ (@ps_ret _ _ _ _ pe_bl)) pss_nil)))
  (@pss_cons _ _ _ _ _ (ps_for PassesOwn.never rfl (pi_range1 rfl z_range (@pa_cons _ _ _ _ _ pe_int pa_nil (by rfl))) (pg_name (i := 8) sc_law.nd rfl (Or.inl rfl))
  (@pss_cons _ _ _ _ _ (@ps_set _ _ 9 _ _ _ _ sc_law.nd rfl (Or.inl rfl) (pe_callH h_l_other hr (@pa_cons _ _ _ _ _ (pv 2) (@pa_cons _ _ _ _ _ (pv 4) pa_nil (by rfl)) (by rfl))) (by rfl) (by first | exact .inl rfl | exact .inr rfl))
  (@pss_one _ _ _ (@ps_if _ _ _ _ _ _ _ _ (@pt_not _ _ _ _ (pt_val (pe_callH h_l_right hr (@pa_cons _ _ _ _ _ (pv 9) pa_nil (by rfl))))) (@pss_one _ _ _ (@ps_ret _ _ _ _ pe_bl)) pss_nil))))
  (@pss_one _ _ _ (@ps_if _ _ _ _ _ _ _ _ (@pt_not _ _ _ _ (pt_val (pe_callH h_l_right hr (@pa_cons _ _ _ _ _ (@pe_ix _ _ _ _ _ _ _ ix_list (@pe_lst _ _ _ _ (@pa_cons _ _ _ _ _ pe_non (@pa_cons _ _ _ _ _ pe_bl (@pa_cons _ _ _ _ _ pe_int (@pa_cons _ _ _ _ _ pe_str (@pa_cons _ _ _ _ _ (@pe_tup _ _ _ _ _ pa_nil) (@pa_cons _ _ _ _ _ (@pe_lst _ _ _ _ pa_nil) (@pa_cons _ _ _ _ _ pe_dnewK (@pa_cons _ _ _ _ _ (@pe_op _ _ _ _ _ _ _ _ op_repT (@pe_tup _ _ _ _ _ (@pa_cons _ _ _ _ _ (@pe_tup _ _ _ _ _ pa_nil) pa_nil (by rfl))) pe_int) pa_nil (by rfl)) (by rfl)) (by rfl)) (by rfl)) (by rfl)) (by rfl)) (by rfl)) (by rfl))) (pe_callH h_l_draw hr (@pa_cons _ _ _ _ _ (pv 2) (@pa_cons _ _ _ _ _ pe_int pa_nil (by rfl)) (by rfl))) (fun _ _ => rfl)) pa_nil (by rfl))))) (@pss_one _ _ _ (@ps_ret _ _ _ _ pe_bl)) pss_nil)))))))))))
  (@pss_one _ _ _ (@ps_ret _ _ _ _ pe_bl))), ?_⟩
  refine ⟨5, rfl, leI rfl, ltI rfl, ?_⟩
  refine for_range (lo := 0) (n := 5) (fun i σ H' => ∃ (o1 o2 o3 o4 o5 o6 o7 o8 o9 : Option V), σ = [some (.ref s0), o1, o2, o3, o4, o5, o6, o7, o8, o9] ∧ Same H H') ⟨_, _, _, _, _, _, _, _, _, rfl, Same.refl _⟩ ?_ ?_
  · rintro i σ H0 hi ⟨o1, o2, o3, o4, o5, o6, o7, o8, o9, rfl, sm⟩
    refine ⟨_, rfl, _, rfl, s0, ns, _, rfl, sqL_same sm hS, by omega, fun a H1 na s1 hp => ?_⟩
    dsimp only
    refine ⟨_, rfl, a, rfl, hp, fun room H2 r0 r1 hp g2 => ?_⟩
    dsimp only
    refine ⟨_, rfl, _, rfl, a, room, rfl, hp, r0, r1, fun q t H3 ok bd rm kq hp g3 => ?_⟩
    dsimp only
    subst rm
    have tb : Tb t := ⟨ok, bd.1, bd.2⟩
    have pl : t.cs.length ≤ 20 := by have := ok.len; omega
    have pw := ok.word
    obtain ⟨_, cb, rows, e0, e_q, eb, pa⟩ := DV.ty_inv kq
    cases e0
    have rl : rows.length = t.cs.length := by rw [pa.length, kvOf_len]
    have rl20 : rows.length ≤ 1000 := by omega
    have rn : ∀ z, V.str z ∉ rows := fun z hz => by
      obtain ⟨i, hi⟩ := List.mem_iff_getElem?.mp hz
      obtain ⟨_, _, e, _⟩ := pa.getP hi
      cases e
    have f : OC a cb rows H1 H3 := ⟨eb, pairs_gl pa fun p hp => Nat.le_trans (word8 _ (pw p hp)) (by decide), hp, g2.trans g3⟩
    clear eb hp
    have gc := f.cnt rl20 rn
    have gq : Gn 3 (hide a H3) (.ref q) := Gn.tup e_q (leN rfl) (ScS.z0 (x := .int t.room) trivial) (show Gl 2 _ [.int t.room, .ref cb, .int t.lt, .int t.total] by repeat (first | exact gl_nil | refine gl_cons (by first | assumption | exact Gn.scal _ trivial) ?_))
    refine ⟨_, rfl, _, rfl, gq.mono hide_sub, fun b1 H4 s4 i4 => ?_⟩
    rw [i4.mpr (tal_ok ok (kq.mono hide_sub))]
    have g4 := f.hp.grw s4
    have f := f.step g4 (f.hp.same s4)
    have e_q := g4 _ _ e_q
    have pa := pa.mono g4
    clear i4
    refine ⟨_, rfl, rfl, _, rfl, ?_⟩
    refine ⟨_, rfl, leN rfl, ?_⟩
    skip
    intro z1 n_z1
    generalize hz : upd _ z1 _ = H5
    obtain ⟨f, gz, e_z1, G_z1⟩ := lay_t hz n_z1 f (n := 1) (by repeat (first | exact gl_nil | refine gl_cons (by first | assumption | exact Gn.scal _ trivial) ?_)) (leN rfl) (by first | exact nil_z0 | exact ref_z0 | exact ScS.z0 trivial | exact ScS.z0 (leN rfl) | exact ScS.z0 (by assumption) | exact z0s (by assumption))
    clear hz
    have e_q := gz _ _ e_q
    have pa := pa.mono gz
    refine ⟨leN rfl, ?_⟩
    skip
    intro z2 n_z2
    generalize hz : upd _ z2 _ = H6
    obtain ⟨f, gz, e_z2, G_z2⟩ := lay_t hz n_z2 f (n := 2) (by repeat (first | exact gl_nil | refine gl_cons (by first | assumption | exact Gn.scal _ trivial) ?_)) (leN rfl) (by first | exact nil_z0 | exact ref_z0 | exact ScS.z0 trivial | exact ScS.z0 (leN rfl) | exact ScS.z0 (by assumption) | exact z0s (by assumption))
    clear hz
    have e_q := gz _ _ e_q
    have pa := pa.mono gz
    have e_z1 := gz _ _ e_z1
    refine ⟨_, rfl, G_z2.mono hide_sub, fun b2 H7 s7 i7 => ?_⟩
    rw [i7.mpr (tal_nil r0 r1 (hide_some e_z2).2 (hide_some e_z1).2)]
    have g7 := f.hp.grw s7
    have f := f.step g7 (f.hp.same s7)
    have e_q := g7 _ _ e_q
    have pa := pa.mono g7
    clear i7
    refine ⟨_, rfl, rfl, _, rfl, ?_⟩
    refine iteF ?_
    refine ⟨_, rfl, q, _, _, _, rfl, rfl, hSqT e_q, rfl, cb, rfl, ⟨_, hSqT f.eb⟩, ?_⟩
    refine comp_pairs (fun _ => true) (fun t => .int t.2) (hide_some f.eb).2 (pa.mono hide_sub) (by omega) ?_ ?_
    · rintro u c ys C mu eq hC _
      exact ⟨c, _, rfl, SqT.of eq, rfl, _, _, rfl, _, _, rfl, rfl, Wk.refl _, _, rfl, hC rfl⟩
    rw [filter_all, show (t.cs.map fun t => V.int t.2) = (nsOf t.cs).map V.int by unfold nsOf; rw [List.map_map]; rfl]
    skip
    intro cl n_cl
    generalize hz : upd _ cl _ = H8
    obtain ⟨f, gz, e_cl, G_cl⟩ := lay_k hz n_cl f ((gl_scs (n := 0) fun x hx => by obtain ⟨n, _, rfl⟩ := List.mem_map.mp hx; trivial))
    clear hz
    have e_q := gz _ _ e_q
    have pa := pa.mono gz
    refine ⟨cl, nsOf t.cs, rfl, hSqL e_cl, ?_⟩
    dsimp only
    generalize (nsOf t.cs).sum = sm0
    refine ⟨_, rfl, _, _, rfl, rfl, _, rfl, q, _, _, _, rfl, rfl, hSqT e_q, rfl, _, _, rfl, rfl, Or.inl ⟨by omega, by omega⟩, ?_⟩
    refine ⟨_, rfl, _, _, rfl, rfl, Or.inl ⟨by decide, by decide⟩, _, rfl, q, _, _, _, rfl, rfl, hSqT e_q, rfl, _, _, rfl, rfl, Or.inl ⟨by omega, by omega⟩, leN rfl, ?_⟩
    skip
    intro en n_en
    generalize hz : upd _ en _ = H9
    obtain ⟨f, gz, e_en, G_en⟩ := lay_k hz n_en f (n := 0) (by repeat (first | exact gl_nil | refine gl_cons (by first | assumption | exact Gn.scal _ trivial) ?_))
    clear hz
    have e_q := gz _ _ e_q
    have pa := pa.mono gz
    dsimp only
    refine ⟨_, rfl, en, _, _, _, rfl, rfl, hSqL e_en, rfl, ?_⟩
    refine ⟨_, rfl, en, _, _, _, rfl, rfl, hSqL e_en, rfl, _, _, rfl, rfl, ?_⟩
    refine ⟨_, rfl, en, _, _, _, rfl, rfl, hSqL e_en, rfl, ?_⟩
    refine ⟨_, rfl, en, _, _, _, rfl, rfl, hSqL e_en, rfl, _, _, rfl, rfl, leN rfl, ?_⟩
    skip
    intro fo n_fo
    generalize hz : upd _ fo _ = H10
    obtain ⟨f, gz, e_fo, G_fo⟩ := lay_k hz n_fo f (n := 0) (by repeat (first | exact gl_nil | refine gl_cons (by first | assumption | exact Gn.scal _ trivial) ?_))
    clear hz
    have e_q := gz _ _ e_q
    have pa := pa.mono gz
    refine ⟨fo, rfl, ⟨_, hSqL e_fo⟩, ?_⟩
    refine for_list (xs := [.int ((t.room + 1) * t.lt), .int ((t.room + 1) * t.lt - 1), .int (2 * t.room * t.lt), .int (2 * t.room * t.lt + 1)]) (fun j σ H' => ∃ (o7 : Option V), σ = [some (.ref s0), some (.int (0 + i)), some (.ref a), some (.int t.room), some (.ref q), some (.int sm0), some (.ref en), o7, o8, o9] ∧ OC a cb rows H1 H' ∧ hide a H' q = some (.tup [.int t.room, .ref cb, .int t.lt, .int t.total]) ∧ PairsAt (hide a H') rows (kvOf t.cs) ∧ Grw a H10 H') ⟨_, rfl, f, e_q, pa, Same.refl _⟩ ?_ ?_ ?_
    · rintro j σ H' _ ⟨_, _, _, _, _, g⟩
      exact hSqL (g _ _ e_fo)
    · rintro j x σ H' hx ⟨o7, rfl, f, e_q, pa, g⟩
      obtain ⟨gn, rfl⟩ : ∃ n, x = .int n := by
        have := List.mem_of_getElem? hx
        simp only [List.mem_cons, List.not_mem_nil, or_false] at this
        rcases this with h | h | h | h <;> exact ⟨_, h⟩
      have gc := f.cnt rl20 rn
      refine ⟨_, rfl, _, rfl, q, _, _, _, rfl, rfl, hSqT e_q, rfl, _, rfl, q, _, _, _, rfl, rfl, hSqT e_q, rfl, _, rfl, _, rfl, _, _, rfl, rfl, leN rfl, ?_⟩
      have e_q0 := e_q
      skip
      intro r n_r
      generalize hz : upd _ r _ = Hr
      obtain ⟨f, gz, e_r, G_r⟩ := lay_t hz n_r f (n := 2) (by repeat (first | exact gl_nil | refine gl_cons (by first | assumption | exact Gn.scal _ trivial) ?_)) (leN rfl) (by first | exact nil_z0 | exact ref_z0 | exact ScS.z0 trivial | exact ScS.z0 (leN rfl) | exact ScS.z0 (by assumption) | exact z0s (by assumption))
      clear hz
      have e_q := gz _ _ e_q
      refine ⟨_, rfl, G_r.mono hide_sub, fun Hs ss => ⟨_, rfl, iteF ⟨_, rfl, ?_⟩⟩⟩
      have gs := f.hp.grw ss
      exact ⟨f.step gs (f.hp.same ss), gs _ _ e_q, (pa.mono gz).mono gs, g.trans (gz.trans gs)⟩
    rintro σ H11 ⟨o7, rfl, f, e_q, pa, _⟩
    refine ⟨6, rfl, leI rfl, ltI rfl, ?_⟩
    refine for_range (lo := 0) (n := 6) (fun j σ H' => ∃ (o8 o9 : Option V), σ = [some (.ref s0), some (.int (0 + i)), some (.ref a), some (.int t.room), some (.ref q), some (.int sm0), some (.ref en), o7, o8, o9] ∧ OC a cb rows H1 H' ∧ hide a H' q = some (.tup [.int t.room, .ref cb, .int t.lt, .int t.total]) ∧ PairsAt (hide a H') rows (kvOf t.cs) ∧ Grw a H11 H') ⟨_, _, rfl, f, e_q, pa, Same.refl _⟩ ?_ ?_
    · rintro j σ H' hj ⟨o8, o9, rfl, f, e_q, pa, g⟩
      refine ⟨_, rfl, _, rfl, a, q, t, rfl, f.hp, Ty.dv e_q f.eb pa, tb, fun v Hv G_v hp gv => ?_⟩
      dsimp only
      have f := f.step gv hp
      have e_q := gv _ _ e_q
      refine ⟨_, rfl, _, rfl, G_v.mono hide_sub, fun Hs ss => ⟨_, rfl, iteF ⟨_, _, rfl, ?_⟩⟩⟩
      have gs := f.hp.grw ss
      exact ⟨f.step gs (f.hp.same ss), gs _ _ e_q, (pa.mono gv).mono gs, g.trans (gv.trans gs)⟩
    rintro σ H12 ⟨o8, o9, rfl, f, e_q, pa, _⟩
    refine ⟨leN rfl, ?_⟩
    skip
    intro w1 n_w1
    generalize hz : upd _ w1 _ = Hw1
    obtain ⟨f, gz, e_w1, G_w1⟩ := lay_t hz n_w1 f (n := 2) (by repeat (first | exact gl_nil | refine gl_cons (by first | assumption | exact Gn.scal _ trivial) ?_)) (leN rfl) (by first | exact nil_z0 | exact ref_z0 | exact ScS.z0 trivial | exact ScS.z0 (leN rfl) | exact ScS.z0 (by assumption) | exact z0s (by assumption))
    clear hz
    refine ⟨leN rfl, ?_⟩
    intro w2 n_w2
    generalize hz : upd _ w2 _ = Hw2
    obtain ⟨f, gz, e_w2, G_w2⟩ := lay_l hz n_w2 f (n := 2) (by repeat (first | exact gl_nil | refine gl_cons (by first | assumption | exact Gn.scal _ trivial) ?_)) (leN rfl) (by first | exact nil_z0 | exact ref_z0 | exact ScS.z0 trivial | exact ScS.z0 (leN rfl) | exact ScS.z0 (by assumption) | exact z0s (by assumption))
    clear hz
    have G_w1 := G_w1.mono gz
    intro w3 n_w3
    generalize hz : upd _ w3 _ = Hw3
    obtain ⟨f, gz, e_w3, G_w3⟩ := lay_d hz n_w3 f 
    clear hz
    have G_w1 := G_w1.mono gz
    have G_w2 := G_w2.mono gz
    have G_w3 := G_w3 3
    refine ⟨leN rfl, ?_⟩
    intro w4 n_w4
    generalize hz : upd _ w4 _ = Hw4
    obtain ⟨f, gz, e_w4, G_w4⟩ := lay_t hz n_w4 f (n := 1) (by repeat (first | exact gl_nil | refine gl_cons (by first | assumption | exact Gn.scal _ trivial) ?_)) (leN rfl) (by first | exact nil_z0 | exact ref_z0 | exact ScS.z0 trivial | exact ScS.z0 (leN rfl) | exact ScS.z0 (by assumption) | exact z0s (by assumption))
    clear hz
    have G_w1 := G_w1.mono gz
    have G_w2 := G_w2.mono gz
    have G_w3 := G_w3.mono gz
    refine ⟨leN rfl, ?_⟩
    intro w5 n_w5
    generalize hz : upd _ w5 _ = Hw5
    obtain ⟨f, gz, e_w5, G_w5⟩ := lay_t hz n_w5 f (n := 2) (by repeat (first | exact gl_nil | refine gl_cons (by first | assumption | exact Gn.scal _ trivial) ?_)) (leN rfl) (by first | exact nil_z0 | exact ref_z0 | exact ScS.z0 trivial | exact ScS.z0 (leN rfl) | exact ScS.z0 (by assumption) | exact z0s (by assumption))
    clear hz
    have G_w1 := G_w1.mono gz
    have G_w2 := G_w2.mono gz
    have G_w3 := G_w3.mono gz
    have G_w4 := G_w4.mono gz
    refine ⟨w5, _, rfl, rfl, hSqT e_w5, List.cons_ne_nil _ _, leN rfl, ?_⟩
    intro w6 n_w6
    generalize hz : upd _ w6 _ = Hw6
    obtain ⟨f, gz, e_w6, G_w6⟩ := lay_t hz n_w6 f (n := 2) (by repeat (first | exact gl_nil | refine gl_cons (by first | assumption | exact Gn.scal _ trivial) ?_)) (leN rfl) (by first | exact nil_z0 | exact ref_z0 | exact ScS.z0 trivial | exact ScS.z0 (leN rfl) | exact ScS.z0 (by assumption) | exact z0s (by assumption))
    clear hz
    have G_w1 := G_w1.mono gz
    have G_w2 := G_w2.mono gz
    have G_w3 := G_w3.mono gz
    have G_w4 := G_w4.mono gz
    have G_w5 := G_w5.mono gz
    refine ⟨leN rfl, ?_⟩
    intro ws n_ws
    generalize hz : upd _ ws _ = Hw7
    obtain ⟨f, gz, e_ws, G_ws⟩ := lay_k hz n_ws f (n := 3) (by repeat (first | exact gl_nil | refine gl_cons (by first | assumption | exact Gn.scal _ trivial) ?_))
    clear hz
    have G_w1 := G_w1.mono gz
    have G_w2 := G_w2.mono gz
    have G_w3 := G_w3.mono gz
    have G_w4 := G_w4.mono gz
    have G_w5 := G_w5.mono gz
    have G_w6 := G_w6.mono gz
    skip
    refine ⟨_, rfl, a, 8, rfl, f.hp, posI rfl, ltI rfl, fun d Hw8 d0 d1 hp gz => ?_⟩
    have f := f.step gz hp
    clear hp
    have e_ws := gz _ _ e_ws
    have G_ws := G_ws.mono gz
    obtain ⟨v, hv, mv⟩ := pick e_ws d0 d1
    refine ⟨ws, _, _, v, rfl, rfl, hSqL e_ws, hv, v, rfl, (G_ws v mv).mono hide_sub, fun Hs ss => ⟨_, rfl, iteF ⟨_, _, _, _, _, _, _, _, _, rfl, ?_⟩⟩⟩
    exact sm.trans (fresh_grw na s1 (f.gg.trans (f.hp.grw ss)))
  · rintro σ H' ⟨o1, o2, o3, o4, o5, o6, o7, o8, o9, rfl, _⟩
    exact hq _
end
end K08

namespace K08
open PySem L2
theorem all_mk {l : PySem.W.OpenLaw} {w : World} {K : PySem.W.Frag} {h : Heap} {mg : Str → Option Value} {fa f0 f1 f2 f3 f4 f5 f6 f7 f8 f9 f10 f11 f12 f13 f14 f15 f16 f17 f18 f19 f20 f21 f22 f23 f24 : Addr} (X : K.In h) (G : h.Ns mainGlobals mg) (hfa : mg "law" = some (.ref fa))
    {od0 an0 od1 an1 od2 an2 od3 an3 od4 an4 od5 an5 od6 an6 od7 an7 od8 an8 od9 an9 od10 an10 od11 an11 od12 an12 od13 an13 od14 an14 od15 an15 od16 an16 od17 an17 od18 an18 od19 an19 od20 an20 od21 an21 od22 an22 od23 an23 od24 an24 : Option Addr} {sl0 sl1 sl2 sl3 sl4 sl5 sl6 sl7 sl8 sl9 sl10 sl11 sl12 sl13 sl14 sl15 sl16 sl17 sl18 sl19 sl20 sl21 sl22 sl23 sl24 : Array (Option Value)} {oc0 kV0 dc0 pm0 cd0 ct0 oc1 kV1 dc1 pm1 cd1 ct1 oc2 kV2 dc2 pm2 cd2 ct2 oc3 kV3 dc3 pm3 cd3 ct3 oc4 kV4 dc4 pm4 cd4 ct4 oc5 kV5 dc5 pm5 cd5 ct5 oc6 kV6 dc6 pm6 cd6 ct6 oc7 kV7 dc7 pm7 cd7 ct7 oc8 kV8 dc8 pm8 cd8 ct8 oc9 kV9 dc9 pm9 cd9 ct9 oc10 kV10 dc10 pm10 cd10 ct10 oc11 kV11 dc11 pm11 cd11 ct11 oc12 kV12 dc12 pm12 cd12 ct12 oc13 kV13 dc13 pm13 cd13 ct13 oc14 kV14 dc14 pm14 cd14 ct14 oc15 kV15 dc15 pm15 cd15 ct15 oc16 kV16 dc16 pm16 cd16 ct16 oc17 kV17 dc17 pm17 cd17 ct17 oc18 kV18 dc18 pm18 cd18 ct18 oc19 kV19 dc19 pm19 cd19 ct19 oc20 kV20 dc20 pm20 cd20 ct20 oc21 kV21 dc21 pm21 cd21 ct21 oc22 kV22 dc22 pm22 cd22 ct22 oc23 kV23 dc23 pm23 cd23 ct23 oc24 kV24 dc24 pm24 cd24 ct24 : Value}
    (a0 : PySem.W.nsIn K mainGlobals "is_whole" = some (some (.ref f0))) (l0 : K.lookup f0 = some ⟨oc0, od0, .func (PySem.W.fnOf "is_whole" "is_whole" (defArgs s_is_whole) (defBody s_is_whole) (defScope s_is_whole) .none kV0 dc0 pm0 an0 cd0 ct0), sl0⟩) (c0 : PySem.W.codeIn K cd0 "is_whole" = true) (k0 : PySem.W.keepIn K (.ref f0) = true)
    (a1 : PySem.W.nsIn K mainGlobals "is_whole_from" = some (some (.ref f1))) (l1 : K.lookup f1 = some ⟨oc1, od1, .func (PySem.W.fnOf "is_whole_from" "is_whole_from" (defArgs s_is_whole_from) (defBody s_is_whole_from) (defScope s_is_whole_from) .none kV1 dc1 pm1 an1 cd1 ct1), sl1⟩) (c1 : PySem.W.codeIn K cd1 "is_whole_from" = true) (k1 : PySem.W.keepIn K (.ref f1) = true)
    (a2 : PySem.W.nsIn K mainGlobals "is_whole_within" = some (some (.ref f2))) (l2 : K.lookup f2 = some ⟨oc2, od2, .func (PySem.W.fnOf "is_whole_within" "is_whole_within" (defArgs s_is_whole_within) (defBody s_is_whole_within) (defScope s_is_whole_within) .none kV2 dc2 pm2 an2 cd2 ct2), sl2⟩) (c2 : PySem.W.codeIn K cd2 "is_whole_within" = true) (k2 : PySem.W.keepIn K (.ref f2) = true)
    (a3 : PySem.W.nsIn K mainGlobals "is_mark" = some (some (.ref f3))) (l3 : K.lookup f3 = some ⟨oc3, od3, .func (PySem.W.fnOf "is_mark" "is_mark" (defArgs s_is_mark) (defBody s_is_mark) (defScope s_is_mark) .none kV3 dc3 pm3 an3 cd3 ct3), sl3⟩) (c3 : PySem.W.codeIn K cd3 "is_mark" = true) (k3 : PySem.W.keepIn K (.ref f3) = true)
    (a4 : PySem.W.nsIn K mainGlobals "is_rising" = some (some (.ref f4))) (l4 : K.lookup f4 = some ⟨oc4, od4, .func (PySem.W.fnOf "is_rising" "is_rising" (defArgs s_is_rising) (defBody s_is_rising) (defScope s_is_rising) .none kV4 dc4 pm4 an4 cd4 ct4), sl4⟩) (c4 : PySem.W.codeIn K cd4 "is_rising" = true) (k4 : PySem.W.keepIn K (.ref f4) = true)
    (a5 : PySem.W.nsIn K mainGlobals "is_room" = some (some (.ref f5))) (l5 : K.lookup f5 = some ⟨oc5, od5, .func (PySem.W.fnOf "is_room" "is_room" (defArgs s_is_room) (defBody s_is_room) (defScope s_is_room) .none kV5 dc5 pm5 an5 cd5 ct5), sl5⟩) (c5 : PySem.W.codeIn K cd5 "is_room" = true) (k5 : PySem.W.keepIn K (.ref f5) = true)
    (a6 : PySem.W.nsIn K mainGlobals "is_count" = some (some (.ref f6))) (l6 : K.lookup f6 = some ⟨oc6, od6, .func (PySem.W.fnOf "is_count" "is_count" (defArgs s_is_count) (defBody s_is_count) (defScope s_is_count) .none kV6 dc6 pm6 an6 cd6 ct6), sl6⟩) (c6 : PySem.W.codeIn K cd6 "is_count" = true) (k6 : PySem.W.keepIn K (.ref f6) = true)
    (a7 : PySem.W.nsIn K mainGlobals "are_counts" = some (some (.ref f7))) (l7 : K.lookup f7 = some ⟨oc7, od7, .func (PySem.W.fnOf "are_counts" "are_counts" (defArgs s_are_counts) (defBody s_are_counts) (defScope s_are_counts) .none kV7 dc7 pm7 an7 cd7 ct7), sl7⟩) (c7 : PySem.W.codeIn K cd7 "are_counts" = true) (k7 : PySem.W.keepIn K (.ref f7) = true)
    (a8 : PySem.W.nsIn K mainGlobals "uncounted_in" = some (some (.ref f8))) (l8 : K.lookup f8 = some ⟨oc8, od8, .func (PySem.W.fnOf "uncounted_in" "uncounted_in" (defArgs s_uncounted_in) (defBody s_uncounted_in) (defScope s_uncounted_in) .none kV8 dc8 pm8 an8 cd8 ct8), sl8⟩) (c8 : PySem.W.codeIn K cd8 "uncounted_in" = true) (k8 : PySem.W.keepIn K (.ref f8) = true)
    (a9 : PySem.W.nsIn K mainGlobals "is_made_as_tally" = some (some (.ref f9))) (l9 : K.lookup f9 = some ⟨oc9, od9, .func (PySem.W.fnOf "is_made_as_tally" "is_made_as_tally" (defArgs s_is_made_as_tally) (defBody s_is_made_as_tally) (defScope s_is_made_as_tally) .none kV9 dc9 pm9 an9 cd9 ct9), sl9⟩) (c9 : PySem.W.codeIn K cd9 "is_made_as_tally" = true) (k9 : PySem.W.keepIn K (.ref f9) = true)
    (a10 : PySem.W.nsIn K mainGlobals "is_tally" = some (some (.ref f10))) (l10 : K.lookup f10 = some ⟨oc10, od10, .func (PySem.W.fnOf "is_tally" "is_tally" (defArgs s_is_tally) (defBody s_is_tally) (defScope s_is_tally) .none kV10 dc10 pm10 an10 cd10 ct10), sl10⟩) (c10 : PySem.W.codeIn K cd10 "is_tally" = true) (k10 : PySem.W.keepIn K (.ref f10) = true)
    (a11 : PySem.W.nsIn K mainGlobals "_law_pen" = some (some (.ref f11))) (l11 : K.lookup f11 = some ⟨oc11, od11, .func (PySem.W.fnOf "_law_pen" "_law_pen" (defArgs s_l_pen) (defBody s_l_pen) (defScope s_l_pen) .none kV11 dc11 pm11 an11 cd11 ct11), sl11⟩) (c11 : PySem.W.codeIn K cd11 "_law_pen" = true) (k11 : PySem.W.keepIn K (.ref f11) = true)
    (a12 : PySem.W.nsIn K mainGlobals "_law_draw" = some (some (.ref f12))) (l12 : K.lookup f12 = some ⟨oc12, od12, .func (PySem.W.fnOf "_law_draw" "_law_draw" (defArgs s_l_draw) (defBody s_l_draw) (defScope s_l_draw) .none kV12 dc12 pm12 an12 cd12 ct12), sl12⟩) (c12 : PySem.W.codeIn K cd12 "_law_draw" = true) (k12 : PySem.W.keepIn K (.ref f12) = true)
    (a13 : PySem.W.nsIn K mainGlobals "_law_word" = some (some (.ref f13))) (l13 : K.lookup f13 = some ⟨oc13, od13, .func (PySem.W.fnOf "_law_word" "_law_word" (defArgs s_l_word) (defBody s_l_word) (defScope s_l_word) .none kV13 dc13 pm13 an13 cd13 ct13), sl13⟩) (c13 : PySem.W.codeIn K cd13 "_law_word" = true) (k13 : PySem.W.keepIn K (.ref f13) = true)
    (a14 : PySem.W.nsIn K mainGlobals "_law_many" = some (some (.ref f14))) (l14 : K.lookup f14 = some ⟨oc14, od14, .func (PySem.W.fnOf "_law_many" "_law_many" (defArgs s_l_many) (defBody s_l_many) (defScope s_l_many) .none kV14 dc14 pm14 an14 cd14 ct14), sl14⟩) (c14 : PySem.W.codeIn K cd14 "_law_many" = true) (k14 : PySem.W.keepIn K (.ref f14) = true)
    (a15 : PySem.W.nsIn K mainGlobals "_law_room" = some (some (.ref f15))) (l15 : K.lookup f15 = some ⟨oc15, od15, .func (PySem.W.fnOf "_law_room" "_law_room" (defArgs s_l_room) (defBody s_l_room) (defScope s_l_room) .none kV15 dc15 pm15 an15 cd15 ct15), sl15⟩) (c15 : PySem.W.codeIn K cd15 "_law_room" = true) (k15 : PySem.W.keepIn K (.ref f15) = true)
    (a16 : PySem.W.nsIn K mainGlobals "_law_whole" = some (some (.ref f16))) (l16 : K.lookup f16 = some ⟨oc16, od16, .func (PySem.W.fnOf "_law_whole" "_law_whole" (defArgs s_l_whole) (defBody s_l_whole) (defScope s_l_whole) .none kV16 dc16 pm16 an16 cd16 ct16), sl16⟩) (c16 : PySem.W.codeIn K cd16 "_law_whole" = true) (k16 : PySem.W.keepIn K (.ref f16) = true)
    (a17 : PySem.W.nsIn K mainGlobals "_law_tally" = some (some (.ref f17))) (l17 : K.lookup f17 = some ⟨oc17, od17, .func (PySem.W.fnOf "_law_tally" "_law_tally" (defArgs s_l_tally) (defBody s_l_tally) (defScope s_l_tally) .none kV17 dc17 pm17 an17 cd17 ct17), sl17⟩) (c17 : PySem.W.codeIn K cd17 "_law_tally" = true) (k17 : PySem.W.keepIn K (.ref f17) = true)
    (a18 : PySem.W.nsIn K mainGlobals "_law_is_mark" = some (some (.ref f18))) (l18 : K.lookup f18 = some ⟨oc18, od18, .func (PySem.W.fnOf "_law_is_mark" "_law_is_mark" (defArgs s_l_is_mark) (defBody s_l_is_mark) (defScope s_l_is_mark) .none kV18 dc18 pm18 an18 cd18 ct18), sl18⟩) (c18 : PySem.W.codeIn K cd18 "_law_is_mark" = true) (k18 : PySem.W.keepIn K (.ref f18) = true)
    (a19 : PySem.W.nsIn K mainGlobals "_law_due" = some (some (.ref f19))) (l19 : K.lookup f19 = some ⟨oc19, od19, .func (PySem.W.fnOf "_law_due" "_law_due" (defArgs s_l_due) (defBody s_l_due) (defScope s_l_due) .none kV19 dc19 pm19 an19 cd19 ct19), sl19⟩) (c19 : PySem.W.codeIn K cd19 "_law_due" = true) (k19 : PySem.W.keepIn K (.ref f19) = true)
    (a20 : PySem.W.nsIn K mainGlobals "_law_other_counts" = some (some (.ref f20))) (l20 : K.lookup f20 = some ⟨oc20, od20, .func (PySem.W.fnOf "_law_other_counts" "_law_other_counts" (defArgs s_l_other_counts) (defBody s_l_other_counts) (defScope s_l_other_counts) .none kV20 dc20 pm20 an20 cd20 ct20), sl20⟩) (c20 : PySem.W.codeIn K cd20 "_law_other_counts" = true) (k20 : PySem.W.keepIn K (.ref f20) = true)
    (a21 : PySem.W.nsIn K mainGlobals "_law_counted" = some (some (.ref f21))) (l21 : K.lookup f21 = some ⟨oc21, od21, .func (PySem.W.fnOf "_law_counted" "_law_counted" (defArgs s_l_counted) (defBody s_l_counted) (defScope s_l_counted) .none kV21 dc21 pm21 an21 cd21 ct21), sl21⟩) (c21 : PySem.W.codeIn K cd21 "_law_counted" = true) (k21 : PySem.W.keepIn K (.ref f21) = true)
    (a22 : PySem.W.nsIn K mainGlobals "_law_other" = some (some (.ref f22))) (l22 : K.lookup f22 = some ⟨oc22, od22, .func (PySem.W.fnOf "_law_other" "_law_other" (defArgs s_l_other) (defBody s_l_other) (defScope s_l_other) .none kV22 dc22 pm22 an22 cd22 ct22), sl22⟩) (c22 : PySem.W.codeIn K cd22 "_law_other" = true) (k22 : PySem.W.keepIn K (.ref f22) = true)
    (a23 : PySem.W.nsIn K mainGlobals "_law_right" = some (some (.ref f23))) (l23 : K.lookup f23 = some ⟨oc23, od23, .func (PySem.W.fnOf "_law_right" "_law_right" (defArgs s_l_right) (defBody s_l_right) (defScope s_l_right) .none kV23 dc23 pm23 an23 cd23 ct23), sl23⟩) (c23 : PySem.W.codeIn K cd23 "_law_right" = true) (k23 : PySem.W.keepIn K (.ref f23) = true)
    (a24 : PySem.W.nsIn K mainGlobals "law" = some (some (.ref f24))) (l24 : K.lookup f24 = some ⟨oc24, od24, .func (PySem.W.fnOf "law" "law" (defArgs s_law) (defBody s_law) (defScope s_law) .none kV24 dc24 pm24 an24 cd24 ct24), sl24⟩) (c24 : PySem.W.codeIn K cd24 "law" = true) (k24 : PySem.W.keepIn K (.ref f24) = true)
    (y_len : PySem.W.nsIn K mainGlobals "len" = some none)
    (y_isinstance : PySem.W.nsIn K mainGlobals "isinstance" = some none)
    (y_range : PySem.W.nsIn K mainGlobals "range" = some none)
    (y_list : PySem.W.nsIn K mainGlobals "list" = some none)
    (y_sorted : PySem.W.nsIn K mainGlobals "sorted" = some none)
    (y_tuple : PySem.W.nsIn K mainGlobals "tuple" = some none)
    (y_int : PySem.W.nsIn K mainGlobals "int" = some none)
    (y_bool : PySem.W.nsIn K mainGlobals "bool" = some none)
    (y_str : PySem.W.nsIn K mainGlobals "str" = some none)
    (y_all : PySem.W.nsIn K mainGlobals "all" = some none)
    (y_sum : PySem.W.nsIn K mainGlobals "sum" = some none)
    (y_zip : PySem.W.nsIn K mainGlobals "zip" = some none)
    {u_LETTERS : Value} (y_LETTERS : PySem.W.nsIn K mainGlobals "LETTERS" = some (some u_LETTERS)) (r_LETTERS : RelV (.str letters) u_LETTERS)
    {u_LONGEST_MARK : Value} (y_LONGEST_MARK : PySem.W.nsIn K mainGlobals "LONGEST_MARK" = some (some u_LONGEST_MARK)) (r_LONGEST_MARK : RelV (.int 8) u_LONGEST_MARK)
    {u_MOST_ROOM : Value} (y_MOST_ROOM : PySem.W.nsIn K mainGlobals "MOST_ROOM" = some (some u_MOST_ROOM)) (r_MOST_ROOM : RelV (.int 20) u_MOST_ROOM)
    : ∃ fd : FuncData, (∀ (s : Shared) (v : Value), BindsTo s fd ⟨[v], []⟩ [("_law_script", v)]) ∧ ∀ base : Heap, K.In base → base.Ns mainGlobals mg → FnOk l.prog w K mg base CX0 8 fa fd ["_law_script"] (spLaw K) := by
  have e := hfa.symm.trans (PySem.W.mg_of X G a24)
  cases e
  have F0 := fun_mk (st := s_is_whole) l0 c0 k0
  have b0 := F0.binds (ps := ["thing"]) fun _ _ _ _ _ _ us hl => match us, hl with | [_], _ => rfl
  have m0 := PySem.W.mg_of X G a0
  have F1 := fun_mk (st := s_is_whole_from) l1 c1 k1
  have b1 := F1.binds (ps := ["thing", "least"]) fun _ _ _ _ _ _ us hl => match us, hl with | [_, _], _ => rfl
  have m1 := PySem.W.mg_of X G a1
  have F2 := fun_mk (st := s_is_whole_within) l2 c2 k2
  have b2 := F2.binds (ps := ["thing", "least", "most"]) fun _ _ _ _ _ _ us hl => match us, hl with | [_, _, _], _ => rfl
  have m2 := PySem.W.mg_of X G a2
  have F3 := fun_mk (st := s_is_mark) l3 c3 k3
  have b3 := F3.binds (ps := ["thing"]) fun _ _ _ _ _ _ us hl => match us, hl with | [_], _ => rfl
  have m3 := PySem.W.mg_of X G a3
  have F4 := fun_mk (st := s_is_rising) l4 c4 k4
  have b4 := F4.binds (ps := ["parts"]) fun _ _ _ _ _ _ us hl => match us, hl with | [_], _ => rfl
  have m4 := PySem.W.mg_of X G a4
  have F5 := fun_mk (st := s_is_room) l5 c5 k5
  have b5 := F5.binds (ps := ["thing"]) fun _ _ _ _ _ _ us hl => match us, hl with | [_], _ => rfl
  have m5 := PySem.W.mg_of X G a5
  have F6 := fun_mk (st := s_is_count) l6 c6 k6
  have b6 := F6.binds (ps := ["thing", "is_key"]) fun _ _ _ _ _ _ us hl => match us, hl with | [_, _], _ => rfl
  have m6 := PySem.W.mg_of X G a6
  have F7 := fun_mk (st := s_are_counts) l7 c7 k7
  have b7 := F7.binds (ps := ["thing", "is_key"]) fun _ _ _ _ _ _ us hl => match us, hl with | [_, _], _ => rfl
  have m7 := PySem.W.mg_of X G a7
  have F8 := fun_mk (st := s_uncounted_in) l8 c8 k8
  have b8 := F8.binds (ps := ["tally"]) fun _ _ _ _ _ _ us hl => match us, hl with | [_], _ => rfl
  have m8 := PySem.W.mg_of X G a8
  have F9 := fun_mk (st := s_is_made_as_tally) l9 c9 k9
  have b9 := F9.binds (ps := ["thing"]) fun _ _ _ _ _ _ us hl => match us, hl with | [_], _ => rfl
  have m9 := PySem.W.mg_of X G a9
  have F10 := fun_mk (st := s_is_tally) l10 c10 k10
  have b10 := F10.binds (ps := ["thing"]) fun _ _ _ _ _ _ us hl => match us, hl with | [_], _ => rfl
  have m10 := PySem.W.mg_of X G a10
  have F11 := fun_mk (st := s_l_pen) l11 c11 k11
  have b11 := F11.binds (ps := ["_law_script", "_law_k"]) fun _ _ _ _ _ _ us hl => match us, hl with | [_, _], _ => rfl
  have m11 := PySem.W.mg_of X G a11
  have F12 := fun_mk (st := s_l_draw) l12 c12 k12
  have b12 := F12.binds (ps := ["_law_pen_here", "_law_size"]) fun _ _ _ _ _ _ us hl => match us, hl with | [_, _], _ => rfl
  have m12 := PySem.W.mg_of X G a12
  have F13 := fun_mk (st := s_l_word) l13 c13 k13
  have b13 := F13.binds (ps := ["_law_pen_here", "_law_k"]) fun _ _ _ _ _ _ us hl => match us, hl with | [_, _], _ => rfl
  have m13 := PySem.W.mg_of X G a13
  have F14 := fun_mk (st := s_l_many) l14 c14 k14
  have b14 := F14.binds (ps := ["_law_pen_here"]) fun _ _ _ _ _ _ us hl => match us, hl with | [_], _ => rfl
  have m14 := PySem.W.mg_of X G a14
  have F15 := fun_mk (st := s_l_room) l15 c15 k15
  have b15 := F15.binds (ps := ["_law_pen_here"]) fun _ _ _ _ _ _ us hl => match us, hl with | [_], _ => rfl
  have m15 := PySem.W.mg_of X G a15
  have F16 := fun_mk (st := s_l_whole) l16 c16 k16
  have b16 := F16.binds (ps := ["_law_thing"]) fun _ _ _ _ _ _ us hl => match us, hl with | [_], _ => rfl
  have m16 := PySem.W.mg_of X G a16
  have F17 := fun_mk (st := s_l_tally) l17 c17 k17
  have b17 := F17.binds (ps := ["_law_pen_here", "_law_room_here"]) fun _ _ _ _ _ _ us hl => match us, hl with | [_, _], _ => rfl
  have m17 := PySem.W.mg_of X G a17
  have F18 := fun_mk (st := s_l_is_mark) l18 c18 k18
  have b18 := F18.binds (ps := ["_law_thing"]) fun _ _ _ _ _ _ us hl => match us, hl with | [_], _ => rfl
  have m18 := PySem.W.mg_of X G a18
  have F19 := fun_mk (st := s_l_due) l19 c19 k19
  have b19 := F19.binds (ps := ["_law_thing"]) fun _ _ _ _ _ _ us hl => match us, hl with | [_], _ => rfl
  have m19 := PySem.W.mg_of X G a19
  have F20 := fun_mk (st := s_l_other_counts) l20 c20 k20
  have b20 := F20.binds (ps := ["_law_pen_here", "_law_room_here", "_law_counts"]) fun _ _ _ _ _ _ us hl => match us, hl with | [_, _, _], _ => rfl
  have m20 := PySem.W.mg_of X G a20
  have F21 := fun_mk (st := s_l_counted) l21 c21 k21
  have b21 := F21.binds (ps := ["_law_counts"]) fun _ _ _ _ _ _ us hl => match us, hl with | [_], _ => rfl
  have m21 := PySem.W.mg_of X G a21
  have F22 := fun_mk (st := s_l_other) l22 c22 k22
  have b22 := F22.binds (ps := ["_law_pen_here", "_law_tally_here"]) fun _ _ _ _ _ _ us hl => match us, hl with | [_, _], _ => rfl
  have m22 := PySem.W.mg_of X G a22
  have F23 := fun_mk (st := s_l_right) l23 c23 k23
  have b23 := F23.binds (ps := ["_law_thing"]) fun _ _ _ _ _ _ us hl => match us, hl with | [_], _ => rfl
  have m23 := PySem.W.mg_of X G a23
  have F24 := fun_mk (st := s_law) l24 c24 k24
  have z_len := PySem.W.mg_none_of X G y_len
  have z_isinstance := PySem.W.mg_none_of X G y_isinstance
  have z_range := PySem.W.mg_none_of X G y_range
  have z_list := PySem.W.mg_none_of X G y_list
  have z_sorted := PySem.W.mg_none_of X G y_sorted
  have z_tuple := PySem.W.mg_none_of X G y_tuple
  have z_int := PySem.W.mg_none_of X G y_int
  have z_bool := PySem.W.mg_none_of X G y_bool
  have z_str := PySem.W.mg_none_of X G y_str
  have z_all := PySem.W.mg_none_of X G y_all
  have z_sum := PySem.W.mg_none_of X G y_sum
  have z_zip := PySem.W.mg_none_of X G y_zip
  have G_LETTERS := PySem.W.mg_of X G y_LETTERS
  have G_LONGEST_MARK := PySem.W.mg_of X G y_LONGEST_MARK
  have G_MOST_ROOM := PySem.W.mg_of X G y_MOST_ROOM
  refine ⟨PySem.W.fnOf "law" "law" (defArgs s_law) (defBody s_law) (defScope s_law) .none kV24 dc24 pm24 an24 cd24 ct24, fun s v => .of_eq rfl, fun base kb nb => ?_⟩
  have h_draw := Has.of (ok_draw (P := l.prog) (w := w) (mg := mg) (base := base) F12) b12 F12.kp m12
  have h_pen := Has.of (ok_pen (P := l.prog) (w := w) (mg := mg) (base := base) F11 z_len) b11 F11.kp m11
  have h_word := Has.of (ok_word (P := l.prog) (w := w) (mg := mg) (base := base) F13) b13 F13.kp m13
  have h_many := Has.of (ok_many h_draw F14) b14 F14.kp m14
  have h_room := Has.of (ok_room h_draw F15) b15 F15.kp m15
  have h_tally := Has.of (ok_tally z_range z_sum z_tuple z_sorted h_draw h_word h_many F17) b17 F17.kp m17
  have h1 := Has.of (ok_is_whole (P := l.prog) (w := w) (mg := mg) (base := base) z_isinstance z_int z_bool F0) b0 F0.kp m0
  have h2 := Has.of (ok_is_whole_from h1 F1) b1 F1.kp m1
  have FM3 := ok_is_mark (P := l.prog) (w := w) (mg := mg) (base := base) z_isinstance z_str z_len z_all ⟨_, G_LETTERS, r_LETTERS⟩ ⟨_, G_LONGEST_MARK, r_LONGEST_MARK⟩ F3
  have h4 := Has.of (ok_wwk h2 F2) b2 F2.kp m2
  have h5 := Has.of (ok_risel (P := l.prog) (w := w) (mg := mg) (base := base) z_all z_zip F4) b4 F4.kp m4
  have cm : Cal base f3 := ⟨_, _, _, _, kb _ _ l3⟩
  have h6 := Has.of (ok_isck z_isinstance z_tuple z_len h2 FM3 b3 cm F6) b6 F6.kp m6
  have h7 := Has.of (ok_arek z_isinstance z_tuple z_all h6 h5 F7) b7 F7.kp m7
  have h7b := Has.of (ok_rmk h4 ⟨_, G_MOST_ROOM, r_MOST_ROOM⟩ F5) b5 F5.kp m5
  have h8 := Has.of (ok_madk z_isinstance z_tuple z_len h2 h7b h7 ⟨_, m3, rfl⟩ F9) b9 F9.kp m9
  have h9 := Has.of (ok_unck (P := l.prog) (w := w) (mg := mg) (base := base) z_sum F8) b8 F8.kp m8
  have h10 := Has.of (ok_talk h8 h9 F10) b10 F10.kp m10
  have h11 := Has.of (ok_lwhole (P := l.prog) (w := w) (mg := mg) (base := base) z_isinstance z_int z_bool F16) b16 F16.kp m16
  have h12 := Has.of (ok_lmark (P := l.prog) (w := w) (mg := mg) (base := base) z_isinstance z_str z_len F18) b18 F18.kp m18
  have h13 := Has.of (ok_ldue z_isinstance z_tuple z_len z_range h11 h12 F19) b19 F19.kp m19
  have h14 := Has.of (ok_right8 z_isinstance z_bool h10 h13 F23) b23 F23.kp m23
  have h15 := Has.of (ok_ctd z_isinstance z_tuple z_list z_len z_sum h11 F21) b21 F21.kp m21
  have h16 := Has.of (ok_oc z_len z_str z_list h_draw F20) b20 F20.kp m20
  have h17 := Has.of (ok_other8 z_len z_list h_draw h16 h15 F22) b22 F22.kp m22
  exact ok_law h_pen h_draw h_room h_tally h10 h14 h17 z_range z_sum F24
theorem walk {l : PySem.W.OpenLaw} {q : Program} {loose : List Str} {XP : (Str → Option Value) → Heap → Prop} {YP : World → Heap → Prop} {d : DefRec} {K : Params → PySem.W.Frag} (hn : l.most = some 63) (hdf : d.params.defaults = [])
    (hY : ∀ (w : World) (h : Heap), YP w h → (K w.params).In h)
    (F : ∀ (w : World) (mg : Str → Option Value) (fa : Addr) (h : Heap), (K w.params).In h → h.Ns mainGlobals mg → mg d.name = some (.ref fa) →
      ∃ fd : FuncData, (∀ (s : Shared) (u : Value), BindsTo s fd ⟨[u], []⟩ [("_law_script", u)]) ∧ ∀ base : Heap, (K w.params).In base → base.Ns mainGlobals mg → FnOk l.prog w (K w.params) mg base CX0 8 fa fd ["_law_script"] (spLaw (K w.params))) :
    PySem.W.WalkO q loose XP YP l.row.toRowW d [] (fun f vs => PySem.call f vs) :=
  L2.walk_of (n := 63) (k := 8) (x := "_law_script") (CX := fun _ => CX0) (sp := fun w => spLaw (K w.params)) hn (by decide) hdf ⟨rfl, by decide, by decide⟩ hY F (fun _ _ a ns hl _ hS => ⟨a, ns, rfl, hS, hl, fun _ => rfl⟩) fun _ _ _ _ _ z => z
end K08
open PySem PySem.W PyProof.Rows
set_option maxRecDepth 100000 in
set_option maxHeartbeats 0 in
theorem PySem.Challenge.cw_sumshare_k08_what_is_a_tally_holds : PySem.Challenge.rw_sumshare_k08_what_is_a_tally.Holds := by
  w_on; o_law; k_head; (case hw => w_witness2)
  k_fill
  refine K08.walk (l := PySem.Challenge.rw_sumshare_k08_what_is_a_tally) rfl rfl (fun w h Y => PySem.W.kIn_of Y) ?F
  case F =>
    intro w mg fa h KX G hmg
    refine' K08.all_mk KX G hmg ?a0 ?l0 ?c0 ?k0 ?a1 ?l1 ?c1 ?k1 ?a2 ?l2 ?c2 ?k2 ?a3 ?l3 ?c3 ?k3 ?a4 ?l4 ?c4 ?k4 ?a5 ?l5 ?c5 ?k5 ?a6 ?l6 ?c6 ?k6 ?a7 ?l7 ?c7 ?k7 ?a8 ?l8 ?c8 ?k8 ?a9 ?l9 ?c9 ?k9 ?a10 ?l10 ?c10 ?k10 ?a11 ?l11 ?c11 ?k11 ?a12 ?l12 ?c12 ?k12 ?a13 ?l13 ?c13 ?k13 ?a14 ?l14 ?c14 ?k14 ?a15 ?l15 ?c15 ?k15 ?a16 ?l16 ?c16 ?k16 ?a17 ?l17 ?c17 ?k17 ?a18 ?l18 ?c18 ?k18 ?a19 ?l19 ?c19 ?k19 ?a20 ?l20 ?c20 ?k20 ?a21 ?l21 ?c21 ?k21 ?a22 ?l22 ?c22 ?k22 ?a23 ?l23 ?c23 ?k23 ?a24 ?l24 ?c24 ?k24 ?y_len ?y_isinstance ?y_range ?y_list ?y_sorted ?y_tuple ?y_int ?y_bool ?y_str ?y_all ?y_sum ?y_zip ?y_LETTERS ?r_LETTERS ?y_LONGEST_MARK ?r_LONGEST_MARK ?y_MOST_ROOM ?r_MOST_ROOM
    (case a0 => k_is); (case l0 => k_is); (case c0 => k_is); (case k0 => k_is)
    (case a1 => k_is); (case l1 => k_is); (case c1 => k_is); (case k1 => k_is)
    (case a2 => k_is); (case l2 => k_is); (case c2 => k_is); (case k2 => k_is)
    (case a3 => k_is); (case l3 => k_is); (case c3 => k_is); (case k3 => k_is)
    (case a4 => k_is); (case l4 => k_is); (case c4 => k_is); (case k4 => k_is)
    (case a5 => k_is); (case l5 => k_is); (case c5 => k_is); (case k5 => k_is)
    (case a6 => k_is); (case l6 => k_is); (case c6 => k_is); (case k6 => k_is)
    (case a7 => k_is); (case l7 => k_is); (case c7 => k_is); (case k7 => k_is)
    (case a8 => k_is); (case l8 => k_is); (case c8 => k_is); (case k8 => k_is)
    (case a9 => k_is); (case l9 => k_is); (case c9 => k_is); (case k9 => k_is)
    (case a10 => k_is); (case l10 => k_is); (case c10 => k_is); (case k10 => k_is)
    (case a11 => k_is); (case l11 => k_is); (case c11 => k_is); (case k11 => k_is)
    (case a12 => k_is); (case l12 => k_is); (case c12 => k_is); (case k12 => k_is)
    (case a13 => k_is); (case l13 => k_is); (case c13 => k_is); (case k13 => k_is)
    (case a14 => k_is); (case l14 => k_is); (case c14 => k_is); (case k14 => k_is)
    (case a15 => k_is); (case l15 => k_is); (case c15 => k_is); (case k15 => k_is)
    (case a16 => k_is); (case l16 => k_is); (case c16 => k_is); (case k16 => k_is)
    (case a17 => k_is); (case l17 => k_is); (case c17 => k_is); (case k17 => k_is)
    (case a18 => k_is); (case l18 => k_is); (case c18 => k_is); (case k18 => k_is)
    (case a19 => k_is); (case l19 => k_is); (case c19 => k_is); (case k19 => k_is)
    (case a20 => k_is); (case l20 => k_is); (case c20 => k_is); (case k20 => k_is)
    (case a21 => k_is); (case l21 => k_is); (case c21 => k_is); (case k21 => k_is)
    (case a22 => k_is); (case l22 => k_is); (case c22 => k_is); (case k22 => k_is)
    (case a23 => k_is); (case l23 => k_is); (case c23 => k_is); (case k23 => k_is)
    (case a24 => k_is); (case l24 => k_is); (case c24 => k_is); (case k24 => k_is)
    (case y_len => k_is)
    (case y_isinstance => k_is)
    (case y_range => k_is)
    (case y_list => k_is)
    (case y_sorted => k_is)
    (case y_tuple => k_is)
    (case y_int => k_is)
    (case y_bool => k_is)
    (case y_str => k_is)
    (case y_all => k_is)
    (case y_sum => k_is)
    (case y_zip => k_is)
    (case y_LETTERS => k_is)
    (case r_LETTERS => exact ⟨_, rfl⟩)
    (case y_LONGEST_MARK => k_is)
    (case r_LONGEST_MARK => exact ⟨_, rfl⟩)
    (case y_MOST_ROOM => k_is)
    (case r_MOST_ROOM => exact ⟨_, rfl⟩)
