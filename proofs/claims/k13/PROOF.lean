import PyProof.Rows.All
import Wide.All
import OpenK.AllK
import Wide.FinOn
import Lean
import PyProof.EqAt
import PyProof.EqKinds
import PyProof.TupleCall
import PySem.Challenge.RW_sumshare_k13_whole_frequent_marks_of_tre
set_option Elab.async false
set_option linter.all false
set_option maxRecDepth 100000
/-! THE HAND LAYER, for ints, bools, texts, own classes, LISTS and tuples (index, slices, in, append, pop ..), calls, loops. Paste it whole ahead of your own text; what your proof does not reach may be deleted. -/
namespace L2
open PySem PySem.Spec PyProof.Rows

/-- a key: an int or a str -/
abbrev Key := Sum Int Str
def keyIs : Key → Value → Bool
  | .inl k, v => Value.isInt k v
  | .inr x, v => Value.isStrOf x v
def keyH (w : World) : Key → Int
  | .inl k => hashInt k
  | .inr x => hashStr w x
theorem keyIs_shape : ∀ {k : Key} {v : Value}, keyIs k v = true → (∃ i t, k = Sum.inl i ∧ v = Value.int i t) ∨ (∃ x t, k = Sum.inr x ∧ v = Value.str x t)
  | .inl i, v, h => by
    obtain ⟨t, e⟩ := Value.isInt_shape (k := i) (v := v) h
    exact .inl ⟨i, t, rfl, e⟩
  | .inr x, v, h => by
    obtain ⟨t, e⟩ := Value.isStrOf_shape (x := x) (v := v) h
    exact .inr ⟨x, t, rfl, e⟩
theorem keyIs_int (i : Int) (t : Tok) : keyIs (.inl i) (.int i t) = true := by simp [keyIs, Value.isInt]
theorem keyIs_str (x : Str) (t : Tok) : keyIs (.inr x) (.str x t) = true := by simp [keyIs, Value.isStrOf]
theorem key_ll (a b : Int) : decide ((Sum.inl a : Key) = Sum.inl b) = (a == b) := by
  by_cases e : a = b
  · subst e; simp
  · have h : ¬ (Sum.inl a : Key) = Sum.inl b := fun q => e (Sum.inl.inj q)
    rw [decide_eq_false h]
    exact (beq_eq_false_iff_ne.mpr e).symm
theorem key_rr (a b : Str) : decide ((Sum.inr a : Key) = Sum.inr b) = decide (a = b) := by
  by_cases e : a = b
  · subst e; simp
  · have h : ¬ (Sum.inr a : Key) = Sum.inr b := fun q => e (Sum.inr.inj q)
    rw [decide_eq_false h, decide_eq_false e]
theorem key_lr (a : Int) (b : Str) : decide ((Sum.inl a : Key) = Sum.inr b) = false := decide_eq_false (fun q => nomatch q)
theorem key_rl (a : Str) (b : Int) : decide ((Sum.inr a : Key) = Sum.inl b) = false := decide_eq_false (fun q => nomatch q)

def mixKind (prog : Program) (w : World) : PySem.KeyKind prog w Key where
  is := keyIs
  hash := keyH w
  inj := fun v a b ha hb => by
    rcases keyIs_shape ha with ⟨i, t, rfl, rfl⟩ | ⟨x, t, rfl, rfl⟩
    · rcases keyIs_shape hb with ⟨j, u, rfl, e⟩ | ⟨y, u, rfl, e⟩
      · injection e with e1 _; rw [e1]
      · exact nomatch e
    · rcases keyIs_shape hb with ⟨j, u, rfl, e⟩ | ⟨y, u, rfl, e⟩
      · exact nomatch e
      · injection e with e1 _; rw [e1]
  byValue := fun k v h => by
    rcases keyIs_shape h with ⟨i, t, rfl, rfl⟩ | ⟨x, t, rfl, rfl⟩ <;> rfl
  pyHash := fun hv h => by
    rcases keyIs_shape hv with ⟨i, t, rfl, rfl⟩ | ⟨x, t, rfl, rfl⟩
    · exact wpAny_pyHash_int h
    · exact wpAny_pyHash_str h
  eqBool := fun hu hv h => by
    rcases keyIs_shape hu with ⟨i, t, rfl, rfl⟩ | ⟨x, t, rfl, rfl⟩
    · rcases keyIs_shape hv with ⟨j, u, rfl, rfl⟩ | ⟨y, u, rfl, rfl⟩
      · rw [key_ll] at h; exact wpAny_eqBool_int h
      · rw [key_lr] at h; exact SeqAt.EqAt.int_str i t y u _ _ _ _ h
    · rcases keyIs_shape hv with ⟨j, u, rfl, rfl⟩ | ⟨y, u, rfl, rfl⟩
      · rw [key_rl] at h; exact SeqAt.EqAt.str_int x t j u _ _ _ _ h
      · rw [key_rr] at h; exact wpAny_eqBool_str h
  «strs» := fun k x t v h => by
    rcases keyIs_shape h with ⟨i, u, rfl, e⟩ | ⟨y, u, rfl, e⟩
    · exact nomatch e
    · injection e with e1 _
      subst e1
      cases v <;> rfl

theorem mixKind_int (prog : Program) (w : World) (i : Int) (t : Tok) : (mixKind prog w).is (.inl i) (.int i t) = true := keyIs_int i t
theorem mixKind_str (prog : Program) (w : World) (x : Str) (t : Tok) : (mixKind prog w).is (.inr x) (.str x t) = true := keyIs_str x t
end L2

namespace L2
open PySem PySem.Spec PyProof.Rows

/-- a value, without the heap -/
inductive V where
  | non | bl (b : Bool) | int (i : Int) | str (x : Str) | byt (b : Array UInt8) | flt (b : UInt64) | ref (a : Addr) | ty (n : String)
  deriving DecidableEq

def RelV : V → Value → Prop
  | .non, u => u = Value.none
  | .bl b, u => u = Value.bool b
  | .int i, u => ∃ t, u = Value.int i t
  | .str x, u => ∃ t, u = Value.str x t
  | .byt b, u => ∃ t, u = Value.bytes b t
  | .flt b, u => ∃ t, u = Value.float b t
  | .ref a, u => u = Value.ref a
  | .ty n, u => u = Value.type n

abbrev Vals : List V → List Value → Prop := Paired RelV
theorem Vals.length {xs : List V} {us : List Value} (r : Vals xs us) : xs.length = us.length := Paired.length r
theorem Vals.get : ∀ {xs : List V} {us : List Value} {i : Nat} {x : V}, Vals xs us → xs[i]? = some x → ∃ u, us[i]? = some u ∧ RelV x u
  | _, _, _, _, .nil, e => by simp at e
  | _, _, 0, _, .cons r _, e => by simp at e; subst e; exact ⟨_, rfl, r⟩
  | _, _, i + 1, x, .cons _ t, e => by
    obtain ⟨u, h1, h2⟩ := Vals.get (i := i) (x := x) t (by simpa using e)
    exact ⟨u, by simpa using h1, h2⟩
theorem Vals.set {x : V} {u : Value} (r : RelV x u) : ∀ {xs : List V} {us : List Value} (i : Nat), Vals xs us → Vals (xs.set i x) (us.set i u)
  | _, _, _, .nil => .nil
  | _, _, 0, .cons _ t => .cons r t
  | _, _, i + 1, .cons q t => .cons q (Vals.set r i t)
theorem Vals.append : ∀ {xs ys : List V} {us ws : List Value}, Vals xs us → Vals ys ws → Vals (xs ++ ys) (us ++ ws)
  | _, _, _, _, .nil, s => s
  | _, _, _, _, .cons r t, s => .cons r (Vals.append t s)
theorem Vals.take : ∀ {xs : List V} {us : List Value} (n : Nat), Vals xs us → Vals (xs.take n) (us.take n)
  | _, _, 0, _ => .nil
  | _, _, _ + 1, .nil => .nil
  | _, _, n + 1, .cons r t => .cons r (Vals.take n t)
theorem Vals.drop : ∀ {xs : List V} {us : List Value} (n : Nat), Vals xs us → Vals (xs.drop n) (us.drop n)
  | _, _, 0, r => r
  | _, _, _ + 1, .nil => .nil
  | _, _, n + 1, .cons _ t => Vals.drop n t

def RelO : Option V → Option Value → Prop
  | some v, some u => RelV v u
  | none, none => True
  | _, _ => False
def KV {κ : Type} : List (κ × V) → List (κ × Value) → Prop := Paired fun (p : κ × V) (q : κ × Value) => p.1 = q.1 ∧ RelV p.2 q.2

/-- a key of a dict (00_mix): an int or a text -/
def kV : Key → V
  | .inl i => .int i
  | .inr x => .str x

/-- what stands at a tracked address -/
inductive HO where
  /-- a list -/
  | lst (xs : List V)
  /-- a tuple (never changes) -/
  | tup (xs : List V)
  /-- a dict whose keys are ints and texts; one whose keys are tuples of ints and texts (the empty one is both) -/
  | dK (kvs : List (Key × V)) | dT (kvs : List (List Key × V))
  /-- a set of ints: its members, its size -/
  | set (S : Int → Bool) (n : Nat)
  /-- an instance of the class at C, its dict at dx, its attributes -/
  | ins (C dx : Addr) (fs : List (Str × V))
  /-- the dict of the instance at x -/
  | own (x : Addr)
  /-- the dict of an exception -/
  | xd (fs : List (Str × V))
  /-- a bound method, f of x -/
  | met (f x : Addr)
  /-- a range object lo, lo + 1, .. below hi -/
  | rng (lo hi : Int)
  /-- a thing that is known to the object (the script; a dict while a loop walks it): read, never written while it is so -/
  | frz (o : Obj) (u : HO)
  /-- a code object's table -/
  | tbl (ps : Array Value)
  /-- any other thing, by what is true of its one object (a def of one's own: SetO a S n := HO.ext fun h => ..) -/
  | ext (φ : Heap → Prop)

abbrev Hp := Addr → Option HO
def upd (H : Hp) (a : Addr) (o : HO) : Hp := fun b => if b = a then some o else H b
theorem upd_same {H : Hp} {a : Addr} {o : HO} : upd H a o a = some o := by unfold upd; rw [if_pos rfl]
theorem upd_ne {H : Hp} {a b : Addr} {o : HO} (h : b ≠ a) : upd H a o b = H b := by unfold upd; rw [if_neg h]
theorem upd_upd {H : Hp} {a : Addr} {o u : HO} : upd (upd H a o) a u = upd H a u := by
  funext b; unfold upd; split <;> rfl
/-- two objects of different content stand apart -/
theorem ne_of {H : Hp} {a b : Addr} {o u : HO} (h : H a = some o) (h' : H b = some u) (d : o ≠ u) : a ≠ b := by
  intro e; subst e; rw [h] at h'; exact d (Option.some.inj h')
theorem ne_of_none {H : Hp} {a b : Addr} {o : HO} (h : H a = some o) (h' : H b = none) : a ≠ b := by
  intro e; subst e; rw [h] at h'; cases h'

def TupN (h : Heap) (a : Addr) (items : Array Value) : Prop := ∃ o, h.get? a = some o ∧ (o.cls = .type "tuple" ∧ o.dict = none) ∧ ∃ n, o.data = .seq items n
theorem TupN.tup {h : Heap} {a : Addr} {items : Array Value} (x : TupN h a items) : IsTup h a items := let ⟨o, e, c, n, d⟩ := x; ⟨o, e, c.1, n, d⟩
theorem TupN.new (h : Heap) (items : Array Value) : TupN (h.push { cls := .type "tuple", data := .seq items }) h.objs.size items := ⟨_, Heap.get?_push_size _ rfl, ⟨rfl, rfl⟩, _, rfl⟩
section
variable (P : Program) (w : World)
def ObjOk (H : Hp) (h : Heap) (a : Addr) : HO → Prop
  | .lst xs => xs.length ≤ sizeLine ∧ ∃ (its : List Value) (n : Nat), Vals xs its ∧ h.get? a = some { cls := .type "list", data := .seq its.toArray n }
  | .tup xs => xs.length ≤ sizeLine ∧ ∃ its : List Value, Vals xs its ∧ TupN h a its.toArray
  | .dK kvs => kvs.length ≤ sizeLine ∧ (a == sysModules) = false ∧ ∃ vs, KV kvs vs ∧ h.DictOf (mixKind P w) a vs
  | .dT kvs => kvs.length ≤ sizeLine ∧ (a == sysModules) = false ∧ ∃ xs : List (List Key × Addr × Value),
      Paired (fun (p : List Key × V) (q : List Key × Addr × Value) => p.1 = q.1 ∧ H q.2.1 = some (.tup (p.1.map kV)) ∧ RelV p.2 q.2.2) kvs xs ∧
      ∃ o es ep, h.get? a = some o ∧ o.ExactDict ∧ o.data = .dict es ep ∧ es.toList = xs.map (entryOfKey (tupleKind (mixKind P w))) ∧ (xs.map (·.1)).Nodup
  | .set S n => h.SetOf (intKind P w) a S n
  | .ins C dx fs => H dx = some (.own a) ∧ fs.length ≤ 1000 ∧ dx ≠ a ∧ h.get? a = some (PySem.W.instObj C dx) ∧
      ∃ mA, h.Ns1 dx mA ∧ (∀ f, RelO (fs.lookup f) (mA f)) ∧ PySem.Within mA (fs.map (·.1))
  | .own _ => ∃ o, h.get? a = some o
  | .xd fs => ∃ mA, h.Ns1 a mA ∧ ∀ f, RelO (fs.lookup f) (mA f)
  | .rng lo hi => ∃ t u v, h.get? a = some { cls := .type "range", data := .fields #[.int lo t, .int hi u, .int 1 v] }
  | .frz o u => h.get? a = some o ∧ ObjOk H h a u
  | .tbl ps => h.get? a = some { cls := .none, data := .fields ps }
  | .met f x => h.get? a = some (PySem.W.methodObj (.ref f) (.ref x))
  | .ext φ => φ h ∧ (∃ o, h.get? a = some o) ∧ ∀ h1 h2 : Heap, φ h1 → (∀ o, h1.get? a = some o → h2.get? a = some o) → φ h2
/-- the abstract heap is held -/
def HOk (H : Hp) (h : Heap) : Prop := ∀ a o, H a = some o → ObjOk P w H h a o
end

section
variable {P : Program} {w : World} {H H' : Hp} {h h' : Heap} {a : Addr} {o : HO}
theorem ObjOk.lt (x : ObjOk P w H h a o) : a < h.objs.size := by
  cases o with
  | lst xs => obtain ⟨_, _, _, _, e⟩ := x; exact Heap.lt_size e
  | tup xs => obtain ⟨_, _, _, p⟩ := x; exact p.tup.lt
  | dK kvs => obtain ⟨_, _, _, _, o, _, _, e, _⟩ := x; exact Heap.lt_size e
  | dT kvs => obtain ⟨_, _, _, _, o, _, _, e, _⟩ := x; exact Heap.lt_size e
  | set S n => obtain ⟨o, _, _, _, e, _⟩ := x; exact Heap.lt_size e
  | ins C dx fs => obtain ⟨_, _, _, e, _⟩ := x; exact Heap.lt_size e
  | own y => obtain ⟨_, e⟩ := x; exact Heap.lt_size e
  | xd fs => obtain ⟨_, ⟨_, _, _, e, _⟩, _⟩ := x; exact Heap.lt_size e
  | rng lo hi => obtain ⟨_, _, _, e⟩ := x; exact Heap.lt_size e
  | frz ob u => obtain ⟨e, _⟩ := x; exact Heap.lt_size e
  | tbl ps => exact Heap.lt_size (show h.get? a = some _ from x)
  | met f y => exact Heap.lt_size (show h.get? a = some _ from x)
  | ext φ => obtain ⟨_, ⟨_, e⟩, _⟩ := x; exact Heap.lt_size e
theorem Paired.mapP {α β : Type} {F G : α → β → Prop} : ∀ {l₁ : List α} {l₂ : List β}, Paired F l₁ l₂ → (∀ a b, F a b → G a b) → Paired G l₁ l₂
  | _, _, .nil, _ => .nil
  | _, _, .cons r t, f => .cons (f _ _ r) (Paired.mapP t f)
/-- what an object's description leans on: its own object, its own dict, the tuples -/
theorem ObjOk.stay (x : ObjOk P w H h a o) (k : ∀ b u, (b = a ∨ H b = some (.own a)) → h.get? b = some u → h'.get? b = some u)
    (ho : ∀ b, H b = some (.own a) → H' b = some (.own a)) (ht : ∀ b xs, H b = some (.tup xs) → H' b = some (.tup xs)) : ObjOk P w H' h' a o := by
  induction o with
  | lst xs => obtain ⟨z, its, n, r, e⟩ := x; exact ⟨z, its, n, r, k _ _ (.inl rfl) e⟩
  | tup xs => obtain ⟨z, its, r, ob, e, c⟩ := x; exact ⟨z, its, r, ob, k _ _ (.inl rfl) e, c⟩
  | dK kvs => obtain ⟨z, y, vs, r, ob, es, ep, e, c⟩ := x; exact ⟨z, y, vs, r, ob, es, ep, k _ _ (.inl rfl) e, c⟩
  | dT kvs =>
    obtain ⟨z, y, xs, r, ob, es, ep, e, c⟩ := x
    exact ⟨z, y, xs, Paired.mapP r fun p q z => ⟨z.1, ht _ _ z.2.1, z.2.2⟩, ob, es, ep, k _ _ (.inl rfl) e, c⟩
  | set S n => obtain ⟨ob, es, ep, t, e, c⟩ := x; exact ⟨ob, es, ep, t, k _ _ (.inl rfl) e, c⟩
  | ins C dx fs =>
    obtain ⟨d, z, ne, e, mA, ⟨od, es, ep, e2, c⟩, r⟩ := x
    exact ⟨ho _ d, z, ne, k _ _ (.inl rfl) e, mA, ⟨od, es, ep, k _ _ (.inr d) e2, c⟩, r⟩
  | own y => obtain ⟨ob, e⟩ := x; exact ⟨ob, k _ _ (.inl rfl) e⟩
  | xd fs => obtain ⟨mA, ⟨od, es, ep, e, c⟩, r⟩ := x; exact ⟨mA, ⟨od, es, ep, k _ _ (.inl rfl) e, c⟩, r⟩
  | rng lo hi => obtain ⟨t, u, v, e⟩ := x; exact ⟨t, u, v, k _ _ (.inl rfl) e⟩
  | frz ob u ih => obtain ⟨e, q⟩ := x; exact ⟨k _ _ (.inl rfl) e, ih q⟩
  | tbl ps =>
    have e : h.get? a = some { cls := .none, data := .fields ps } := x
    show h'.get? a = some { cls := .none, data := .fields ps }
    exact k a _ (.inl rfl) e
  | met f y =>
    have e : h.get? a = some (PySem.W.methodObj (.ref f) (.ref y)) := x
    show h'.get? a = some (PySem.W.methodObj (.ref f) (.ref y))
    exact k a _ (.inl rfl) e
  | ext φ => obtain ⟨p, ⟨o, e⟩, st⟩ := x; exact ⟨st _ _ p fun o q => k _ _ (.inl rfl) q, ⟨o, k _ _ (.inl rfl) e⟩, st⟩
theorem HOk.lt (x : HOk P w H h) (e : H a = some o) : a < h.objs.size := (x a o e).lt
theorem HOk.fresh (x : HOk P w H h) (e : h.objs.size ≤ a) : H a = none := by
  cases q : H a with
  | none => rfl
  | some u => exact absurd (Nat.lt_of_lt_of_le (x.lt q) e) (Nat.lt_irrefl _)
/-- every object of the heap is kept -/
theorem HOk.kept (x : HOk P w H h) (k : ∀ b u, h.get? b = some u → h'.get? b = some u) : HOk P w H h' := fun a o e =>
  (x a o e).stay (fun b u _ q => k b u q) (fun _ q => q) fun _ _ q => q
/-- a new object is laid and tracked -/
theorem HOk.laid (x : HOk P w H h) (k : ∀ b u, h.get? b = some u → h'.get? b = some u) (hp : h.objs.size ≤ a) (new : ObjOk P w (upd H a o) h' a o) : HOk P w (upd H a o) h' := fun b u e => by
  have hn := x.fresh hp
  by_cases hb : b = a
  · subst hb; rw [upd_same] at e; cases e; exact new
  · rw [upd_ne hb] at e
    exact (x b u e).stay (fun c v _ q => k c v q) (fun c q => by rw [upd_ne (ne_of_none q hn)]; exact q) fun c xs q => by rw [upd_ne (ne_of_none q hn)]; exact q
end

/-- what may be read as u: it is u, or a known u -/
def Rd (H : Hp) (a : Addr) (u : HO) : Prop := H a = some u ∨ ∃ o, H a = some (.frz o u)
theorem Rd.of {H : Hp} {a : Addr} {u : HO} (h : H a = some u) : Rd H a u := .inl h
theorem Rd.ok {P : Program} {w : World} {H : Hp} {h : Heap} {a : Addr} {u : HO} (r : Rd H a u) (x : HOk P w H h) : ObjOk P w H h a u := by
  rcases r with r | ⟨o, r⟩
  · exact x a u r
  · obtain ⟨_, q⟩ := x a _ r
    exact q
/-- what may be written -/
def Mut : Option HO → Prop
  | some (.lst _) => True
  | some (.dK _) => True
  | some (.dT _) => True
  | some (.set _ _) => True
  | some (.ins _ _ _) => True
  | some (.ext _) => True
  | _ => False
section
variable {P : Program} {w : World} {H : Hp} {h h' : Heap} {x e : Addr} {o' : HO}
/-- the object at e is changed: x itself, or the dict of the instance x -/
theorem HOk.write (ok : HOk P w H h) (mu : Mut (H x)) (he : e = x ∨ H e = some (.own x)) (k : ∀ b u, b ≠ e → h.get? b = some u → h'.get? b = some u) (heo : ∃ u, h'.get? e = some u)
    (new : ObjOk P w (upd H x o') h' x o') : HOk P w (upd H x o') h' := fun b u q => by
  have nown : ∀ c y, H c = some (.own y) → c ≠ x := fun c y r z => by subst z; rw [r] at mu; exact mu
  have ntup : ∀ c xs, H c = some (.tup xs) → c ≠ x := fun c xs r z => by subst z; rw [r] at mu; exact mu
  by_cases hb : b = x
  · subst hb; rw [upd_same] at q; cases q; exact new
  · rw [upd_ne hb] at q
    by_cases hbe : b = e
    · have q' : H b = some (.own x) := by
        rcases he with z | z
        · exact absurd (hbe.trans z) hb
        · rw [hbe]; exact z
      rw [q] at q'; cases q'
      obtain ⟨v, hv⟩ := heo
      exact ⟨v, by rw [hbe]; exact hv⟩
    · refine (ok b u q).stay (fun c v hc r => k c v ?_ r) (fun c r => by rw [upd_ne (nown c b r)]; exact r) fun c xs r => by rw [upd_ne (ntup c xs r)]; exact r
      rcases hc with rfl | hc
      · exact hbe
      · rintro rfl
        rcases he with z | z
        · exact nown c b hc z
        · rw [hc] at z; cases z; exact hb rfl
end

/-! ### kept unless tracked; of the frames at fs (the callers') the slots may change (an exception that passes writes there); of the records at ex (iterators) nothing is said -/
structure Un (fs ex : List Addr) (H H' : Hp) (h h' : Heap) : Prop where
  keep : ∀ b o, h.get? b = some o → H b = none → b ∉ fs → b ∉ ex → h'.get? b = some o
  slot : ∀ b o, h.get? b = some o → H b = none → b ∈ fs → b ∉ ex → ∃ sl, h'.get? b = some { o with slots := sl }
  free : ∀ b o, h.get? b = some o → H b = none → b ∉ ex → H' b = none
  there : ∀ b o, h.get? b = some o → b ∉ ex → ∃ o', h'.get? b = some o'
  tups : ∀ b xs, H b = some (.tup xs) → H' b = some (.tup xs)
  frzs : ∀ b o u, H b = some (.frz o u) → H' b = some (.frz o u)
  tbls : ∀ b ps, H b = some (.tbl ps) → ∃ more, H' b = some (.tbl (ps ++ more))
section
variable {fs fs' ex ex' : List Addr} {H H1 H2 : Hp} {h h1 h2 h' : Heap} {a x e : Addr} {o : HO}
theorem Un.any (u : Un fs ex H H1 h h1) {b : Addr} {ob : Obj} (q : h.get? b = some ob) (n : H b = none) (hx : b ∉ ex) : ∃ sl, h1.get? b = some { ob with slots := sl } := by
  by_cases hb : b ∈ fs
  · exact u.slot b ob q n hb hx
  · exact ⟨ob.slots, u.keep b ob q n hb hx⟩
theorem Un.trans (a : Un fs ex H H1 h h1) (b : Un fs ex H1 H2 h1 h2) : Un fs ex H H2 h h2 where
  keep := fun c ob q n hc hx => b.keep c ob (a.keep c ob q n hc hx) (a.free c ob q n hx) hc hx
  slot := fun c ob q n hc hx => by
    obtain ⟨sl, e1⟩ := a.slot c ob q n hc hx
    obtain ⟨sl', e2⟩ := b.slot c _ e1 (a.free c ob q n hx) hc hx
    exact ⟨sl', e2⟩
  free := fun c ob q n hx => by
    obtain ⟨o', e1⟩ := a.there c ob q hx
    exact b.free c o' e1 (a.free c ob q n hx) hx
  there := fun c ob q hx => by
    obtain ⟨o', e1⟩ := a.there c ob q hx
    exact b.there c o' e1 hx
  tups := fun c xs q => b.tups c xs (a.tups c xs q)
  frzs := fun c ob xs q => b.frzs c ob xs (a.frzs c ob xs q)
  tbls := fun c ps q => by
    obtain ⟨m1, e1⟩ := a.tbls c ps q
    obtain ⟨m2, e2⟩ := b.tbls c _ e1
    exact ⟨m1 ++ m2, by rw [e2, Array.append_assoc]⟩
theorem Un.kept (k : ∀ b u, h.get? b = some u → h'.get? b = some u) : Un fs ex H H h h' :=
  ⟨fun b ob q _ _ _ => k b ob q, fun b ob q _ _ _ => ⟨ob.slots, k b ob q⟩, fun _ _ _ n _ => n, fun b ob q _ => ⟨ob, k b ob q⟩, fun _ _ q => q, fun _ _ _ q => q, fun _ ps q => ⟨#[], by rw [q]; simp⟩⟩
theorem Un.refl : Un fs ex H H h h := Un.kept fun _ _ q => q
theorem Un.laid (k : ∀ b u, h.get? b = some u → h'.get? b = some u) (hp : h.objs.size ≤ a) (hn : H a = none) : Un fs ex H (upd H a o) h h' where
  keep := fun b u q _ _ _ => k b u q
  slot := fun b u q _ _ _ => ⟨u.slots, k b u q⟩
  free := fun b u q n _ => by rw [upd_ne (Nat.ne_of_lt (Nat.lt_of_lt_of_le (Heap.lt_size q) hp))]; exact n
  there := fun b u q _ => ⟨u, k b u q⟩
  tups := fun b xs q => by rw [upd_ne (ne_of_none q hn)]; exact q
  frzs := fun b u xs q => by rw [upd_ne (ne_of_none q hn)]; exact q
  tbls := fun b ps q => ⟨#[], by rw [upd_ne (ne_of_none q hn), q]; simp⟩
theorem Un.write (mu : Mut (H x)) (he : e = x ∨ H e = some (.own x)) (k : ∀ b u, b ≠ e → h.get? b = some u → h'.get? b = some u) (heo : ∃ u, h'.get? e = some u) : Un fs ex H (upd H x o) h h' := by
  have hx : ∀ b, H b = none → b ≠ x := fun b n z => by subst z; rw [n] at mu; exact mu
  have hb : ∀ b, H b = none → b ≠ e := fun b n z => by
    subst z
    rcases he with r | r
    · exact hx b n r
    · rw [n] at r; cases r
  have hm : ∀ b u, H b = some u → ¬ Mut (some u) → b ≠ x := fun b u q nm z => by subst z; rw [q] at mu; exact nm mu
  refine ⟨fun b u q n _ _ => k b u (hb b n) q, fun b u q n _ _ => ⟨u.slots, k b u (hb b n) q⟩, fun b u q n _ => by rw [upd_ne (hx b n)]; exact n, fun b u q _ => ?_,
    fun b xs q => by rw [upd_ne (hm b _ q fun z => z)]; exact q, fun b u xs q => by rw [upd_ne (hm b _ q fun z => z)]; exact q, fun b ps q => ⟨#[], by rw [upd_ne (hm b _ q fun z => z), q]; simp⟩⟩
  by_cases hbe : b = e
  · subst hbe; exact heo
  · exact ⟨u, k b u hbe q⟩
theorem Un.mono (u : Un fs ex H H1 h h1) (hs : ∀ b ∈ fs, b ∈ fs') (hx : ∀ b ∈ ex, b ∈ ex') : Un fs' ex' H H1 h h1 :=
  ⟨fun b ob q n hb he => u.keep b ob q n (fun z => hb (hs b z)) fun z => he (hx b z), fun _ _ q n _ he => u.any q n fun z => he (hx _ z), fun b ob q n he => u.free b ob q n fun z => he (hx b z), fun b ob q he => u.there b ob q fun z => he (hx b z), u.tups, u.frzs, u.tbls⟩
end

/-! ### the heap without what is tracked -/
def trk (h : Heap) (H : Hp) : List Addr := (List.range h.objs.size).filter fun a => (H a).isSome
def hidT (h : Heap) (H : Hp) : Heap := PySem.W.hideAll h (trk h H)
theorem hidT_size (h : Heap) (H : Hp) : (hidT h H).objs.size = h.objs.size := PySem.W.hideAll_size _ _
theorem hidT_get {h : Heap} {H : Hp} {b : Addr} {o : Obj} (e : h.get? b = some o) (n : H b = none) : (hidT h H).get? b = some o :=
  PySem.W.hideAll_get _ e fun hm => by
    have q : (H b).isSome = true := (List.mem_filter.mp hm).2
    rw [n] at q; simp at q
theorem of_hidT {h : Heap} {H : Hp} {b : Addr} {o : Obj} (e : (hidT h H).get? b = some o) : h.get? b = some o ∧ H b = none := by
  have e' : h.get? b = some o := PySem.W.of_hideAll (trk h H) e
  refine ⟨e', ?_⟩
  cases q : H b with
  | none => rfl
  | some x =>
    have hm : b ∈ trk h H := List.mem_filter.mpr ⟨List.mem_range.mpr (Heap.lt_size e'), by simp [q]⟩
    have z : (hidT h H).get? b = none := PySem.W.hideAll_none (trk h H) hm
    rw [z] at e; cases e

/-! ### OpenK's ledger, filled with every new object but one -/
def allNews (g h : Heap) (L : Addr) : List (Addr × Obj) := (List.range h.objs.size).filterMap fun a => if a = L ∨ (g.get? a).isSome = true then none else (h.get? a).map fun o => (a, o)
def rest (g h : Heap) (L d : Addr) : List (Addr × Obj) := (allNews g h L).filter fun p => decide (p.1 ≠ d)
end L2

namespace L2
open PySem PySem.Spec PyProof.Rows

/-- the module's facts, over the base: the heap at the law's entry without what is tracked there -/
structure Mod (K : PySem.W.Frag) (mg : Str → Option Value) (base : Heap) : Prop where
  kin : K.In base
  glob : base.Ns mainGlobals mg
  blt : ∃ mb, base.Ns builtinsNs mb ∧ ∀ x : Str, x ≠ "__name__" → mb x = bootBuiltins x
  nolimit : base.NoLimit

/-- the context: a def's body (or a comprehension's block) running. base: fixed through the whole law; s₀, H₀: the entry; outer: the frames whose slots others may change (a def's callers); stack: all frames that run;
   ex: iterators that were made ahead of the entry and are walked here (a comprehension's); fn: the names whose cells were made at the entry (a def: all; a comprehension's block: its own); calm: not within an except suite; pn: pins that every state bears; xe: what is wanted of an exception that leaves the code -/
structure Cx where
  prog : Program
  w : World
  K : PySem.W.Frag
  mg : Str → Option Value
  base : Heap
  A : Around
  N : List Str
  s₀ : Shared
  H₀ : Hp
  env : Env
  outer : List Env
  stack : List Env
  ex : List Addr
  fn : Str → Bool
  calm : Bool
  pn : List (Addr × Obj)
  xe : Value → Shared → Prop
/-- the callers' frames -/
def frs (l : List Env) : List Addr := l.filterMap (·.frame)
abbrev Cx.fs (X : Cx) : List Addr := frs X.outer

def Vis (sc : Scope) (x : Str) : Prop := sc.names.lookup x = some .local ∨ sc.names.lookup x = some .cell ∨ sc.names.lookup x = some .free
def Loc (sc : Scope) (x : Str) : Prop := sc.names.lookup x = some .local ∨ sc.names.lookup x = some .cell
def Look (env : Env) (h : Heap) (m : Str → Option Value) (x : Str) (u : Value) : Prop :=
  (env.kindOf x = some .local ∧ m x = some u) ∨ ((env.kindOf x = some .cell ∨ env.kindOf x = some .free) ∧ ∃ c, env.cells.lookup x = some c ∧ h.IsCell c (some u))

structure Cx.Ok (X : Cx) : Prop where
  mod : Mod X.K X.mg X.base
  kind : X.env.scope.kind = .function
  glob : X.env.globals = mainGlobals
  blt : X.env.builtins = builtinsNs
  above : X.s₀.heap.objs.size ≤ X.env.locals
  inj : ∀ x y c, X.env.cells.lookup x = some c → X.env.cells.lookup y = some c → x = y
  has : ∀ x, (X.env.kindOf x = some .cell ∨ X.env.kindOf x = some .free) → ∃ c, X.env.cells.lookup x = some c
  cab : ∀ x c, X.fn x = true → X.env.cells.lookup x = some c → X.s₀.heap.objs.size ≤ c
  hd : X.calm = true → X.A.handled = none
  frames : X.A.frames = some X.stack
  stk : X.stack = X.outer ∨ (X.stack = X.env :: X.outer ∧ X.env.frame = some X.env.locals)
  exf : ∀ b ∈ X.ex, b ≠ X.env.locals ∧ ∀ x c, X.env.cells.lookup x = some c → c ≠ b
  bs : ∀ b o, X.base.get? b = some o → X.s₀.heap.get? b = some o ∧ X.H₀ b = none
  bsz : X.base.objs.size ≤ X.s₀.heap.objs.size
  noex : ∀ b o, X.base.get? b = some o → b ∉ X.ex
  exfs : ∀ b ∈ X.ex, b ∉ X.fs
  funs : X.s₀.heap.FunFrames X.base X.outer
  frf : ∀ b ∈ X.fs, X.H₀ b = none

structure Inv (X : Cx) (pins : List (Addr × Obj)) (σ : List (Option V)) (H : Hp) (s : Shared) : Prop where
  ok : X.Ok
  os : s.os = X.s₀.os
  bare : AllBare s.gens
  base : Un X.fs X.ex X.H₀ H X.s₀.heap s.heap
  loc : ∃ m, s.heap.Ns X.env.locals m ∧ ∀ (i : Nat) (x : Str) (v : V), X.N[i]? = some x → σ[i]? = some (some v) → Vis X.env.scope x → ∃ u, RelV v u ∧ Look X.env s.heap m x u
  cell : ∀ x c, X.env.cells.lookup x = some c → ∃ v, s.heap.IsCell c v
  free : H X.env.locals = none
  freeC : ∀ x c, X.env.cells.lookup x = some c → H c = none
  pin : ∀ p ∈ X.pn ++ pins, s.heap.get? p.1 = some p.2 ∧ H p.1 = none ∧ p.1 ≠ X.env.locals ∧ p.1 ∉ X.fs ∧ ∀ v, p.2.data ≠ .cell v
  hok : HOk X.prog X.w H s.heap
  len : σ.length = X.N.length

section
variable {X : Cx} {pins : List (Addr × Obj)} {σ : List (Option V)} {H H' : Hp} {s : Shared} {h' : Heap}

theorem Cx.Ok.nofr (ok : X.Ok) {b : Addr} {o : Obj} (e : X.base.get? b = some o) : b ∉ X.fs := fun hb => by
  have := (ok.funs.mem hb).1
  rw [e] at this; cases this
theorem Inv.bs (I : Inv X pins σ H s) : ∀ b o, X.base.get? b = some o → s.heap.get? b = some o ∧ H b = none := fun b o e =>
  ⟨I.base.keep b o (I.ok.bs b o e).1 (I.ok.bs b o e).2 (I.ok.nofr e) (I.ok.noex b o e), I.base.free b o (I.ok.bs b o e).1 (I.ok.bs b o e).2 (I.ok.noex b o e)⟩
theorem Inv.bk (I : Inv X pins σ H s) : ∀ b o, X.base.get? b = some o → s.heap.get? b = some o := fun b o e => (I.bs b o e).1
theorem Inv.mod (I : Inv X pins σ H s) : Mod X.K X.mg X.base := I.ok.mod
theorem Inv.kIn (I : Inv X pins σ H s) : X.K.In s.heap := I.ok.mod.kin.keeps I.bk
theorem Inv.nolimit (I : Inv X pins σ H s) : s.heap.NoLimit := I.ok.mod.nolimit.keeps I.bk
/-- the frame over the base: for OpenK's rules (K.In X.base is I.mod.kin) -/
theorem Inv.fr (I : Inv X pins σ H s) : ∃ m, Fr X.base X.env.locals s.heap m :=
  let ⟨m, hn, _⟩ := I.loc
  ⟨m, hn, I.bk, Nat.le_trans I.ok.bsz I.ok.above⟩
theorem Inv.lt (I : Inv X pins σ H s) : X.env.locals < s.heap.objs.size := let ⟨_, hn, _⟩ := I.loc; hn.lt
theorem Inv.sz (I : Inv X pins σ H s) : X.s₀.heap.objs.size ≤ s.heap.objs.size := Nat.le_trans I.ok.above (Nat.le_of_lt I.lt)
theorem Inv.nofs (I : Inv X pins σ H s) {a : Addr} (h : s.heap.objs.size ≤ a) : a ∉ X.fs := fun hb => by
  obtain ⟨_, o, ho, _⟩ := I.ok.funs.mem hb
  exact absurd (Nat.lt_of_lt_of_le (Heap.lt_size ho) (Nat.le_trans I.sz h)) (Nat.lt_irrefl _)
theorem Inv.cne (I : Inv X pins σ H s) : ∀ x c, X.env.cells.lookup x = some c → c ≠ X.env.locals := fun x c e z => by
  obtain ⟨v, o, ho, hd⟩ := I.cell x c e
  obtain ⟨m, ⟨o', es, ep, ho', hd', _⟩, _⟩ := I.loc
  rw [z, ho'] at ho; cases ho; rw [hd'] at hd; cases hd
theorem Inv.funs (I : Inv X pins σ H s) : s.heap.FunFrames X.base X.outer := by
  have all : ∀ (l : List Env), (∀ b ∈ frs l, b ∈ X.fs) → X.s₀.heap.FunFrames X.base l → s.heap.FunFrames X.base l := by
    intro l
    induction l with
    | nil => intro _ _; trivial
    | cons env r ih =>
      intro hs hl
      obtain ⟨hk, ⟨L, o, hf, hn, ho, hd⟩, hr⟩ := hl
      have hL : L ∈ X.fs := hs L (by unfold frs; rw [List.filterMap_cons, hf]; exact List.mem_cons_self)
      obtain ⟨sl, e⟩ := I.base.slot L o ho (I.ok.frf L hL) hL fun z => I.ok.exfs L z hL
      exact ⟨hk, ⟨L, _, hf, hn, e, hd⟩, ih (fun b hb => hs b (by unfold frs; rw [List.filterMap_cons, hf]; exact List.mem_cons_of_mem _ hb)) hr⟩
  exact all X.outer (fun _ hb => hb) I.ok.funs

/-- the frames that run, for a call -/
theorem Inv.stack (I : Inv X pins σ H s) : s.heap.FunFrames X.base X.stack := by
  rcases I.ok.stk with e | ⟨e, hf⟩
  · rw [e]; exact I.funs
  · rw [e]
    obtain ⟨m, hn, _⟩ := I.loc
    refine .cons (by rw [I.ok.kind]; decide) hf hn ?_ I.funs
    exact Heap.get?_none_of_le (Nat.le_trans I.ok.bsz I.ok.above)
theorem Inv.stkSub (I : Inv X pins σ H s) : ∀ b ∈ frs X.stack, b ∈ X.env.locals :: X.fs := fun b hb => by
  rcases I.ok.stk with e | ⟨e, hf⟩
  · rw [e] at hb; exact List.mem_cons_of_mem _ hb
  · rw [e] at hb
    unfold frs at hb
    rw [List.filterMap_cons, hf] at hb
    exact hb
theorem Inv.stkFree (I : Inv X pins σ H s) : ∀ b ∈ frs X.stack, H b = none := fun b hb => by
  rcases List.mem_cons.mp (I.stkSub b hb) with e | hb
  · rw [e]; exact I.free
  · obtain ⟨_, o, ho, _⟩ := I.ok.funs.mem hb
    exact I.base.free b o ho (I.ok.frf b hb) fun z => I.ok.exfs b z hb

/-- THE STEP: the untracked objects but the frame and the records at ch are kept (the callers' frames up to slots), the frame's map is kept, the new abstract heap is held -/
theorem Inv.step {g' : Array GenState} {t' : Nat} {d' : Drawn} {ch : List Addr} (I : Inv X pins σ H s)
    (hch : ∀ b ∈ ch, (b ∈ X.ex ∨ X.s₀.heap.objs.size ≤ b) ∧ b ≠ X.env.locals ∧ (∀ x c, X.env.cells.lookup x = some c → c ≠ b) ∧ ∀ p ∈ X.pn ++ pins, p.1 ≠ b)
    (keep : ∀ b o, b ≠ X.env.locals → b ∉ X.fs → b ∉ ch → s.heap.get? b = some o → H b = none → h'.get? b = some o)
    (slot : ∀ b o, b ≠ X.env.locals → b ∈ X.fs → b ∉ ch → s.heap.get? b = some o → H b = none → ∃ sl, h'.get? b = some { o with slots := sl }) (free : ∀ b o, b ∉ ch → s.heap.get? b = some o → H b = none → H' b = none)
    (there : ∀ b o, b ∉ ch → s.heap.get? b = some o → ∃ o', h'.get? b = some o')
    (tups : ∀ b xs, H b = some (.tup xs) → H' b = some (.tup xs)) (frzs : ∀ b o u, H b = some (.frz o u) → H' b = some (.frz o u)) (tbls : ∀ b ps, H b = some (.tbl ps) → ∃ more, H' b = some (.tbl (ps ++ more)))
    (ns : ∀ m, s.heap.Ns X.env.locals m → h'.Ns X.env.locals m) (hok : HOk X.prog X.w H' h') (hg : AllBare g') :
    Inv X pins σ H' { s with heap := h', gens := g', drawn := d', toks := t' } := by
  have neL : ∀ b o, X.s₀.heap.get? b = some o → b ≠ X.env.locals := fun b o e => Nat.ne_of_lt (Nat.lt_of_lt_of_le (Heap.lt_size e) I.ok.above)
  have neC : ∀ b o, X.s₀.heap.get? b = some o → b ∉ X.ex → b ∉ ch := fun b o e hx hb => by
    rcases (hch b hb).1 with z | z
    · exact hx z
    · exact absurd (Nat.lt_of_lt_of_le (Heap.lt_size e) z) (Nat.lt_irrefl _)
  have cellK : ∀ x c, X.env.cells.lookup x = some c → ∀ v, s.heap.IsCell c v → h'.IsCell c v := fun x c e v ⟨o, ho, hd⟩ => by
    have nch : c ∉ ch := fun z => (hch c z).2.2.1 x c e rfl
    by_cases hc : c ∈ X.fs
    · obtain ⟨sl, q⟩ := slot c o (I.cne x c e) hc nch ho (I.freeC x c e)
      exact ⟨_, q, hd⟩
    · exact ⟨o, keep c o (I.cne x c e) hc nch ho (I.freeC x c e), hd⟩
  refine ⟨I.ok, I.os, hg, ⟨fun b o e n hb hx => ?_, fun b o e n hb hx => ?_, fun b o e n hx => ?_, fun b o e hx => ?_, fun b xs e => tups b xs (I.base.tups b xs e), fun b o xs e => frzs b o xs (I.base.frzs b o xs e), fun b ps e => ?_⟩, ?_, fun x c e => ?_, ?_, fun x c e => ?_, fun p hp => ?_, hok, I.len⟩
  · exact keep b o (neL b o e) hb (neC b o e hx) (I.base.keep b o e n hb hx) (I.base.free b o e n hx)
  · obtain ⟨sl, e1⟩ := I.base.slot b o e n hb hx
    obtain ⟨sl', e2⟩ := slot b _ (neL b o e) hb (neC b o e hx) e1 (I.base.free b o e n hx)
    exact ⟨sl', e2⟩
  · obtain ⟨o', e1⟩ := I.base.there b o e hx
    exact free b o' (neC b o e hx) e1 (I.base.free b o e n hx)
  · obtain ⟨o', e1⟩ := I.base.there b o e hx
    exact there b o' (neC b o e hx) e1
  · obtain ⟨m1, e1⟩ := I.base.tbls b ps e
    obtain ⟨m2, e2⟩ := tbls b _ e1
    exact ⟨m1 ++ m2, by rw [e2, Array.append_assoc]⟩
  · obtain ⟨m, hn, hl⟩ := I.loc
    refine ⟨m, ns m hn, fun i x v e1 e2 e3 => ?_⟩
    obtain ⟨u, r, l⟩ := hl i x v e1 e2 e3
    refine ⟨u, r, ?_⟩
    rcases l with l | ⟨k, c, e, z⟩
    · exact .inl l
    · exact .inr ⟨k, c, e, cellK x c e _ z⟩
  · obtain ⟨v, z⟩ := I.cell x c e
    exact ⟨v, cellK x c e v z⟩
  · obtain ⟨m, ⟨o, _, _, ho, _⟩, _⟩ := I.loc
    exact free _ o (fun z => (hch _ z).2.1 rfl) ho I.free
  · obtain ⟨v, o, ho, hd⟩ := I.cell x c e
    exact free c o (fun z => (hch c z).2.2.1 x c e rfl) ho (I.freeC x c e)
  · obtain ⟨e, n, ne, nf, d⟩ := I.pin p hp
    have nch : p.1 ∉ ch := fun z => (hch p.1 z).2.2.2 p hp rfl
    exact ⟨keep p.1 p.2 ne nf nch e n, free p.1 p.2 nch e n, ne, nf, d⟩
/-- .. where the frame's own object is kept too -/
theorem Inv.un {t' : Nat} (I : Inv X pins σ H s) (u : Un X.fs [] H H' s.heap h') (hok : HOk X.prog X.w H' h') : Inv X pins σ H' { s with heap := h', toks := t' } := by
  obtain ⟨m, ⟨o, es, ep, ho, r⟩, _⟩ := id I.loc
  obtain ⟨sl, hL⟩ := u.any ho I.free (by simp)
  exact I.step (g' := s.gens) (d' := s.drawn) (ch := []) (fun _ z => nomatch z) (fun b o _ hb _ e n => u.keep b o e n hb (by simp)) (fun b o _ hb _ e n => u.slot b o e n hb (by simp)) (fun b o _ e n => u.free b o e n (by simp)) (fun b o _ e => u.there b o e (by simp)) u.tups u.frzs u.tbls (fun m' hm => by
    obtain ⟨o', es', ep', ho', r'⟩ := hm
    rw [ho] at ho'; cases ho'
    exact ⟨_, es', ep', hL, r'⟩) hok I.bare
/-- behind a call (or a comprehension's block): the slots of this frame may have changed too, the records at ch may have turned -/
theorem Inv.call {g' : Array GenState} {t' : Nat} {d' : Drawn} {ch : List Addr} (I : Inv X pins σ H s) (u : Un (frs X.stack) ch H H' s.heap h') (hok : HOk X.prog X.w H' h') (hg : AllBare g')
    (hch : ∀ b ∈ ch, (b ∈ X.ex ∨ X.s₀.heap.objs.size ≤ b) ∧ b ≠ X.env.locals ∧ (∀ x c, X.env.cells.lookup x = some c → c ≠ b) ∧ ∀ p ∈ X.pn ++ pins, p.1 ≠ b) :
    Inv X pins σ H' { s with heap := h', gens := g', drawn := d', toks := t' } := by
  obtain ⟨m, ⟨o, es, ep, ho, r⟩, _⟩ := id I.loc
  obtain ⟨sl, hL⟩ := u.any ho I.free fun z => (hch _ z).2.1 rfl
  exact I.step (ch := ch) hch (fun b o hL hb hc e n => u.keep b o e n (fun z => (List.mem_cons.mp (I.stkSub b z)).elim hL hb) hc) (fun b o _ _ hc e n => u.any e n hc) (fun b o hc e n => u.free b o e n hc) (fun b o hc e => u.there b o e hc) u.tups u.frzs u.tbls (fun m' hm => by
    obtain ⟨o', es', ep', ho', r'⟩ := hm
    rw [ho] at ho'; cases ho'
    exact ⟨_, es', ep', hL, r'⟩) hok hg
/-- an untracked record of ours (an iterator) has turned -/
theorem Inv.turned {t' : Nat} {it : Addr} (I : Inv X pins σ H s) (k : ∀ b o, b ≠ it → s.heap.get? b = some o → h'.get? b = some o) (hn : H it = none) (hL : it ≠ X.env.locals)
    (h1 : it ∈ X.ex ∨ X.s₀.heap.objs.size ≤ it) (h2 : ∀ x c, X.env.cells.lookup x = some c → c ≠ it) (h3 : ∀ p ∈ X.pn ++ pins, p.1 ≠ it) : Inv X pins σ H { s with heap := h', toks := t' } := by
  have nit : ∀ b u, H b = some u → b ≠ it := fun b u e z => by rw [z, hn] at e; cases e
  refine I.step (g' := s.gens) (d' := s.drawn) (ch := [it]) (fun b hb => ?_) (fun b o _ _ hc e _ => k b o (fun z => hc (by simp [z])) e) (fun b o _ _ hc e _ => ⟨o.slots, k b o (fun z => hc (by simp [z])) e⟩) (fun _ _ _ _ n => n)
    (fun b o hc e => ⟨o, k b o (fun z => hc (by simp [z])) e⟩) (fun _ _ e => e) (fun _ _ _ e => e) (fun b ps e => ⟨#[], by rw [e]; simp⟩) (fun m hm => ?_) (fun b u e => ?_) I.bare
  · have e : b = it := by simpa using hb
    subst e
    exact ⟨h1, hL, h2, h3⟩
  · obtain ⟨o, es, ep, ho, r⟩ := hm
    exact ⟨o, es, ep, k _ o (Ne.symm hL) ho, r⟩
  · refine (I.hok b u e).stay (fun c v hc q => k c v ?_ q) (fun _ q => q) fun _ _ q => q
    rcases hc with z | z
    · rw [z]; exact nit b u e
    · exact nit c _ z
theorem Inv.tok (I : Inv X pins σ H s) (t : Nat) : Inv X pins σ H { s with toks := t } := I.un (h' := s.heap) (t' := t) Un.refl I.hok
/-- all objects kept -/
theorem Inv.kept {t' : Nat} (I : Inv X pins σ H s) (k : ∀ b u, s.heap.get? b = some u → h'.get? b = some u) : Inv X pins σ H { s with heap := h', toks := t' } := I.un (Un.kept k) (I.hok.kept k)
/-- a new object laid and tracked -/
theorem Inv.laid {a : Addr} {o : HO} {t' : Nat} (I : Inv X pins σ H s) (k : ∀ b u, s.heap.get? b = some u → h'.get? b = some u) (hp : s.heap.objs.size ≤ a) (new : ObjOk X.prog X.w (upd H a o) h' a o) :
    Inv X pins σ (upd H a o) { s with heap := h', toks := t' } := I.un (Un.laid k hp (I.hok.fresh hp)) (I.hok.laid k hp new)
/-- an object written -/
theorem Inv.write {x e : Addr} {o : HO} {t' : Nat} (I : Inv X pins σ H s) (mu : Mut (H x)) (he : e = x ∨ H e = some (.own x)) (k : ∀ b u, b ≠ e → s.heap.get? b = some u → h'.get? b = some u) (heo : ∃ u, h'.get? e = some u)
    (new : ObjOk X.prog X.w (upd H x o) h' x o) : Inv X pins σ (upd H x o) { s with heap := h', toks := t' } := I.un (Un.write mu he k heo) (I.hok.write mu he k heo new)
/-- forgetting slots, pins -/
theorem Inv.weak {σ' : List (Option V)} (I : Inv X pins σ H s) (hl : σ'.length = σ.length) (w : ∀ (i : Nat) v, σ'[i]? = some (some v) → σ[i]? = some (some v)) : Inv X pins σ' H s :=
  ⟨I.ok, I.os, I.bare, I.base, let ⟨m, hn, hl'⟩ := I.loc; ⟨m, hn, fun i x v e1 e2 e3 => hl' i x v e1 (w i v e2) e3⟩, I.cell, I.free, I.freeC, I.pin, I.hok, hl.trans I.len⟩
theorem Inv.pins_of {pins' : List (Addr × Obj)} (I : Inv X pins σ H s) (h : ∀ p ∈ pins', s.heap.get? p.1 = some p.2 ∧ H p.1 = none ∧ p.1 ≠ X.env.locals ∧ p.1 ∉ X.fs ∧ ∀ v, p.2.data ≠ .cell v) : Inv X pins' σ H s :=
  ⟨I.ok, I.os, I.bare, I.base, I.loc, I.cell, I.free, I.freeC, fun p hp => (List.mem_append.mp hp).elim (fun z => I.pin p (List.mem_append_left _ z)) (h p), I.hok, I.len⟩

theorem nodup_ix {N : List Str} (hN : N.Nodup) {i j : Nat} {x : Str} (a : N[i]? = some x) (b : N[j]? = some x) : i = j := by
  obtain ⟨h1, e1⟩ := List.getElem?_eq_some_iff.mp a
  obtain ⟨h2, e2⟩ := List.getElem?_eq_some_iff.mp b
  exact (List.getElem_inj hN).mp (e1.trans e2.symm)

/-- a name is stored; what changed -/
theorem store_ok2 {M : Model} {A : Around} {E : Value → Shared → Prop} {i : Nat} {x : Str} {v : V} {u : Value} {Q : Unit → Shared → Prop} (I : Inv X pins σ H s) (hN : X.N.Nodup) (hi : X.N[i]? = some x) (hx : Loc X.env.scope x) (r : RelV v u)
    (h : ∀ s', Inv X pins (σ.set i (some v)) H s' → (∃ a, Heap.SameBut a s.heap s'.heap ∧ (a = X.env.locals ∨ X.env.cells.lookup x = some a)) → Q () s') (hf : X.fn x = true ∨ X.env.scope.names.lookup x = some .local := by first | exact .inl rfl | exact .inr rfl | assumption) : wpAny M A (storeName X.env x u) Q E s := by
  obtain ⟨m, hn, hl⟩ := id I.loc
  have hcls : (X.env.scope.kind == .class || (X.env.scope.kind == .module && X.env.locals != X.env.globals)) = false := by rw [I.ok.kind]; rfl
  have hiσ : i < σ.length := by rw [I.len]; exact (List.getElem?_eq_some_iff.mp hi).1
  have cne := I.cne
  have tracked : ∀ {a : Addr} {h' : Heap}, (∃ o, s.heap.get? a = some o ∧ H a = none) → Heap.SameBut a s.heap h' → HOk X.prog X.w H h' := fun {a h'} ha hs b ob e => by
    obtain ⟨_, _, hfree⟩ := ha
    refine (I.hok b ob e).stay (fun c w' hc q => (hs.2 c ?_).trans q) (fun _ q => q) fun _ _ q => q
    rintro rfl
    rcases hc with rfl | hc
    · rw [hfree] at e; cases e
    · rw [hfree] at hc; cases hc
  rcases hx with hk | hk
  · refine wpAny_storeName_local hk hn (fun h' hn' hs => ?_) hcls
    obtain ⟨oL, _, _, hoL, _⟩ := id hn
    refine h _ ⟨I.ok, I.os, I.bare, ⟨fun b o e n hb hx => ?_, fun b o e n hb hx => ?_, I.base.free, fun b o e hx => ?_, I.base.tups, I.base.frzs, I.base.tbls⟩, ⟨_, hn', fun j y v' e1 e2 e3 => ?_⟩, fun y c e => ?_, I.free, I.freeC, fun p hp => ?_, tracked ⟨oL, hoL, I.free⟩ hs, by simpa using I.len⟩ ⟨_, hs, .inl rfl⟩
    · exact (hs.2 b (Nat.ne_of_lt (Nat.lt_of_lt_of_le (Heap.lt_size e) I.ok.above))).trans (I.base.keep b o e n hb hx)
    · obtain ⟨sl, e1⟩ := I.base.slot b o e n hb hx
      exact ⟨sl, (hs.2 b (Nat.ne_of_lt (Nat.lt_of_lt_of_le (Heap.lt_size e) I.ok.above))).trans e1⟩
    · obtain ⟨o', e1⟩ := I.base.there b o e hx
      exact ⟨o', (hs.2 b (Nat.ne_of_lt (Nat.lt_of_lt_of_le (Heap.lt_size e) I.ok.above))).trans e1⟩
    · by_cases hj : j = i
      · subst hj
        rw [hi] at e1; cases e1
        rw [List.getElem?_set_self hiσ] at e2
        cases e2
        exact ⟨u, r, .inl ⟨hk, by simp⟩⟩
      · rw [List.getElem?_set_ne (Ne.symm hj)] at e2
        obtain ⟨u', r', q⟩ := hl j y v' e1 e2 e3
        refine ⟨u', r', ?_⟩
        rcases q with ⟨k, e⟩ | ⟨k, c, e, z⟩
        · refine .inl ⟨k, ?_⟩
          have : y ≠ x := fun e => hj (nodup_ix hN e1 (e ▸ hi))
          simp [this, e]
        · exact .inr ⟨k, c, e, z.sameBut hs (cne y c e)⟩
    · obtain ⟨w', z⟩ := I.cell y c e
      exact ⟨w', z.sameBut hs (cne y c e)⟩
    · obtain ⟨e, n, ne, nf, d⟩ := I.pin p hp
      exact ⟨(hs.2 p.1 ne).trans e, n, ne, nf, d⟩
  · have hfn : X.fn x = true := by
      rcases hf with z | z
      · exact z
      · rw [z] at hk; cases hk
    obtain ⟨c, hc⟩ := I.ok.has x (.inl hk)
    obtain ⟨w', z⟩ := I.cell x c hc
    refine wpAny_storeName_cell I.ok.kind hk hc z (fun h' hc' hs => ?_)
    obtain ⟨oc, hoc, hocd⟩ := id z
    refine h { s with heap := h' } ⟨I.ok, I.os, I.bare, ⟨fun b o e n hb hx => ?_, fun b o e n hb hx => ?_, I.base.free, fun b o e hx => ?_, I.base.tups, I.base.frzs, I.base.tbls⟩, ⟨m, hn.sameBut hs (Ne.symm (cne x c hc)), fun j y v' e1 e2 e3 => ?_⟩, fun y c' e => ?_, I.free, I.freeC, fun p hp => ?_, tracked ⟨oc, hoc, I.freeC x c hc⟩ hs, by simpa using I.len⟩ ⟨c, hs, .inr hc⟩
    · exact (hs.2 b (Nat.ne_of_lt (Nat.lt_of_lt_of_le (Heap.lt_size e) (I.ok.cab x c hfn hc)))).trans (I.base.keep b o e n hb hx)
    · obtain ⟨sl, e1⟩ := I.base.slot b o e n hb hx
      exact ⟨sl, (hs.2 b (Nat.ne_of_lt (Nat.lt_of_lt_of_le (Heap.lt_size e) (I.ok.cab x c hfn hc)))).trans e1⟩
    · obtain ⟨o', e1⟩ := I.base.there b o e hx
      exact ⟨o', (hs.2 b (Nat.ne_of_lt (Nat.lt_of_lt_of_le (Heap.lt_size e) (I.ok.cab x c hfn hc)))).trans e1⟩
    · by_cases hj : j = i
      · subst hj
        rw [hi] at e1; cases e1
        rw [List.getElem?_set_self hiσ] at e2
        cases e2
        exact ⟨u, r, .inr ⟨.inl hk, c, hc, hc'⟩⟩
      · rw [List.getElem?_set_ne (Ne.symm hj)] at e2
        obtain ⟨u', r', q⟩ := hl j y v' e1 e2 e3
        refine ⟨u', r', ?_⟩
        rcases q with q | ⟨k, c', e, z'⟩
        · exact .inl q
        · refine .inr ⟨k, c', e, z'.sameBut hs ?_⟩
          rintro rfl
          exact hj (nodup_ix hN e1 (I.ok.inj _ _ _ e hc ▸ hi))
    · by_cases hcc : c' = c
      · subst hcc; exact ⟨_, hc'⟩
      · obtain ⟨w2, z2⟩ := I.cell y c' e
        exact ⟨w2, z2.sameBut hs hcc⟩
    · obtain ⟨e, n, ne, nf, d⟩ := I.pin p hp
      refine ⟨(hs.2 p.1 ?_).trans e, n, ne, nf, d⟩
      intro q
      rw [q, hoc] at e
      have q' : oc = p.2 := Option.some.inj e
      exact d w' (by rw [← q']; exact hocd)
theorem store_ok {M : Model} {A : Around} {E : Value → Shared → Prop} {i : Nat} {x : Str} {v : V} {u : Value} {Q : Unit → Shared → Prop} (I : Inv X pins σ H s) (hN : X.N.Nodup) (hi : X.N[i]? = some x) (hx : Loc X.env.scope x) (r : RelV v u)
    (h : ∀ s', Inv X pins (σ.set i (some v)) H s' → Q () s') (hf : X.fn x = true ∨ X.env.scope.names.lookup x = some .local := by first | exact .inl rfl | exact .inr rfl | assumption) : wpAny M A (storeName X.env x u) Q E s :=
  store_ok2 I hN hi hx r (fun s' I' _ => h s' I') hf
/-- behind a call or a block, the state as it is -/
theorem Inv.call' {s' : Shared} {ch : List Addr} (I : Inv X pins σ H s) (ho : s'.os = s.os) (u : Un (frs X.stack) ch H H' s.heap s'.heap) (hok : HOk X.prog X.w H' s'.heap) (hg : AllBare s'.gens)
    (hch : ∀ b ∈ ch, (b ∈ X.ex ∨ X.s₀.heap.objs.size ≤ b) ∧ b ≠ X.env.locals ∧ (∀ x c, X.env.cells.lookup x = some c → c ≠ b) ∧ ∀ p ∈ X.pn ++ pins, p.1 ≠ b) : Inv X pins σ H' s' := by
  obtain ⟨h', g', d', t', o'⟩ := s'
  have e : o' = s.os := ho
  subst e
  exact I.call (g' := g') (t' := t') (d' := d') u hok hg hch
end

/-! ### the judgements -/
/-- an exception: its class, its own dict's address (where it has one), the abstract heap behind it -/
abbrev XK := Value → Option Addr → Hp → Prop
abbrev St := List (Option V)
abbrev VK := V → Hp → Prop
/-- an expression's reading; a test's; an argument list's -/
abbrev TE := St → Hp → VK → Prop
abbrev TT := St → Hp → (Bool → Hp → Prop) → Prop
abbrev TA := St → Hp → (List V → Hp → Prop) → Prop
/-- what is wanted behind a statement -/
structure Ends where
  nx : St → Hp → Prop
  rt : VK
  bk : St → Hp → Prop := fun _ _ => False
  ct : St → Hp → Prop := fun _ _ => False
abbrev TS := Ends → St → Hp → Prop

def EP (X : Cx) (pins : List (Addr × Obj)) (σ : St) (Q : VK) (u : Value) (s' : Shared) : Prop := ∃ v H', Inv X pins σ H' s' ∧ RelV v u ∧ Q v H'
def TP (X : Cx) (pins : List (Addr × Obj)) (σ : St) (Q : Bool → Hp → Prop) (b : Bool) (s' : Shared) : Prop := ∃ H', Inv X pins σ H' s' ∧ Q b H'
def AP (X : Cx) (pins : List (Addr × Obj)) (σ : St) (Q : List V → Hp → Prop) (us : List Value) (s' : Shared) : Prop := ∃ vs H', Inv X pins σ H' s' ∧ Vals vs us ∧ Q vs H'
def SP (X : Cx) (pins : List (Addr × Obj)) (D : Ends) (f : Flow) (s' : Shared) : Prop :=
  match f with
  | .next => ∃ σ' H', Inv X pins σ' H' s' ∧ D.nx σ' H'
  | .brk => ∃ σ' H', Inv X pins σ' H' s' ∧ D.bk σ' H'
  | .cont => ∃ σ' H', Inv X pins σ' H' s' ∧ D.ct σ' H'
  | .ret u => ∃ v σ' H', Inv X pins σ' H' s' ∧ RelV v u ∧ D.rt v H'

def PE (X : Cx) (e : Expr) (t : TE) : Prop :=
  ∀ (pins : List (Addr × Obj)) (s : Shared) (σ : St) (H : Hp) (Q : VK), Inv X pins σ H s → t σ H Q → wpAny (model X.prog X.w) X.A (eval e X.env) (EP X pins σ Q) X.xe s
def PT (X : Cx) (e : Expr) (t : TT) : Prop :=
  ∀ (pins : List (Addr × Obj)) (s : Shared) (σ : St) (H : Hp) (Q : Bool → Hp → Prop), Inv X pins σ H s → t σ H Q → wpAny (model X.prog X.w) X.A (isTrue e X.env (eval e X.env)) (TP X pins σ Q) X.xe s
/-- a test whatever its 'whole' is (and, or) -/
def PW (X : Cx) (e : Expr) (t : TT) : Prop :=
  ∀ (whole : Sem Value) (pins : List (Addr × Obj)) (s : Shared) (σ : St) (H : Hp) (Q : Bool → Hp → Prop), Inv X pins σ H s → t σ H Q → wpAny (model X.prog X.w) X.A (isTrue e X.env whole) (TP X pins σ Q) X.xe s
theorem PW.pt {X : Cx} {e : Expr} {t : TT} (h : PW X e t) : PT X e t := h _
/-- an argument list (no star), from the left -/
def PA (X : Cx) (es : List Expr) (t : TA) : Prop :=
  ∀ (pos : Pos) (pins : List (Addr × Obj)) (s : Shared) (σ : St) (H : Hp) (Q : List V → Hp → Prop), Inv X pins σ H s → t σ H Q → wpAny (model X.prog X.w) X.A (spliced (backTo pos (starEach es X.env))) (AP X pins σ Q) X.xe s
def PS (X : Cx) (st : Stmt) (t : TS) : Prop :=
  ∀ (pins : List (Addr × Obj)) (s : Shared) (σ : St) (H : Hp) (D : Ends), Inv X pins σ H s → t D σ H → wpAny (model X.prog X.w) X.A (exec st X.env) (SP X pins D) X.xe s
def PSs (X : Cx) (st : List Stmt) (t : TS) : Prop :=
  ∀ (pins : List (Addr × Obj)) (s : Shared) (σ : St) (H : Hp) (D : Ends), Inv X pins σ H s → t D σ H → wpAny (model X.prog X.w) X.A (execs st X.env) (SP X pins D) X.xe s
/-- weaken the end -/
theorem thn {α : Type} {t : Sem α} {Q Q' : α → Shared → Prop} {M : Model} {A : Around} {E : Value → Shared → Prop} {s : Shared} (h : wpAny M A t Q E s) (hQ : ∀ a s, Q a s → Q' a s) : wpAny M A t Q' E s := wpAny_mono h hQ fun _ _ x => x
end L2

namespace L2
open PySem PySem.Spec PyProof.Rows
section
variable {X : Cx}


/-! ### names and constants -/
def tVar (i : Nat) : TE := fun σ H Q => ∃ v, σ[i]? = some (some v) ∧ Q v H
def tC (v : V) : TE := fun _ H Q => Q v H
theorem pe_var {i : Nat} {x : Str} {pos : Pos} (hN : X.N[i]? = some x) (hv : Vis X.env.scope x) (hd : (x == ("__debug__" : Str)) = false := by decide) (hcd : (x == ("__classdict__" : Str)) = false := by decide) : PE X (.Name x pos) (tVar i) := by
  intro pins s σ H Q I h
  obtain ⟨v, e, h⟩ := h
  obtain ⟨m, hn, hl⟩ := I.loc
  obtain ⟨u, r, l⟩ := hl i x v hN e hv
  have fin : EP X pins σ Q u s := ⟨v, H, I, r, h⟩
  rcases l with ⟨hk, hm⟩ | ⟨hk, c, hc, hcell⟩
  · exact wpAny_Name (wpAny_loadName_local I.ok.kind hk hn hm fin) hd
  · rcases hk with hk | hk
    · exact wpAny_Name (wpAny_loadName_cell I.ok.kind hk hc hcell fin) hd
    · exact wpAny_Name (wpAny_loadName_free I.ok.kind hk hc hcell fin hcd) hd
theorem pe_int {i j pos} : PE X (.Constant (.int i) j pos) (tC (.int i)) := fun _ _ _ H _ I h => wpAny_Constant_int ⟨.int i, H, I.tok _, ⟨_, rfl⟩, h⟩
theorem pe_bl {b j pos} : PE X (.Constant (.bool b) j pos) (tC (.bl b)) := fun _ _ _ H _ I h => Constant_bool ⟨.bl b, H, I, rfl, h⟩
theorem pe_non {j pos} : PE X (.Constant .none j pos) (tC .non) := fun _ _ _ H _ I h => Constant_none ⟨.non, H, I, rfl, h⟩
theorem pe_str {x j pos} : PE X (.Constant (.str x) j pos) (tC (.str x)) := fun _ _ _ H _ I h => Calls.Constant_str ⟨.str x, H, I.tok _, ⟨_, rfl⟩, h⟩

/-- a global name of the def -/
def Gl (X : Cx) (x : Str) : Prop := X.env.kindOf x = some .globalImplicit
theorem ld_glob {E : Value → Shared → Prop} {pins : List (Addr × Obj)} {s : Shared} {σ : St} {H : Hp} {x : Str} {u : Value} {pos : Pos} {Q : Value → Shared → Prop} (I : Inv X pins σ H s) (hg : Gl X x) (hm : X.mg x = some u) (h : Q u s)
    (hd : (x == ("__debug__" : Str)) = false := by decide) : wpAny (model X.prog X.w) X.A (eval (.Name x pos) X.env) Q E s :=
  Calls.Name_function_global I.ok.kind hg (Calls.loadGlobal_global (by rw [I.ok.glob]; exact I.mod.glob.keeps I.bk) hm h) hd
theorem ld_blt {E : Value → Shared → Prop} {pins : List (Addr × Obj)} {s : Shared} {σ : St} {H : Hp} {x : Str} {u : Value} {pos : Pos} {Q : Value → Shared → Prop} (I : Inv X pins σ H s) (hg : Gl X x) (hm : X.mg x = none) (hv : bootBuiltins x = some u) (h : Q u s)
    (hn : x ≠ "__name__" := by decide) (hd : (x == ("__debug__" : Str)) = false := by decide) : wpAny (model X.prog X.w) X.A (eval (.Name x pos) X.env) Q E s := by
  obtain ⟨mb, h1, h2⟩ := I.mod.blt
  exact Calls.Name_function_global I.ok.kind hg (Calls.loadGlobal_builtin (by rw [I.ok.glob]; exact I.mod.glob.keeps I.bk) hm (by rw [I.ok.blt]; exact h1.keeps I.bk) ((h2 x hn).trans hv) h) hd
/-- a module's constant, a class, a function, as a value -/
theorem pe_glob {x : Str} {v : V} {u : Value} {pos : Pos} (hg : Gl X x) (hm : X.mg x = some u) (r : RelV v u) (hd : (x == ("__debug__" : Str)) = false := by decide) : PE X (.Name x pos) (tC v) :=
  fun _ _ _ H _ I h => ld_glob I hg hm ⟨v, H, I, r, h⟩ hd
theorem pe_bltn {x : Str} {v : V} {u : Value} {pos : Pos} (hg : Gl X x) (hm : X.mg x = none) (hv : bootBuiltins x = some u) (r : RelV v u) (hn : x ≠ "__name__" := by decide) (hd : (x == ("__debug__" : Str)) = false := by decide) : PE X (.Name x pos) (tC v) :=
  fun _ _ _ H _ I h => ld_blt I hg hm hv ⟨v, H, I, r, h⟩ hn hd

/-! ### arithmetic -/
/-- two ints -/
def t2I (ta tb : TE) (k : Int → Int → Hp → Prop) : St → Hp → Prop := fun σ H => ta σ H fun x H1 => tb σ H1 fun y H2 => ∃ i j, x = .int i ∧ y = .int j ∧ k i j H2
def tAdd (ta tb : TE) : TE := fun σ H Q => t2I ta tb (fun i j H2 => Q (.int (i + j)) H2) σ H
def tSub (ta tb : TE) : TE := fun σ H Q => t2I ta tb (fun i j H2 => Q (.int (i - j)) H2) σ H
/-- the left factor below 2^64 -/
def tMul (ta tb : TE) : TE := fun σ H Q => t2I ta tb (fun i j H2 => (-(2 ^ 64) < i ∧ i < 2 ^ 64) ∧ Q (.int (i * j)) H2) σ H
variable {a b : Expr} {ta tb : TE} {pos : Pos}

/-! ### comparisons -/
def PC (X : Cx) (op : CmpOp) (a b : Expr) (t : TE) : Prop :=
  ∀ (pins : List (Addr × Obj)) (s : Shared) (σ : St) (H : Hp) (Q : VK), Inv X pins σ H s → t σ H Q →
    wpAny (model X.prog X.w) X.A (eval a X.env) (fun v s₁ => wpAny (model X.prog X.w) X.A (eval b X.env) (fun u s₂ => wpAny (model X.prog X.w) X.A (compareOp op v u) (EP X pins σ Q) X.xe s₂) X.xe s₁) X.xe s
def tCmp (p : Int → Int → Bool) (ta tb : TE) : TE := fun σ H Q => t2I ta tb (fun i j H2 => Q (.bl (p i j)) H2) σ H
abbrev tLt : TE → TE → TE := tCmp fun i j => decide (i < j)
abbrev tLe : TE → TE → TE := tCmp fun i j => decide (i ≤ j)
abbrev tGt : TE → TE → TE := tCmp fun i j => decide (j < i)
abbrev tGe : TE → TE → TE := tCmp fun i j => decide (j ≤ i)
abbrev tEqI : TE → TE → TE := tCmp fun i j => decide (i = j)
abbrev tNeI : TE → TE → TE := tCmp fun i j => !decide (i = j)
/-- is None -/
def tIsN (ta : TE) : TE := fun σ H Q => ta σ H fun x H1 => Q (.bl (decide (x = .non))) H1
def tNotN (ta : TE) : TE := fun σ H Q => ta σ H fun x H1 => Q (.bl (!decide (x = .non))) H1
/-- a comparison as a value, as a test -/
def tB (t : TE) : TT := fun σ H Q => t σ H fun x H1 => ∃ c, x = .bl c ∧ Q c H1
/-- an expression whose value is a bool, as a test -/
theorem pt_val {e : Expr} {t : TE} (h : PE X e t) (he : ∀ whole, isTrue e X.env whole = (do let v ← whole; standAt e.pos; holding [v] (truthy v)) := by intro _; rfl) : PT X e (tB t) := by
  intro pins s σ H Q I hw
  refine isTrue_plain (thn (h pins s σ H _ I hw) fun v s1 ⟨x, H1, I1, r1, q1⟩ => ?_) (he _)
  obtain ⟨d, rfl, q⟩ := q1
  cases r1
  exact wpAny_truthy_bool ⟨H1, I1, q⟩

/-! ### and, or, not -/
variable {tA tB' : TT} {rest : List Expr}
def tAnd (t u : TT) : TT := fun σ H Q => t σ H fun c H1 => if c = true then u σ H1 Q else Q false H1
def tOr (t u : TT) : TT := fun σ H Q => t σ H fun c H1 => if c = true then Q true H1 else u σ H1 Q
def tNot (t : TT) : TT := fun σ H Q => t σ H fun c H1 => Q (!c) H1
theorem pw_and1 (ha : PT X a tA) : PW X (.BoolOp .And [a] pos) tA := by
  intro wh pins s σ H Q I h
  refine isTrue_and (thn (ha pins s σ H Q I h) fun c s1 e => ?_)
  cases c with
  | true => exact isTrue_and_nil e
  | false => exact e
theorem pw_or1 (ha : PT X a tA) : PW X (.BoolOp .Or [a] pos) tA := by
  intro wh pins s σ H Q I h
  refine isTrue_or (thn (ha pins s σ H Q I h) fun c s1 e => ?_)
  cases c with
  | false => exact isTrue_or_nil e
  | true => exact e
theorem pw_and (ha : PT X a tA) (hb : PW X (.BoolOp .And (b :: rest) pos) tB') : PW X (.BoolOp .And (a :: b :: rest) pos) (tAnd tA tB') := by
  intro wh pins s σ H Q I h
  refine isTrue_and (thn (ha pins s σ H _ I h) fun c s1 ⟨H1, I1, q1⟩ => ?_)
  cases c with
  | true => exact hb wh pins s1 σ H1 Q I1 q1
  | false => exact ⟨H1, I1, q1⟩
theorem pw_or (ha : PT X a tA) (hb : PW X (.BoolOp .Or (b :: rest) pos) tB') : PW X (.BoolOp .Or (a :: b :: rest) pos) (tOr tA tB') := by
  intro wh pins s σ H Q I h
  refine isTrue_or (thn (ha pins s σ H _ I h) fun c s1 ⟨H1, I1, q1⟩ => ?_)
  cases c with
  | true => exact ⟨H1, I1, q1⟩
  | false => exact hb wh pins s1 σ H1 Q I1 q1
theorem pt_not (ha : PT X a tA) : PT X (.UnaryOp .Not a pos) (tNot tA) := by
  intro pins s σ H Q I h
  exact isTrue_not (ha pins s σ H (fun c H1 => Q (!c) H1) I h)
/-- .. as values (bools) -/
def tAndV (ta tb : TE) : TE := fun σ H Q => ta σ H fun x H1 => ∃ c, x = .bl c ∧ if c = true then tb σ H1 Q else Q (.bl false) H1
def tOrV (ta tb : TE) : TE := fun σ H Q => ta σ H fun x H1 => ∃ c, x = .bl c ∧ if c = true then Q (.bl true) H1 else tb σ H1 Q
def tNotV (ta : TE) : TE := fun σ H Q => ta σ H fun x H1 => ∃ c, x = .bl c ∧ Q (.bl (!c)) H1
/-- a if t else b -/
def tIf (t : TT) (ta tb : TE) : TE := fun σ H Q => t σ H fun c H1 => if c = true then ta σ H1 Q else tb σ H1 Q
end
end L2

namespace L2
open PySem PySem.Spec PyProof.Rows

/-! ### a list, a tuple that is read: tracked, frozen, or an object of the module -/
def SqL (K : PySem.W.Frag) (H : Hp) (a : Addr) (xs : List V) : Prop :=
  Rd H a (.lst xs) ∨
    ∃ (o : Obj) (its : Array Value) (n : Nat), K.lookup a = some o ∧ o.cls = .type "list" ∧ o.dict = none ∧ o.data = .seq its n ∧ its.size ≤ sizeLine ∧ Vals xs its.toList
def SqT (K : PySem.W.Frag) (H : Hp) (a : Addr) (xs : List V) : Prop :=
  Rd H a (.tup xs) ∨
    ∃ (o : Obj) (its : Array Value) (n : Nat), K.lookup a = some o ∧ o.cls = .type "tuple" ∧ o.data = .seq its n ∧ its.size ≤ sizeLine ∧ Vals xs its.toList
def absV : Value → Option V
  | .none => some .non
  | .bool b => some (.bl b)
  | .int i _ => some (.int i)
  | .str x _ => some (.str x)
  | .bytes b _ => some (.byt b)
  | .float b _ => some (.flt b)
  | .ref a => some (.ref a)
  | .type n => some (.ty n)
  | _ => none
theorem RelV.abs {x : V} {u : Value} (r : RelV x u) : absV u = some x := by
  cases x with
  | non => cases r; rfl
  | bl _ => cases r; rfl
  | int _ => obtain ⟨t, rfl⟩ := r; rfl
  | str _ => obtain ⟨t, rfl⟩ := r; rfl
  | byt _ => obtain ⟨t, rfl⟩ := r; rfl
  | flt _ => obtain ⟨t, rfl⟩ := r; rfl
  | ref _ => cases r; rfl
  | ty _ => cases r; rfl
theorem RelV.inj {x y : V} {u : Value} (r : RelV x u) (q : RelV y u) : x = y := Option.some.inj (r.abs.symm.trans q.abs)
theorem Vals.inj : ∀ {xs ys : List V} {us : List Value}, Vals xs us → Vals ys us → xs = ys
  | _, _, _, .nil, .nil => rfl
  | _, _, _, .cons r t, .cons r' t' => by rw [r.inj r', Vals.inj t t']
section
variable {X : Cx} {pins : List (Addr × Obj)} {σ : St} {H : Hp} {s : Shared} {a : Addr} {xs ys : List V}
theorem SqL.of {K : PySem.W.Frag} (h : H a = some (.lst xs)) : SqL K H a xs := .inl (.inl h)
theorem SqT.of {K : PySem.W.Frag} (h : H a = some (.tup xs)) : SqT K H a xs := .inl (.inl h)
theorem Inv.list (I : Inv X pins σ H s) (h : SqL X.K H a xs) : ∃ its : List Value, Vals xs its ∧ PlainL s.heap a its.toArray ∧ xs.length ≤ sizeLine := by
  rcases h with h | ⟨o, its, n, hk, hc, hd, hs, hz, r⟩
  · obtain ⟨z, its, n, r, e⟩ := h.ok I.hok
    exact ⟨its, r, ⟨_, n, e, rfl, rfl, rfl⟩, z⟩
  · refine ⟨its.toList, r, ⟨o, n, I.kIn a o hk, hc, hd, by simpa using hs⟩, ?_⟩
    have e := r.length
    simp only [Array.length_toList] at e
    omega
theorem Inv.tuple (I : Inv X pins σ H s) (h : SqT X.K H a xs) : ∃ its : List Value, Vals xs its ∧ IsTup s.heap a its.toArray ∧ xs.length ≤ sizeLine := by
  rcases h with h | ⟨o, its, n, hk, hc, hs, hz, r⟩
  · obtain ⟨z, its, r, p⟩ := h.ok I.hok
    exact ⟨its, r, p.tup, z⟩
  · refine ⟨its.toList, r, ⟨o, I.kIn a o hk, hc, n, by simpa using hs⟩, ?_⟩
    have e := r.length
    simp only [Array.length_toList] at e
    omega
theorem Inv.list_inj (I : Inv X pins σ H s) (h : SqL X.K H a xs) (h' : SqL X.K H a ys) : xs = ys := by
  obtain ⟨its, r, ⟨o, n, e, _, _, d⟩, _⟩ := I.list h
  obtain ⟨its', r', ⟨o', n', e', _, _, d'⟩, _⟩ := I.list h'
  rw [e] at e'; cases e'
  rw [d] at d'
  injection d' with d1 _
  have : its = its' := by simpa using congrArg Array.toList d1
  subst this
  exact r.inj r'
theorem Inv.tuple_inj (I : Inv X pins σ H s) (h : SqT X.K H a xs) (h' : SqT X.K H a ys) : xs = ys := by
  obtain ⟨its, r, ⟨o, e, _, n, d⟩, _⟩ := I.tuple h
  obtain ⟨its', r', ⟨o', e', _, n', d'⟩, _⟩ := I.tuple h'
  rw [e] at e'; cases e'
  rw [d] at d'
  injection d' with d1 _
  have : its = its' := by simpa using congrArg Array.toList d1
  subst this
  exact r.inj r'
end

/-! ### another wish about exceptions -/
abbrev Cx.wish (X : Cx) (E : Value → Shared → Prop) : Cx := { X with xe := E }
/-- no exception leaves -/
abbrev Cx.nox (X : Cx) : Cx := X.wish fun _ _ => False
theorem Cx.Ok.wish {X : Cx} (ok : X.Ok) (E : Value → Shared → Prop) : (X.wish E).Ok :=
  ⟨ok.mod, ok.kind, ok.glob, ok.blt, ok.above, ok.inj, ok.has, ok.cab, ok.hd, ok.frames, ok.stk, ok.exf, ok.bs, ok.bsz, ok.noex, ok.exfs, ok.funs, ok.frf⟩
theorem Cx.Ok.unwish {X : Cx} {E : Value → Shared → Prop} (ok : (X.wish E).Ok) : X.Ok :=
  ⟨ok.mod, ok.kind, ok.glob, ok.blt, ok.above, ok.inj, ok.has, ok.cab, ok.hd, ok.frames, ok.stk, ok.exf, ok.bs, ok.bsz, ok.noex, ok.exfs, ok.funs, ok.frf⟩
section
variable {X : Cx} {pins : List (Addr × Obj)} {σ : St} {H : Hp} {s : Shared} {E : Value → Shared → Prop}
theorem Inv.wish (I : Inv X pins σ H s) (E : Value → Shared → Prop) : Inv (X.wish E) pins σ H s := ⟨I.ok.wish E, I.os, I.bare, I.base, I.loc, I.cell, I.free, I.freeC, I.pin, I.hok, I.len⟩
theorem Inv.unwish (I : Inv (X.wish E) pins σ H s) : Inv X pins σ H s := ⟨I.ok.unwish, I.os, I.bare, I.base, I.loc, I.cell, I.free, I.freeC, I.pin, I.hok, I.len⟩
theorem SP.unwish {D : Ends} {f : Flow} {s' : Shared} (h : SP (X.wish E) pins D f s') : SP X pins D f s' := by
  cases f with
  | next => obtain ⟨σ', H', I, q⟩ := h; exact ⟨σ', H', I.unwish, q⟩
  | brk => obtain ⟨σ', H', I, q⟩ := h; exact ⟨σ', H', I.unwish, q⟩
  | cont => obtain ⟨σ', H', I, q⟩ := h; exact ⟨σ', H', I.unwish, q⟩
  | ret u => obtain ⟨v, σ', H', I, r, q⟩ := h; exact ⟨v, σ', H', I.unwish, r, q⟩
theorem PE.nox {e : Expr} {t : TE} (h : PE X.nox e t) : PE X e t := fun pins s σ H Q I hw =>
  wpAny_mono (h pins s σ H Q (I.wish _) hw) (fun _ _ ⟨v, H', I', r, q⟩ => ⟨v, H', I'.unwish, r, q⟩) fun _ _ z => False.elim z
theorem PT.nox {e : Expr} {t : TT} (h : PT X.nox e t) : PT X e t := fun pins s σ H Q I hw =>
  wpAny_mono (h pins s σ H Q (I.wish _) hw) (fun _ _ ⟨H', I', q⟩ => ⟨H', I'.unwish, q⟩) fun _ _ z => False.elim z
theorem PSs.nox {st : List Stmt} {t : TS} (h : PSs X.nox st t) : PSs X st t := fun pins s σ H D I hw =>
  wpAny_mono (h pins s σ H D (I.wish _) hw) (fun _ _ q => q.unwish) fun _ _ z => False.elim z
end

/-! ### blocks and small statements -/
section
variable {X : Cx} {st : Stmt} {rest : List Stmt} {t u : TS} {e : Expr} {te : TE} {pos : Pos}
def tNext : TS := fun D σ H => D.nx σ H
def tSeq (t u : TS) : TS := fun D σ H => t { D with nx := u D } σ H
theorem pss_nil : PSs X [] tNext := fun _ _ σ H _ I h => wpAny_execs_nil ⟨σ, H, I, h⟩
theorem pss_cons (h1 : PS X st t) (h2 : PSs X rest u) : PSs X (st :: rest) (tSeq t u) := by
  intro pins s σ H D I h
  refine wpAny_execs_cons (thn (h1 pins s σ H { D with nx := u D } I h) fun f s1 q => ?_)
  cases f with
  | next =>
    obtain ⟨σ', H', I', q⟩ := q
    exact h2 pins s1 σ' H' D I' q
  | ret v => exact q
  | brk => exact q
  | cont => exact q
theorem pss_one (h1 : PS X st t) : PSs X [st] t := by
  intro pins s σ H D I h
  refine wpAny_execs_cons (thn (h1 pins s σ H D I h) fun f s1 q => ?_)
  cases f with
  | next => exact wpAny_execs_nil q
  | ret v => exact q
  | brk => exact q
  | cont => exact q
def tBreak : TS := fun D σ H => D.bk σ H
def tCont : TS := fun D σ H => D.ct σ H
/-- in a def's body nothing is shown -/
theorem Inv.quiet {pins : List (Addr × Obj)} {σ : St} {H : Hp} {s : Shared} (I : Inv X pins σ H s) : interactive X.env = false := by simp [interactive, I.ok.kind]
/-- an expression whose value is dropped -/
def tDrop (te : TE) : TS := fun D σ H => te σ H fun _ H1 => D.nx σ H1
theorem ps_expr (he : PE X e te) (hs : swapsWith e none pos.line X.env = pure false := by rfl) : PS X (.Expr e pos) (tDrop te) := by
  intro pins s σ H D I h
  exact wpAny_Expr_any (thn (he pins s σ H _ I h) fun v s1 ⟨x, H1, I1, r1, q1⟩ => ⟨σ, H1, I1, q1⟩) I.quiet hs
def tRet (te : TE) : TS := fun D σ H => te σ H D.rt
theorem ps_ret (he : PE X e te) : PS X (.Return (some e) pos) (tRet te) := by
  intro pins s σ H D I h
  exact wpAny_Return_some (thn (he pins s σ H _ I h) fun v s1 ⟨x, H1, I1, r1, q1⟩ => ⟨x, σ, H1, I1, r1, q1⟩)
def tRetN : TS := fun D _ H => D.rt .non H
def tIfS (c : TT) (t u : TS) : TS := fun D σ H => c σ H fun b H1 => if b = true then t D σ H1 else u D σ H1
theorem ps_if {c : Expr} {a b : List Stmt} {tc : TT} (hc : PT X c tc) (ha : PSs X a t) (hb : PSs X b u) : PS X (.If c a b pos) (tIfS tc t u) := by
  intro pins s σ H D I h
  refine wpAny_If (thn (hc pins s σ H _ I h) fun d s1 ⟨H1, I1, q1⟩ => ?_)
  cases d with
  | true => exact ha pins s1 σ H1 D I1 q1
  | false => exact hb pins s1 σ H1 D I1 q1
/-- code that the proof never comes to -/
def tNever : TS := fun _ _ _ => False
theorem ps_never : PS X st tNever := fun _ _ _ _ _ _ h => h.elim
theorem pss_never {sts : List Stmt} : PSs X sts tNever := fun _ _ _ _ _ _ h => h.elim
end

/-! ### targets -/
abbrev TG := V → St → Hp → (St → Hp → Prop) → Prop
abbrev TGs := List V → St → Hp → (St → Hp → Prop) → Prop
def PG (X : Cx) (target : Expr) (t : TG) : Prop :=
  ∀ (pins : List (Addr × Obj)) (s : Shared) (σ : St) (H : Hp) (v : V) (u : Value) (Q : St → Hp → Prop), Inv X pins σ H s → RelV v u → t v σ H Q →
    wpAny (model X.prog X.w) X.A (assign target X.env u) (fun _ s' => ∃ σ' H', Inv X pins σ' H' s' ∧ Q σ' H') X.xe s
/-- several targets, one after another -/
def PGs (X : Cx) (ts : List Expr) (t : TGs) : Prop :=
  ∀ (pins : List (Addr × Obj)) (s : Shared) (σ : St) (H : Hp) (vs : List V) (us : List Value) (Q : St → Hp → Prop), Inv X pins σ H s → Vals vs us → t vs σ H Q →
    wpAny (model X.prog X.w) X.A (assignInOrder ((assignEach ts X.env).map (·.2)) us) (fun _ s' => ∃ σ' H', Inv X pins σ' H' s' ∧ Q σ' H') X.xe s
/-- o[i] = v, by values -/
abbrev TSet := V → V → V → Hp → (Hp → Prop) → Prop
def PSet (X : Cx) (t : TSet) : Prop :=
  ∀ (pins : List (Addr × Obj)) (s : Shared) (σ : St) (H : Hp) (o i v : V) (ov iv u : Value) (Q : Hp → Prop), Inv X pins σ H s → RelV o ov → RelV i iv → RelV v u → t o i v H Q →
    wpAny (model X.prog X.w) X.A (setItem ov iv u) (fun _ s' => ∃ H', Inv X pins σ H' s' ∧ Q H') X.xe s
/-- a op= b, by values -/
abbrev TIp := V → V → Hp → VK → Prop
def PIp (X : Cx) (op : Operator) (t : TIp) : Prop :=
  ∀ (pins : List (Addr × Obj)) (s : Shared) (σ : St) (H : Hp) (x y : V) (v u : Value) (Q : VK), Inv X pins σ H s → RelV x v → RelV y u → t x y H Q →
    wpAny (model X.prog X.w) X.A (inplaceOp op v u) (EP X pins σ Q) X.xe s
section
variable {X : Cx} {pos : Pos}
def gName (i : Nat) : TG := fun v σ H Q => Q (σ.set i (some v)) H
theorem pg_name {i : Nat} {x : Str} (hN : X.N.Nodup) (hi : X.N[i]? = some x) (hx : Loc X.env.scope x) (hf : X.fn x = true ∨ X.env.scope.names.lookup x = some .local := by first | exact .inl rfl | exact .inr rfl | assumption) : PG X (.Name x pos) (gName i) := by
  intro pins s σ H v u Q I r h
  exact wpAny_assign_Name (store_ok I hN hi hx r (fun s' I' => ⟨_, H, I', h⟩) hf)
def gNil : TGs := fun vs σ H Q => vs = [] ∧ Q σ H
def gCons (t : TG) (u : TGs) : TGs := fun vs σ H Q => ∃ v r, vs = v :: r ∧ t v σ H fun σ' H' => u r σ' H' Q
theorem pgs_nil : PGs X [] gNil := by
  intro pins s σ H vs us Q I r h
  obtain ⟨e, h⟩ := h
  subst e
  cases r
  exact assignInOrder_nil ⟨σ, H, I, h⟩
theorem pgs_cons {e : Expr} {es : List Expr} {t : TG} {u : TGs} (h1 : PG X e t) (h2 : PGs X es u)
    (hs : (assignEach (e :: es) X.env).map (·.2) = assign e X.env :: (assignEach es X.env).map (·.2) := by rfl) : PGs X (e :: es) (gCons t u) := by
  intro pins s σ H vs us Q I r h
  obtain ⟨v, vr, e1, h⟩ := h
  subst e1
  cases r with
  | cons r rr =>
    rw [hs]
    refine assignInOrder_cons (thn (h1 pins s σ H _ _ _ I r h) fun _ s1 ⟨σ1, H1, I1, q1⟩ => ?_)
    exact h2 pins s1 σ1 H1 _ _ Q I1 rr q1
/-- (a, b, ..) = a tuple of that length -/
def gTup (K : PySem.W.Frag) (n : Nat) (t : TGs) : TG := fun v σ H Q => ∃ a xs, v = .ref a ∧ SqT K H a xs ∧ xs.length = n ∧ t xs σ H Q
theorem pg_tup {es : List Expr} {k : Nat} {t : TGs} {n : Nat} (hc : X.calm = true) (h : PGs X es t)
    (hn : (assignEach es X.env).length = n := by rfl) (hst : (assignEach es X.env).findIdx? (·.1) = none := by rfl) : PG X (.Tuple es k pos) (gTup X.K n t) := by
  intro pins s σ H v u Q I r hw
  obtain ⟨a, xs, e1, hq, hl, hw⟩ := hw
  subst e1
  cases r
  obtain ⟨its, rv, ht, hz⟩ := I.tuple hq
  refine assign_Tuple_tuple (I.ok.hd hc) ht (by simp [hn, ← hl, rv.length]) hst fun h' hx => ?_
  have I1 : Inv X pins σ H { s with heap := h' } := I.kept (t' := s.toks) fun b o e => hx b o (Nat.ne_of_lt (Heap.lt_size e)) e
  exact h pins _ σ H xs _ Q I1 (by simpa using rv) hw
/-- o[i] = .. -/
def gSub (to ti : TE) (t : TSet) : TG := fun v σ H Q => to σ H fun o H1 => ti σ H1 fun i H2 => t o i v H2 fun H3 => Q σ H3
theorem pg_sub {o i : Expr} {to ti : TE} {t : TSet} (ho : PE X o to) (hi : PE X i ti) (hs : PSet X t)
    (ha : ∀ v, assign (.Subscript o i pos) X.env v = (do
      let ov ← holding [v] (eval o X.env)
      let iv ← holding [v, ov] (eval i X.env)
      standAt pos
      holding [v, ov, iv] (setItem ov iv v)
      release [v, ov, iv] []) := by intro _; rfl) : PG X (.Subscript o i pos) (gSub to ti t) := by
  intro pins s σ H v u Q I r h
  rw [ha]
  refine wpAny_bind (wpAny_holding (thn (ho pins s σ H _ I h) fun ov s1 ⟨x, H1, I1, r1, q1⟩ => ?_))
  refine wpAny_bind (wpAny_holding (thn (hi pins s1 σ H1 _ I1 q1) fun iv s2 ⟨y, H2, I2, r2, q2⟩ => ?_))
  refine wpAny_bind (wpAny_standAt (wpAny_bind (wpAny_holding (thn (hs pins s2 σ H2 x y v ov iv u _ I2 r1 r2 r q2) fun _ s3 ⟨H3, I3, q3⟩ => ?_))))
  exact wpAny_release ⟨σ, H3, I3, q3⟩
/-- target = value -/
def tAsg (te : TE) (g : TG) : TS := fun D σ H => te σ H fun x H1 => g x σ H1 D.nx
theorem ps_asg {tg e : Expr} {te : TE} {g : TG} (he : PE X e te) (hg : PG X tg g) (hs : swapsWithSole [tg] e pos.line X.env = pure false := by rfl) (hw : swappedStores [tg] e X.env = pure none := by rfl)
    (h1 : (assignEach [tg] X.env).map (·.2) = [assign tg X.env] := by rfl) : PS X (.Assign [tg] e pos) (tAsg te g) := by
  intro pins s σ H D I h
  refine wpAny_Assign_stores (thn (he pins s σ H _ I h) fun v s1 ⟨x, H1, I1, r1, q1⟩ => ?_) hs hw
  rw [h1]
  exact thn (hg pins s1 σ H1 x v _ I1 r1 q1) fun _ s2 q => q
/-- name = value -/
theorem ps_set {i : Nat} {x : Str} {e : Expr} {te : TE} {pos' : Pos} (hN : X.N.Nodup) (hi : X.N[i]? = some x) (hx : Loc X.env.scope x) (he : PE X e te) (hs : swapsWith e (some (.Name x pos')) pos.line X.env = pure false := by rfl) (hf : X.fn x = true ∨ X.env.scope.names.lookup x = some .local := by first | exact .inl rfl | exact .inr rfl | assumption) :
    PS X (.Assign [.Name x pos'] e pos) (tAsg te (gName i)) := by
  intro pins s σ H D I h
  refine wpAny_Assign_Name (thn (he pins s σ H _ I h) fun v s1 ⟨y, H1, I1, r1, q1⟩ => ?_) hs
  exact store_ok I1 hN hi hx r1 (fun s2 I2 => ⟨_, H1, I2, q1⟩) hf
/-- a, b = x, y with plain local names: stored from the right; the pair itself is not tracked (the opening rows as in PyProof/Rows/TupAssign.lean:23) -/
def tPar (i j : Nat) (ta : TA) : TS := fun D σ H => ta σ H fun vs H1 => ∃ v w, vs = [v, w] ∧ D.nx ((σ.set i (some v)).set j (some w)) H1
/-- name op= e -/
def tAug (i : Nat) (te : TE) (ti : TIp) : TS := fun D σ H => ∃ x, σ[i]? = some (some x) ∧ te σ H fun y H1 => ti x y H1 fun z H2 => D.nx (σ.set i (some z)) H2
/-- o[i] op= e -/
def tAugS (to ti te : TE) (tget : V → V → Hp → VK → Prop) (tip : TIp) (tset : TSet) : TS := fun D σ H => to σ H fun o H1 => ti σ H1 fun i H2 => tget o i H2 fun x H3 => te σ H3 fun y H4 => tip x y H4 fun z H5 => tset o i z H5 fun H6 => D.nx σ H6
/-- o[i], by values -/
def PGet (X : Cx) (t : V → V → Hp → VK → Prop) : Prop :=
  ∀ (pins : List (Addr × Obj)) (s : Shared) (σ : St) (H : Hp) (o i : V) (ov iv : Value) (Q : VK), Inv X pins σ H s → RelV o ov → RelV i iv → t o i H Q →
    wpAny (model X.prog X.w) X.A (getItem ov iv) (EP X pins σ Q) X.xe s
/-- ints -/
def ipI (f : Int → Int → Int) : TIp := fun x y H Q => ∃ i j, x = .int i ∧ y = .int j ∧ Q (.int (f i j)) H
end

/-! ### while -/
section
variable {X : Cx} {pos : Pos}
/-- the invariant W with its measure -/
def tWhile (c : TT) (tb : TS) : TS := fun D σ H => ∃ W : Nat → St → Hp → Prop, (∃ m, W m σ H) ∧ ∀ m σ H, W m σ H →
  c σ H fun b H1 => if b = true then ∃ N : St → Hp → Prop, (∀ σ' H', N σ' H' → ∃ m', m' < m ∧ W m' σ' H') ∧ tb { D with nx := N, ct := N, bk := D.nx } σ H1 else D.nx σ H1
theorem ps_while {c : Expr} {body : List Stmt} {tc : TT} {tb : TS} (hp : PassesOwn (model X.prog X.w) X.A X.env X.xe) (hc : PT X c tc) (hb : PSs X body tb) : PS X (.While c body [] pos) (tWhile tc tb) := by
  intro pins s σ H D I h
  obtain ⟨W, ⟨m0, w0⟩, turn⟩ := h
  refine wpAny_While (codeAny_whileLoop (fun n s' => ∃ σ' H', Inv X pins σ' H' s' ∧ W n σ' H') ?_ m0 ⟨σ, H, I, w0⟩)
  rintro n s1 ⟨σ1, H1, I1, w1⟩
  refine wpAny_passesOwn hp (thn (hc pins s1 σ1 H1 _ I1 (turn n σ1 H1 w1)) fun b s2 ⟨H2, I2, q2⟩ => ?_)
  cases b with
  | true =>
    obtain ⟨N, hN, q2⟩ := q2
    rw [if_pos rfl]
    refine wpAny_passesOwn hp (thn (hb pins s2 σ1 H2 _ I2 q2) fun f s3 q3 => ?_)
    cases f with
    | next =>
      obtain ⟨σ3, H3, I3, n3⟩ := q3
      obtain ⟨m', hm, w3⟩ := hN σ3 H3 n3
      exact ⟨m', hm, σ3, H3, I3, w3⟩
    | cont =>
      obtain ⟨σ3, H3, I3, n3⟩ := q3
      obtain ⟨m', hm, w3⟩ := hN σ3 H3 n3
      exact ⟨m', hm, σ3, H3, I3, w3⟩
    | brk => exact q3
    | ret v => exact q3
  | false =>
    rw [if_neg Bool.false_ne_true]
    exact wpAny_execs_nil ⟨σ1, H2, I2, q2⟩
end

/-! ### what a loop or a comprehension walks -/
/-- at turn i: it yields x (the heap may grow), or it stops -/
structure It where
  go : Nat → Hp → Prop
  yld : Nat → Hp → V → Hp → Prop
  stop : Nat → Hp → Prop
/-- the iterator's own objects may turn: they are not the frame's, not pinned, younger than the entry (or a comprehension's own) -/
def FpOk (X : Cx) (pins : List (Addr × Obj)) (H : Hp) (b : Addr) : Prop :=
  H b = none ∧ b ≠ X.env.locals ∧ b ∉ X.fs ∧ (b ∈ X.ex ∨ X.s₀.heap.objs.size ≤ b) ∧ (∀ x c, X.env.cells.lookup x = some c → c ≠ b) ∧ ∀ p ∈ X.pn ++ pins, p.1 ≠ b
theorem Inv.fpOk {X : Cx} {pins : List (Addr × Obj)} {σ : St} {H H' : Hp} {s : Shared} {b : Addr} (I : Inv X pins σ H s) (hb : s.heap.objs.size ≤ b) (hn : H' b = none) : FpOk X pins H' b := by
  refine ⟨hn, Nat.ne_of_gt (Nat.lt_of_lt_of_le I.lt hb), I.nofs hb, .inr (Nat.le_trans I.sz hb), fun x c e z => ?_, fun p hp z => ?_⟩
  · obtain ⟨v, q⟩ := I.cell x c e
    exact absurd (Nat.lt_of_lt_of_le q.lt (by rw [z]; exact hb)) (Nat.lt_irrefl _)
  · exact absurd (Nat.lt_of_lt_of_le (Heap.lt_size (I.pin p hp).1) (by rw [z]; exact hb)) (Nat.lt_irrefl _)
structure Turn (P : Program) (w : World) (K : PySem.W.Frag) (tg : Expr) (J : It) (fp : List Addr) (it : Addr) (tn : Nat → Heap → Prop) : Prop where
  mem : it ∈ fp
  obj : ∀ i h, tn i h → ∀ b ∈ fp, ∃ o, h.get? b = some o ∧ ∀ v, o.data ≠ .cell v
  keep : ∀ i h h', tn i h → (∀ b ∈ fp, ∀ o, h.get? b = some o → h'.get? b = some o) → tn i h'
  item : ∀ (X : Cx), X.prog = P → X.w = w → X.K = K → X.calm = true → ∀ (i : Nat) (pins : List (Addr × Obj)) (s : Shared) (σ : St) (H : Hp) (E : Value → Shared → Prop), Inv X pins σ H s → (∀ b ∈ fp, FpOk X pins H b) → tn i s.heap → J.go i H →
    wpAny (model P w) X.A (pyNext (.ref it)) (fun r s1 => ∃ u, r = some u ∧
      wpAny (model P w) X.A (letOwnedTupleGo tg (.ref it) u) (fun _ s2 => ∃ x H', Inv X pins σ H' s2 ∧ RelV x u ∧ J.yld i H x H' ∧ tn (i + 1) s2.heap ∧ ∀ b ∈ fp, H' b = none) E s1) E s
  done : ∀ (X : Cx), X.prog = P → X.w = w → X.K = K → X.calm = true → ∀ (i : Nat) (pins : List (Addr × Obj)) (s : Shared) (σ : St) (H : Hp) (E : Value → Shared → Prop), Inv X pins σ H s → (∀ b ∈ fp, FpOk X pins H b) → tn i s.heap → J.stop i H →
    wpAny (model P w) X.A (pyNext (.ref it)) (fun r s1 => r = none ∧ Inv X pins σ H s1) E s
  self : ∀ (A : Around) (i : Nat) (s : Shared) (Q : Value → Shared → Prop) (E : Value → Shared → Prop), tn i s.heap → Q (.ref it) s → wpAny (model P w) A (pyIter (.ref it)) Q E s
abbrev TI := St → Hp → (It → Hp → Prop) → Prop
/-- an iterator has come -/
def PIE (X : Cx) (pins : List (Addr × Obj)) (σ : St) (tg : Expr) (R : It → Hp → Prop) (itv : Value) (s2 : Shared) : Prop :=
  ∃ (it : Addr) (fp : List Addr) (tn : Nat → Heap → Prop) (J : It) (H' : Hp), itv = .ref it ∧ Inv X pins σ H' s2 ∧ Turn X.prog X.w X.K tg J fp it tn ∧ tn 0 s2.heap ∧ (∀ b ∈ fp, FpOk X pins H' b) ∧ R J H'
def PI (X : Cx) (tg iter : Expr) (wi : TI) : Prop :=
  ∀ (pins : List (Addr × Obj)) (s : Shared) (σ : St) (H : Hp) (R : It → Hp → Prop), Inv X pins σ H s → wi σ H R →
    wpAny (model X.prog X.w) X.A (eval iter X.env) (fun v s1 => wpAny (model X.prog X.w) X.A (pyIter v) (PIE X pins σ tg R) X.xe s1) X.xe s

/-- the step ahead of the store is nothing for an iterator that keeps no tuple -/
theorem go_of {M : Model} {A : Around} {E : Value → Shared → Prop} {s : Shared} {tg : Expr} {it : Addr} {u : Value} {o : Obj} {n : String} {vs : Array Value} {Q : Unit → Shared → Prop} (ho : s.heap.get? it = some o) (hc : o.cls = .type n) (hd : o.data = .fields vs)
    (hn : ["enumerate", "zip", "dict_itemiterator", "dict_reverseitemiterator", "odict_iterator", "itertools.zip_longest", "itertools.pairwise"].contains n = false) (hQ : Q () s) : wpAny M A (letOwnedTupleGo tg (.ref it) u) Q E s := by
  unfold letOwnedTupleGo
  cases tg <;> first
    | exact wpAny_pure hQ
    | (cases u <;> first
        | exact wpAny_pure hQ
        | (refine wpAny_bind (wpAny_load ho ?_)
           rw [hc, hd]
           show wpAny M A (if (["enumerate", "zip", "dict_itemiterator", "dict_reverseitemiterator", "odict_iterator", "itertools.zip_longest", "itertools.pairwise"].contains n && vs[0]? == some (rawInt _)) = true then _ else _) Q E s
           rw [if_neg (by intro h; rw [hn, Bool.false_and] at h; cases h)]
           exact wpAny_pure hQ))

/-- the list at a, as it stands at each turn (a loop may append to it) -/
def Itl (K : PySem.W.Frag) (a : Addr) : It :=
  ⟨fun i H => ∃ xs x, SqL K H a xs ∧ xs[i]? = some x, fun i H x H' => H' = H ∧ ∀ xs, SqL K H a xs → xs[i]? = some x, fun i H => ∃ xs, SqL K H a xs ∧ xs.length ≤ i⟩
def Itt (K : PySem.W.Frag) (a : Addr) : It :=
  ⟨fun i H => ∃ xs x, SqT K H a xs ∧ xs[i]? = some x, fun i H x H' => H' = H ∧ ∀ xs, SqT K H a xs → xs[i]? = some x, fun i H => ∃ xs, SqT K H a xs ∧ xs.length ≤ i⟩
/-- lo, lo + 1, .. (n of them) -/
def Itr (lo : Int) (n : Nat) : It := ⟨fun i _ => i < n, fun i H x H' => H' = H ∧ x = .int (lo + i), fun i _ => n ≤ i⟩
theorem turn_list {P : Program} {w : World} {K : PySem.W.Frag} {tg : Expr} (a it : Addr) : Turn P w K tg (Itl K a) [it] it (fun i h => h.IsListIter it a i) where
  mem := by simp
  obj := fun i h st b hb => by
    have e : b = it := by simpa using hb
    subst e
    obtain ⟨o, e, c, d⟩ := st
    exact ⟨o, e, fun v z => by rw [d] at z; cases z⟩
  keep := fun i h h' st k => st.at fun o e => k it (by simp) o e
  item := by
    intro X hP hw hK hc i pins s σ H E I hf st hg
    subst hP hw hK
    obtain ⟨xs, x, hq, hx⟩ := hg
    obtain ⟨its, rv, p, hz⟩ := I.list hq
    obtain ⟨u, hu, ru⟩ := rv.get hx
    obtain ⟨f0, f1, f2, f3, f4, f5⟩ := hf it (by simp)
    refine wpAny_pyNext_list_item st p.isList (x := u) (by simpa using hu) fun h' st' sb => ?_
    have I1 : Inv X pins σ H { s with heap := h' } := I.turned (t' := s.toks) (fun b o hb e => (sb.2 b hb).trans e) f0 f1 f3 f4 f5
    obtain ⟨o, e, c, d⟩ := id st'
    exact ⟨u, rfl, go_of (s := { s with heap := h' }) e c d (by decide) ⟨x, H, I1, ru, ⟨rfl, fun ys hy => by rw [I.list_inj hy hq]; exact hx⟩, st', fun b hb => (hf b hb).1⟩⟩
  done := by
    intro X hP hw hK hc i pins s σ H E I hf st hg
    subst hP hw hK
    obtain ⟨xs, hq, hx⟩ := hg
    obtain ⟨its, rv, p, hz⟩ := I.list hq
    obtain ⟨f0, f1, f2, f3, f4, f5⟩ := hf it (by simp)
    have hl := rv.length
    exact wpAny_pyNext_list_end (I.ok.hd hc) st p.isList (by simp; omega) fun h' eb => ⟨rfl, I.turned (t' := s.toks) (fun b o hb e => eb b o hb e) f0 f1 f3 f4 f5⟩
  self := fun _ _ _ _ _ st h => wpAny_pyIter_listiter st h
theorem turn_tuple {P : Program} {w : World} {K : PySem.W.Frag} {tg : Expr} (a it : Addr) : Turn P w K tg (Itt K a) [it] it (fun i h => h.IsTupleIter it a i) where
  mem := by simp
  obj := fun i h st b hb => by
    have e : b = it := by simpa using hb
    subst e
    obtain ⟨o, e, c, d⟩ := st
    exact ⟨o, e, fun v z => by rw [d] at z; cases z⟩
  keep := fun i h h' st k => st.at fun o e => k it (by simp) o e
  item := by
    intro X hP hw hK hc i pins s σ H E I hf st hg
    subst hP hw hK
    obtain ⟨xs, x, hq, hx⟩ := hg
    obtain ⟨its, rv, p, hz⟩ := I.tuple hq
    obtain ⟨u, hu, ru⟩ := rv.get hx
    obtain ⟨f0, f1, f2, f3, f4, f5⟩ := hf it (by simp)
    refine wpAny_pyNext_tuple_item st (show s.heap.IsTuple a its.toArray from p) (x := u) (by simpa using hu) fun h' st' sb => ?_
    have I1 : Inv X pins σ H { s with heap := h' } := I.turned (t' := s.toks) (fun b o hb e => (sb.2 b hb).trans e) f0 f1 f3 f4 f5
    obtain ⟨o, e, c, d⟩ := id st'
    exact ⟨u, rfl, go_of (s := { s with heap := h' }) e c d (by decide) ⟨x, H, I1, ru, ⟨rfl, fun ys hy => by rw [I.tuple_inj hy hq]; exact hx⟩, st', fun b hb => (hf b hb).1⟩⟩
  done := by
    intro X hP hw hK hc i pins s σ H E I hf st hg
    subst hP hw hK
    obtain ⟨xs, hq, hx⟩ := hg
    obtain ⟨its, rv, p, hz⟩ := I.tuple hq
    obtain ⟨f0, f1, f2, f3, f4, f5⟩ := hf it (by simp)
    have hl := rv.length
    exact wpAny_pyNext_tuple_end (I.ok.hd hc) st (show s.heap.IsTuple a its.toArray from p) (by simp; omega) fun h' eb => ⟨rfl, I.turned (t' := s.toks) (fun b o hb e => eb b o hb e) f0 f1 f3 f4 f5⟩
  self := fun _ _ _ _ _ st h => wpAny_pyIter_tupleiter st h
theorem turn_range {P : Program} {w : World} {K : PySem.W.Frag} {tg : Expr} (it : Addr) (lo : Int) (n : Nat) : Turn P w K tg (Itr lo n) [it] it (fun i h => IsRangeIter h it (lo + (i : Nat) * 1) ((n : Int) - (i : Nat)) 1) where
  mem := by simp
  obj := fun i h st b hb => by
    have e : b = it := by simpa using hb
    subst e
    exact ⟨_, st, fun v z => by
      have z' : Data.fields _ = Data.cell v := z
      cases z'⟩
  keep := fun i h h' st k => k it (by simp) _ st
  item := by
    intro X hP hw hK hc i pins s σ H E I hf st hg
    subst hP hw hK
    obtain ⟨f0, f1, f2, f3, f4, f5⟩ := hf it (by simp)
    have W := Walks.range (prog := X.prog) (w := X.w) (I.ok.hd hc) it lo 1 n
    refine W.item i s _ _ hg st fun v h' tk hv st' kk => ?_
    obtain ⟨t, rfl⟩ := hv
    have I1 : Inv X pins σ H { s with heap := h', toks := tk } := I.turned (fun b o hb e => kk b o (by simpa using hb) e) f0 f1 f3 f4 f5
    refine ⟨_, rfl, go_of (s := { s with heap := h', toks := tk }) (n := "range_iterator") st' rfl rfl (by decide) ⟨.int (lo + i), H, I1, ⟨t, ?_⟩, ⟨rfl, rfl⟩, st', fun b hb => (hf b hb).1⟩⟩
    rw [Int.mul_one]
  done := by
    intro X hP hw hK hc i pins s σ H E I hf st hg
    subst hP hw hK
    obtain ⟨f0, f1, f2, f3, f4, f5⟩ := hf it (by simp)
    exact wpAny_pyNext_range_end (I.ok.hd hc) st (by have : n ≤ i := hg; omega) fun h' eb => ⟨rfl, I.turned (t' := s.toks) (fun b o hb e => eb b o hb e) f0 f1 f3 f4 f5⟩
  self := fun _ _ _ _ _ st h => wpAny_pyIter_rangeiter st h
end L2

namespace L2
open PySem PySem.Spec PyProof.Rows
section
variable {X : Cx} {tg : Expr}
def iList (K : PySem.W.Frag) (tl : TE) : TI := fun σ H R => tl σ H fun x H1 => ∃ a, x = .ref a ∧ (∃ xs, SqL K H1 a xs) ∧ R (Itl K a) H1
def iTup (K : PySem.W.Frag) (tl : TE) : TI := fun σ H R => tl σ H fun x H1 => ∃ a, x = .ref a ∧ (∃ xs, SqT K H1 a xs) ∧ R (Itt K a) H1
theorem pi_list {l : Expr} {tl : TE} (hl : PE X l tl) : PI X tg l (iList X.K tl) := by
  intro pins s σ H R I h
  refine thn (hl pins s σ H _ I h) fun v s1 ⟨x, H1, I1, r1, q1⟩ => ?_
  obtain ⟨a, e, ⟨xs, hq⟩, q⟩ := q1
  subst e
  cases r1
  obtain ⟨its, rv, p, hz⟩ := I1.list hq
  refine wpAny_pyIter_list p.isList ?_
  refine ⟨s1.heap.objs.size, [s1.heap.objs.size], _, _, H1, rfl, I1.kept (t' := s1.toks) fun b o e => Heap.get?_push_of_some _ e, turn_list a _, ⟨_, Heap.get?_push_size _ rfl, rfl, rfl⟩, fun b hb => ?_, q⟩
  have e : b = s1.heap.objs.size := by simpa using hb
  subst e
  exact I1.fpOk (Nat.le_refl _) (I1.hok.fresh (Nat.le_refl _))
theorem pi_tup {l : Expr} {tl : TE} (hl : PE X l tl) : PI X tg l (iTup X.K tl) := by
  intro pins s σ H R I h
  refine thn (hl pins s σ H _ I h) fun v s1 ⟨x, H1, I1, r1, q1⟩ => ?_
  obtain ⟨a, e, ⟨xs, hq⟩, q⟩ := q1
  subst e
  cases r1
  obtain ⟨its, rv, p, hz⟩ := I1.tuple hq
  refine wpAny_pyIter_tuple (show s1.heap.IsTuple a its.toArray from p) ?_
  refine ⟨s1.heap.objs.size, [s1.heap.objs.size], _, _, H1, rfl, I1.kept (t' := s1.toks) fun b o e => Heap.get?_push_of_some _ e, turn_tuple a _, ⟨_, Heap.get?_push_size _ rfl, rfl, rfl⟩, fun b hb => ?_, q⟩
  have e : b = s1.heap.objs.size := by simpa using hb
  subst e
  exact I1.fpOk (Nat.le_refl _) (I1.hok.fresh (Nat.le_refl _))
/-- a range object just made, walked -/
theorem range_it {pins : List (Addr × Obj)} {σ : St} {H : Hp} {s : Shared} {R : It → Hp → Prop} {E : Value → Shared → Prop} {lo hi : Int} {t u v : Tok} {tk : Nat} (I : Inv X pins σ H s) (h1 : -(2 ^ 62) ≤ lo) (h2 : lo < 2 ^ 62) (h3 : -(2 ^ 62) ≤ hi) (h4 : hi < 2 ^ 62)
    (q : R (Itr lo (hi - lo).toNat) H) : wpAny (model X.prog X.w) X.A (pyIter (.ref s.heap.objs.size)) (PIE X pins σ tg R) E { s with heap := s.heap.push { cls := .type "range", data := .fields #[.int lo t, .int hi u, .int 1 v] }, toks := tk } := by
  refine wpAny_pyIter_range (IsRange.new ..) (small_one h1 h2 h3 h4) ?_
  have I1 : Inv X pins σ H { s with heap := s.heap.push { cls := .type "range", data := .fields #[.int lo t, .int hi u, .int 1 v] }, toks := tk } := I.kept fun b o e => Heap.get?_push_of_some _ e
  refine ⟨(s.heap.push { cls := .type "range", data := .fields #[.int lo t, .int hi u, .int 1 v] }).objs.size, [(s.heap.push { cls := .type "range", data := .fields #[.int lo t, .int hi u, .int 1 v] }).objs.size], _, _, H, rfl,
    I1.kept (t' := tk) fun b o e => Heap.get?_push_of_some _ e, turn_range _ lo (hi - lo).toNat, ?_, fun b hb => ?_, q⟩
  · have e1 : lo + ((0 : Nat) : Int) * 1 = lo := by simp
    have e2 : (((hi - lo).toNat : Nat) : Int) - ((0 : Nat) : Int) = Builtin.Range.rangeSize lo hi 1 := by rw [rangeSize_one]; split <;> omega
    show IsRangeIter _ _ (lo + ((0 : Nat) : Int) * 1) ((((hi - lo).toNat : Nat) : Int) - ((0 : Nat) : Int)) 1
    rw [e1, e2]
    exact Heap.get?_push_size _ rfl
  · have e : b = (s.heap.push { cls := .type "range", data := .fields #[.int lo t, .int hi u, .int 1 v] }).objs.size := by simpa using hb
    subst e
    exact I1.fpOk (Nat.le_refl _) (I1.hok.fresh (Nat.le_refl _))
def iRng1 (ta : TA) : TI := fun σ H R => ta σ H fun vs H1 => ∃ j : Int, vs = [.int j] ∧ -(2 ^ 62) ≤ j ∧ j < 2 ^ 62 ∧ R (Itr 0 j.toNat) H1
def iRng2 (ta : TA) : TI := fun σ H R => ta σ H fun vs H1 => ∃ i j : Int, vs = [.int i, .int j] ∧ (-(2 ^ 62) ≤ i ∧ i < 2 ^ 62 ∧ -(2 ^ 62) ≤ j ∧ j < 2 ^ 62) ∧ R (Itr i (j - i).toNat) H1
theorem pi_range1 {a : Expr} {ta : TA} {p pos : Pos} (hg : Gl X "range") (hm : X.mg "range" = none) (ha : PA X [a] ta) (hs : starEach [a] X.env = [(false, eval a X.env)] := by rfl) : PI X tg (.Call (.Name "range" p) [a] [] pos) (iRng1 ta) := by
  intro pins s σ H R I h
  refine Call_ (ld_blt I hg hm boot_range (PyProof.Rows.callWith_type1 (thn (ha pos pins s σ H _ I h) fun us s1 ⟨vs, H1, I1, r1, q1⟩ => ?_) hs rfl))
  obtain ⟨j, e, q1, q2, q⟩ := q1
  subst e
  cases r1 with
  | cons r rr =>
    cases rr
    obtain ⟨t, rfl⟩ := r
    exact call_range_1 (range_it I1 (by omega) (by omega) q1 q2 (by simpa using q))

/-! ### for -/
/-- W: the invariant by the turn and a measure; N: what the body is to reach -/
def tFor (wi : TI) (g : TG) (tb : TS) : TS := fun D σ H => wi σ H fun J H1 => ∃ W : Nat → Nat → St → Hp → Prop, (∃ m, W 0 m σ H1) ∧ ∀ i m σ H, W i m σ H →
  (J.stop i H ∧ D.nx σ H) ∨ (J.go i H ∧ ∃ N : St → Hp → Prop, (∀ σ' H', N σ' H' → ∃ m', m' < m ∧ W (i + 1) m' σ' H') ∧ ∀ x H', J.yld i H x H' → g x σ H' fun σ2 H2 => tb { D with nx := N, ct := N, bk := D.nx } σ2 H2)
/-- the records at fp as they stand -/
def pinsAt (fp : List Addr) (h : Heap) : List (Addr × Obj) := fp.filterMap fun b => (h.get? b).map fun o => (b, o)
theorem mem_pinsAt {fp : List Addr} {h : Heap} {b : Addr} {o : Obj} (hb : b ∈ fp) (e : h.get? b = some o) : (b, o) ∈ pinsAt fp h := List.mem_filterMap.mpr ⟨b, hb, by rw [e]; rfl⟩
theorem of_pinsAt {fp : List Addr} {h : Heap} {p : Addr × Obj} (hp : p ∈ pinsAt fp h) : p.1 ∈ fp ∧ h.get? p.1 = some p.2 := by
  obtain ⟨b, hb, e⟩ := List.mem_filterMap.mp hp
  cases q : h.get? b with
  | none => rw [q] at e; cases e
  | some o =>
    rw [q] at e
    have e' : (b, o) = p := Option.some.inj e
    subst e'
    exact ⟨hb, q⟩
theorem Inv.pinned {pins : List (Addr × Obj)} {σ : St} {H : Hp} {s : Shared} {fp : List Addr} (I : Inv X pins σ H s) (hf : ∀ b ∈ fp, FpOk X pins H b) (ho : ∀ b ∈ fp, ∃ o, s.heap.get? b = some o ∧ ∀ v, o.data ≠ .cell v) : Inv X (pins ++ pinsAt fp s.heap) σ H s :=
  I.pins_of fun p hp => (List.mem_append.mp hp).elim (fun z => I.pin p (List.mem_append_right _ z)) fun z => by
    obtain ⟨hb, e⟩ := of_pinsAt z
    obtain ⟨f0, f1, f2, _⟩ := hf p.1 hb
    obtain ⟨o, e', d⟩ := ho p.1 hb
    rw [e] at e'; cases e'
    exact ⟨e, f0, f1, f2, d⟩
theorem Inv.unpinned {pins pl : List (Addr × Obj)} {σ : St} {H : Hp} {s : Shared} (I : Inv X (pins ++ pl) σ H s) : Inv X pins σ H s := I.pins_of fun p hp => I.pin p (List.mem_append_right _ (List.mem_append_left _ hp))
theorem ps_for {iter : Expr} {body : List Stmt} {wi : TI} {g : TG} {tb : TS} {pos : Pos} (hp : PassesOwn (model X.prog X.w) X.A X.env X.xe) (hc : X.calm = true) (hi : PI X tg iter wi) (hg : PG X tg g) (hb : PSs X body tb)
    (hs : ∀ x, foldedSetIterable iter X.env x = pure x := by intro _; rfl) : PS X (.For tg iter body [] pos) (tFor wi g tb) := by
  intro pins s σ H D I h
  refine wpAny_For (thn (hi pins s σ H _ I h) fun v s1 h1 => thn h1 fun itv s2 h2 => ?_) hs
  obtain ⟨it, fp, tn, J, H2, e, I2, T, st2, f2, W, ⟨m0, w0⟩, turn⟩ := h2
  subst e
  -- what stays true of the iterator's objects through the loop
  have stat : ∀ {H' : Hp}, (∀ b ∈ fp, H' b = none) → ∀ b ∈ fp, FpOk X pins H' b := fun hn b hb => ⟨hn b hb, (f2 b hb).2⟩
  refine codeAny_forLoop_any (fun n s' => ∃ i σ' H', Inv X pins σ' H' s' ∧ tn i s'.heap ∧ (∀ b ∈ fp, H' b = none) ∧ W i n σ' H') ?_ m0 ⟨0, σ, H2, I2, st2, fun b hb => (f2 b hb).1, w0⟩
  rintro n s3 ⟨i, σ3, H3, I3, st3, fr3, w3⟩
  rcases turn i n σ3 H3 w3 with ⟨stop, qn⟩ | ⟨go, N, hN, step⟩
  · refine wpAny_passesOwn hp (thn (T.done X rfl rfl rfl hc i pins s3 σ3 H3 X.xe I3 (stat fr3) st3 stop) fun r s4 ⟨hr, I4⟩ => ?_)
    subst hr
    exact wpAny_execs_nil ⟨σ3, H3, I4, qn⟩
  · refine wpAny_passesOwn hp (thn (T.item X rfl rfl rfl hc i pins s3 σ3 H3 X.xe I3 (stat fr3) st3 go) fun r s4 ⟨u, hr, h4⟩ => ?_)
    subst hr
    refine wpAny_passesOwn hp (thn h4 fun _ s5 ⟨x, H5, I5, r5, y5, st5, fr5⟩ => ?_)
    have I5' := I5.pinned (stat fr5) (T.obj _ _ st5)
    refine wpAny_passesOwn hp (thn (hg _ s5 σ3 H5 x u _ I5' r5 (step x H5 y5)) fun _ s6 ⟨σ6, H6, I6, q6⟩ => ?_)
    refine wpAny_passesOwn hp (thn (hb _ s6 σ6 H6 _ I6 q6) fun f s7 q7 => ?_)
    have again : ∀ {σ7 : St} {H7 : Hp}, Inv X (pins ++ pinsAt fp s5.heap) σ7 H7 s7 → N σ7 H7 → ∃ m, m < n ∧ ∃ i σ' H', Inv X pins σ' H' s7 ∧ tn i s7.heap ∧ (∀ b ∈ fp, H' b = none) ∧ W i m σ' H' := fun {σ7 H7} I7 n7 => by
      obtain ⟨m', hm, w7⟩ := hN σ7 H7 n7
      refine ⟨m', hm, i + 1, σ7, H7, I7.unpinned, T.keep _ _ _ st5 fun b hb o e => (I7.pin (b, o) (List.mem_append_right _ (List.mem_append_right _ (mem_pinsAt hb e)))).1, fun b hb => ?_, w7⟩
      obtain ⟨o, e, d⟩ := T.obj _ _ st5 b hb
      exact (I7.pin (b, o) (List.mem_append_right _ (List.mem_append_right _ (mem_pinsAt hb e)))).2.1
    cases f with
    | next => obtain ⟨σ7, H7, I7, n7⟩ := q7; exact again I7 n7
    | cont => obtain ⟨σ7, H7, I7, n7⟩ := q7; exact again I7 n7
    | brk => obtain ⟨σ7, H7, I7, q7⟩ := q7; exact ⟨σ7, H7, I7.unpinned, q7⟩
    | ret v => obtain ⟨x7, σ7, H7, I7, r7, q7⟩ := q7; exact ⟨x7, σ7, H7, I7.unpinned, r7, q7⟩
end

/-! ### the forms one uses -/
/-- over a list that the body leaves as it is -/
theorem for_list {K : PySem.W.Frag} {a : Addr} {xs : List V} {g : TG} {tb : TS} {D : Ends} {σ : St} {H : Hp} (Pv : Nat → St → Hp → Prop) (h0 : Pv 0 σ H) (hl : ∀ i σ H, i ≤ xs.length → Pv i σ H → SqL K H a xs)
    (hs : ∀ i x σ H, xs[i]? = some x → Pv i σ H → g x σ H fun σ2 H2 => tb { D with nx := Pv (i + 1), ct := Pv (i + 1), bk := D.nx } σ2 H2) (hd : ∀ σ H, Pv xs.length σ H → D.nx σ H) :
    ∃ W : Nat → Nat → St → Hp → Prop, (∃ m, W 0 m σ H) ∧ ∀ i m σ H, W i m σ H →
      ((Itl K a).stop i H ∧ D.nx σ H) ∨ ((Itl K a).go i H ∧ ∃ N : St → Hp → Prop, (∀ σ' H', N σ' H' → ∃ m', m' < m ∧ W (i + 1) m' σ' H') ∧ ∀ x H', (Itl K a).yld i H x H' → g x σ H' fun σ2 H2 => tb { D with nx := N, ct := N, bk := D.nx } σ2 H2) := by
  refine ⟨fun i m σ H => m = xs.length - i ∧ i ≤ xs.length ∧ Pv i σ H, ⟨xs.length, by simp, Nat.zero_le _, h0⟩, ?_⟩
  rintro i m σ H ⟨rfl, hi, p⟩
  have q := hl i σ H hi p
  by_cases hlt : i < xs.length
  · refine .inr ⟨⟨xs, xs[i], q, by simp [hlt]⟩, Pv (i + 1), fun σ' H' p' => ⟨xs.length - (i + 1), by omega, rfl, hlt, p'⟩, fun x H' y => ?_⟩
    obtain ⟨e, y⟩ := y
    subst e
    exact hs i x σ _ (y xs q) p
  · have e : i = xs.length := by omega
    subst e
    exact .inl ⟨⟨xs, q, Nat.le_refl _⟩, hd σ H p⟩
theorem for_tup {K : PySem.W.Frag} {a : Addr} {xs : List V} {g : TG} {tb : TS} {D : Ends} {σ : St} {H : Hp} (Pv : Nat → St → Hp → Prop) (h0 : Pv 0 σ H) (hl : ∀ i σ H, i ≤ xs.length → Pv i σ H → SqT K H a xs)
    (hs : ∀ i x σ H, xs[i]? = some x → Pv i σ H → g x σ H fun σ2 H2 => tb { D with nx := Pv (i + 1), ct := Pv (i + 1), bk := D.nx } σ2 H2) (hd : ∀ σ H, Pv xs.length σ H → D.nx σ H) :
    ∃ W : Nat → Nat → St → Hp → Prop, (∃ m, W 0 m σ H) ∧ ∀ i m σ H, W i m σ H →
      ((Itt K a).stop i H ∧ D.nx σ H) ∨ ((Itt K a).go i H ∧ ∃ N : St → Hp → Prop, (∀ σ' H', N σ' H' → ∃ m', m' < m ∧ W (i + 1) m' σ' H') ∧ ∀ x H', (Itt K a).yld i H x H' → g x σ H' fun σ2 H2 => tb { D with nx := N, ct := N, bk := D.nx } σ2 H2) := by
  refine ⟨fun i m σ H => m = xs.length - i ∧ i ≤ xs.length ∧ Pv i σ H, ⟨xs.length, by simp, Nat.zero_le _, h0⟩, ?_⟩
  rintro i m σ H ⟨rfl, hi, p⟩
  have q := hl i σ H hi p
  by_cases hlt : i < xs.length
  · refine .inr ⟨⟨xs, xs[i], q, by simp [hlt]⟩, Pv (i + 1), fun σ' H' p' => ⟨xs.length - (i + 1), by omega, rfl, hlt, p'⟩, fun x H' y => ?_⟩
    obtain ⟨e, y⟩ := y
    subst e
    exact hs i x σ _ (y xs q) p
  · have e : i = xs.length := by omega
    subst e
    exact .inl ⟨⟨xs, q, Nat.le_refl _⟩, hd σ H p⟩
theorem for_range {lo : Int} {n : Nat} {g : TG} {tb : TS} {D : Ends} {σ : St} {H : Hp} (Pv : Nat → St → Hp → Prop) (h0 : Pv 0 σ H)
    (hs : ∀ i σ H, i < n → Pv i σ H → g (.int (lo + i)) σ H fun σ2 H2 => tb { D with nx := Pv (i + 1), ct := Pv (i + 1), bk := D.nx } σ2 H2) (hd : ∀ σ H, Pv n σ H → D.nx σ H) :
    ∃ W : Nat → Nat → St → Hp → Prop, (∃ m, W 0 m σ H) ∧ ∀ i m σ H, W i m σ H →
      ((Itr lo n).stop i H ∧ D.nx σ H) ∨ ((Itr lo n).go i H ∧ ∃ N : St → Hp → Prop, (∀ σ' H', N σ' H' → ∃ m', m' < m ∧ W (i + 1) m' σ' H') ∧ ∀ x H', (Itr lo n).yld i H x H' → g x σ H' fun σ2 H2 => tb { D with nx := N, ct := N, bk := D.nx } σ2 H2) := by
  refine ⟨fun i m σ H => m = n - i ∧ i ≤ n ∧ Pv i σ H, ⟨n, by simp, Nat.zero_le _, h0⟩, ?_⟩
  rintro i m σ H ⟨rfl, hi, p⟩
  by_cases hlt : i < n
  · refine .inr ⟨hlt, Pv (i + 1), fun σ' H' p' => ⟨n - (i + 1), by omega, rfl, hlt, p'⟩, fun x H' y => ?_⟩
    obtain ⟨e, y⟩ := y
    subst e y
    exact hs i σ _ hlt p
  · have e : i = n := by omega
    subst e
    exact .inl ⟨Nat.le_refl _, hd σ H p⟩
end L2

namespace L2
open PySem PySem.Spec PyProof.Rows

abbrev R2 := V → V → Hp → VK → Prop
/-- a two-place operation on values: f is binaryOp op, inplaceOp op or compareOp op -/
def OpR (X : Cx) (f : Value → Value → Sem Value) (r : R2) : Prop :=
  ∀ (pins : List (Addr × Obj)) (s : Shared) (σ : St) (H : Hp) (x y : V) (v u : Value) (Q : VK), Inv X pins σ H s → RelV x v → RelV y u → r x y H Q →
    wpAny (model X.prog X.w) X.A (f v u) (EP X pins σ Q) X.xe s
/-- a one-place operation -/
def UnR (X : Cx) (f : Value → Sem Value) (r : V → Hp → VK → Prop) : Prop :=
  ∀ (pins : List (Addr × Obj)) (s : Shared) (σ : St) (H : Hp) (x : V) (v : Value) (Q : VK), Inv X pins σ H s → RelV x v → r x H Q →
    wpAny (model X.prog X.w) X.A (f v) (EP X pins σ Q) X.xe s
/-- a call of a value that is known (a builtin, a type) with values -/
def CallR (X : Cx) (f : Value) (r : List V → Hp → VK → Prop) : Prop :=
  ∀ (pins : List (Addr × Obj)) (s : Shared) (σ : St) (H : Hp) (xs : List V) (us : List Value) (Q : VK), Inv X pins σ H s → Vals xs us → r xs H Q →
    wpAny (model X.prog X.w) X.A (call f us) (EP X pins σ Q) X.xe s
/-- a value's truth -/
def TruR (X : Cx) (r : V → Hp → (Bool → Hp → Prop) → Prop) : Prop :=
  ∀ (pins : List (Addr × Obj)) (s : Shared) (σ : St) (H : Hp) (x : V) (v : Value) (Q : Bool → Hp → Prop), Inv X pins σ H s → RelV x v → r x H Q →
    wpAny (model X.prog X.w) X.A (truthy v) (TP X pins σ Q) X.xe s

def tOp (r : R2) (ta tb : TE) : TE := fun σ H Q => ta σ H fun x H1 => tb σ H1 fun y H2 => r x y H2 Q
def tUn (r : V → Hp → VK → Prop) (ta : TE) : TE := fun σ H Q => ta σ H fun x H1 => r x H1 Q
/-- ints in, under C, and a value out -/
def rI (C : Int → Int → Prop) (g : Int → Int → V) : R2 := fun x y H Q => ∃ i j, x = .int i ∧ y = .int j ∧ C i j ∧ Q (g i j) H
def rI0 (g : Int → Int → V) : R2 := fun x y H Q => ∃ i j, x = .int i ∧ y = .int j ∧ Q (g i j) H
def rU (g : Int → V) : V → Hp → VK → Prop := fun x H Q => ∃ i, x = .int i ∧ Q (g i) H

section
variable {X : Cx} {a b c : Expr} {ta tb tc : TE} {pos : Pos}

theorem binT (ha : PE X a ta) (hb : PE X b tb) {pins : List (Addr × Obj)} {s : Shared} {σ : St} {H : Hp} {R : V → V → Hp → Prop} (I : Inv X pins σ H s)
    (h : ta σ H fun x H1 => tb σ H1 fun y H2 => R x y H2) {Q : Value → Shared → Prop} {f : Value → Value → Sem Value}
    (hf : ∀ v u s2 x y H2, Inv X pins σ H2 s2 → RelV x v → RelV y u → R x y H2 → wpAny (model X.prog X.w) X.A (f v u) Q X.xe s2) :
    wpAny (model X.prog X.w) X.A (eval a X.env) (fun v s₁ => wpAny (model X.prog X.w) X.A (eval b X.env) (fun u s₂ => wpAny (model X.prog X.w) X.A (f v u) Q X.xe s₂) X.xe s₁) X.xe s := by
  refine thn (ha pins s σ H _ I h) fun v s1 ⟨x, H1, I1, r1, q1⟩ => ?_
  refine thn (hb pins s1 σ H1 _ I1 q1) fun u s2 ⟨y, H2, I2, r2, q2⟩ => ?_
  exact hf v u s2 x y H2 I2 r1 r2 q2

theorem pe_op {op : Operator} {r : R2} (ho : OpR X (binaryOp op) r) (ha : PE X a ta) (hb : PE X b tb) : PE X (.BinOp a op b pos) (tOp r ta tb) := by
  intro pins s σ H Q I h
  exact wpAny_BinOp (binT ha hb I h fun v u s2 x y H2 I2 rx ry q => ho pins s2 σ H2 x y v u Q I2 rx ry q)

/-! ### ints -/
theorem opI {f : Value → Value → Sem Value} {C : Int → Int → Prop} {g : Int → Int → Int}
    (rule : ∀ (i j : Int) (t u : Tok) (s : Shared) (Q : Value → Shared → Prop) (E : Value → Shared → Prop), C i j → Q (.int (g i j) s.toks) { s with toks := s.toks + 1 } → wpAny (model X.prog X.w) X.A (f (.int i t) (.int j u)) Q E s) :
    OpR X f (rI C fun i j => .int (g i j)) := by
  intro pins s σ H x y v u Q I rx ry h
  obtain ⟨i, j, rfl, rfl, hc, q⟩ := h
  obtain ⟨t, rfl⟩ := rx
  obtain ⟨t', rfl⟩ := ry
  exact rule i j t t' s _ _ hc ⟨.int (g i j), H, I.tok _, ⟨_, rfl⟩, q⟩
theorem opI0 {f : Value → Value → Sem Value} {g : Int → Int → Int}
    (rule : ∀ (i j : Int) (t u : Tok) (s : Shared) (Q : Value → Shared → Prop) (E : Value → Shared → Prop), Q (.int (g i j) s.toks) { s with toks := s.toks + 1 } → wpAny (model X.prog X.w) X.A (f (.int i t) (.int j u)) Q E s) :
    OpR X f (rI0 fun i j => .int (g i j)) := by
  intro pins s σ H x y v u Q I rx ry h
  obtain ⟨i, j, rfl, rfl, q⟩ := h
  obtain ⟨t, rfl⟩ := rx
  obtain ⟨t', rfl⟩ := ry
  exact rule i j t t' s _ _ ⟨.int (g i j), H, I.tok _, ⟨_, rfl⟩, q⟩
theorem opB0 {f : Value → Value → Sem Value} {g : Int → Int → Bool}
    (rule : ∀ (i j : Int) (t u : Tok) (s : Shared) (Q : Value → Shared → Prop) (E : Value → Shared → Prop), Q (.bool (g i j)) s → wpAny (model X.prog X.w) X.A (f (.int i t) (.int j u)) Q E s) :
    OpR X f (rI0 fun i j => .bl (g i j)) := by
  intro pins s σ H x y v u Q I rx ry h
  obtain ⟨i, j, rfl, rfl, q⟩ := h
  obtain ⟨t, rfl⟩ := rx
  obtain ⟨t', rfl⟩ := ry
  exact rule i j t t' s _ _ ⟨.bl (g i j), H, I, rfl, q⟩

def CDiv (i j : Int) : Prop := 0 < j ∧ j < 1073741824
def CDivN (i j : Int) : Prop := j ≠ 0 ∧ j.natAbs < 1073741824
def CPow (i j : Int) : Prop := 0 ≤ j ∧ j ≤ 1000000 ∧ i.natAbs < 2 ^ 64
def CMul (i j : Int) : Prop := (-(2 ^ 64) < i ∧ i < 2 ^ 64) ∨ (-(2 ^ 64) < j ∧ j < 2 ^ 64)
theorem CMul.ok {i j : Int} (h : CMul i j) : IntMulOk i j := by
  rcases h with ⟨h1, h2⟩ | ⟨h1, h2⟩
  · exact .of_left (intBits_le_64 h1 h2)
  · exact .of_right (intBits_le_64 h1 h2)

theorem op_add : OpR X (binaryOp .Add) (rI0 fun i j => .int (i + j)) := opI0 fun _ _ _ _ _ _ _ q => add_int q
theorem op_sub : OpR X (binaryOp .Sub) (rI0 fun i j => .int (i - j)) := opI0 fun _ _ _ _ _ _ _ q => sub_int q
theorem op_mul : OpR X (binaryOp .Mult) (rI CMul fun i j => .int (i * j)) := opI fun _ _ _ _ _ _ _ hc q => mul_int q hc.ok
/-- // by a positive divisor -/
theorem op_fdiv : OpR X (binaryOp .FloorDiv) (rI CDiv fun i j => .int (i / j)) := opI fun i j _ _ _ _ _ hc q => by
  have h1 : (0 : Int) < j := hc.1
  have h2 : j < 1073741824 := hc.2
  exact floordiv_int (by omega) (by rw [Int.fdiv_eq_ediv_of_nonneg i (by omega)]; exact q) (.inl (PyProof.noPylong_small (by omega)))
/-- % by a positive divisor of any size -/
theorem op_mod : OpR X (binaryOp .Mod) (rI (fun _ j => 0 < j) fun i j => .int (i % j)) := opI fun i j _ _ _ _ _ hc q => by
  have h1 : (0 : Int) < j := hc
  exact mod_int' (by omega) (by rw [Int.fmod_eq_emod_of_nonneg i (by omega)]; exact q)
theorem op_pow : OpR X (binaryOp .Pow) (rI CPow fun i j => .int (i ^ j.toNat)) := opI fun _ _ _ _ _ _ _ hc q => pow_int_small hc.1 hc.2.1 hc.2.2 q
theorem op_shl : OpR X (binaryOp .LShift) (rI CPow fun i j => .int (i * 2 ^ j.toNat)) := opI fun _ _ _ _ _ _ _ hc q => lshift_int_small hc.1 hc.2.1 hc.2.2 q



/-! ### bools among ints: n += (a < b) -/
end

/-! ### comparisons -/
/-- the scalars that == tells apart as data does -/
def scal : V → V → Bool
  | .non, .non => true | .non, .int _ => true | .int _, .non => true | .non, .bl _ => true | .bl _, .non => true | .non, .str _ => true | .str _, .non => true
  | .int _, .int _ => true | .bl _, .bl _ => true | .str _, .str _ => true | .byt _, .byt _ => true
  | .int _, .str _ => true | .str _, .int _ => true | .bl _, .str _ => true | .str _, .bl _ => true
  | _, _ => false
def rEq : R2 := fun x y H Q => scal x y = true ∧ Q (.bl (decide (x = y))) H
def rNe : R2 := fun x y H Q => scal x y = true ∧ Q (.bl (!decide (x = y))) H

theorem dec_int {i j : Int} : decide (V.int i = V.int j) = (i == j) := by
  rw [Bool.eq_iff_iff]
  simp
theorem dec_bl {i j : Bool} : decide (V.bl i = V.bl j) = (i == j) := by
  rw [Bool.eq_iff_iff]
  simp
theorem dec_str {i j : Str} : decide (V.str i = V.str j) = (i == j) := by
  rw [Bool.eq_iff_iff]
  simp
theorem dec_byt {i j : Array UInt8} : decide (V.byt i = V.byt j) = (i.toList == j.toList) := by
  rw [Bool.eq_iff_iff]
  cases i
  cases j
  simp

section
variable {X : Cx} {a b c : Expr} {ta tb tc : TE} {pos : Pos}
theorem fin_bl {pins : List (Addr × Obj)} {σ : St} {H : Hp} {s : Shared} {Q : VK} {k k' : Bool} (I : Inv X pins σ H s) (q : Q (.bl k) H) (e : k = k') : EP X pins σ Q (.bool k') s := by
  subst e
  exact ⟨.bl k, H, I, rfl, q⟩
theorem op_eq : OpR X (compareOp .Eq) rEq := by
  intro pins s σ H x y v u Q I rx ry h
  obtain ⟨hs, q⟩ := h
  cases x with
  | non =>
    cases rx
    cases y with
    | non => cases ry; exact PySem.EqNone.eq_none_none (fin_bl I q (by simp))
    | bl j => cases ry; exact PySem.EqNone.eq_none_bool (fin_bl I q (by simp))
    | int j => obtain ⟨t', rfl⟩ := ry; exact PySem.EqNone.eq_none_int (fin_bl I q (by simp))
    | str j => obtain ⟨t', rfl⟩ := ry; exact PySem.EqNone.eq_none_str (fin_bl I q (by simp))
    | _ => exact absurd (show false = true from hs) Bool.false_ne_true
  | bl i =>
    cases rx
    cases y with
    | non => cases ry; exact PySem.EqNone.eq_bool_none (fin_bl I q (by simp))
    | bl j => cases ry; exact eq_bool (fin_bl I q dec_bl)
    | str j => obtain ⟨t', rfl⟩ := ry; exact PySem.EqMixed.eq_bool_str (fin_bl I q (by simp))
    | _ => exact absurd (show false = true from hs) Bool.false_ne_true
  | int i =>
    obtain ⟨t, rfl⟩ := rx
    cases y with
    | non => cases ry; exact PySem.EqNone.eq_int_none (fin_bl I q (by simp))
    | int j => obtain ⟨t', rfl⟩ := ry; exact eq_int (fin_bl I q dec_int)
    | str j => obtain ⟨t', rfl⟩ := ry; exact PySem.EqMixed.eq_int_str (fin_bl I q (by simp))
    | _ => exact absurd (show false = true from hs) Bool.false_ne_true
  | str i =>
    obtain ⟨t, rfl⟩ := rx
    cases y with
    | non => cases ry; exact PySem.EqNone.eq_str_none (fin_bl I q (by simp))
    | bl j => cases ry; exact PySem.EqMixed.eq_str_bool (fin_bl I q (by simp))
    | int j => obtain ⟨t', rfl⟩ := ry; exact PySem.EqMixed.eq_str_int (fin_bl I q (by simp))
    | str j => obtain ⟨t', rfl⟩ := ry; exact eq_str (fin_bl I q dec_str)
    | _ => exact absurd (show false = true from hs) Bool.false_ne_true
  | byt i =>
    obtain ⟨t, rfl⟩ := rx
    cases y with
    | byt j => obtain ⟨t', rfl⟩ := ry; exact PySem.W.eq_bytes (fin_bl I q dec_byt)
    | _ => exact absurd (show false = true from hs) Bool.false_ne_true
  | _ => cases y <;> exact absurd (show false = true from hs) Bool.false_ne_true
theorem op_ne : OpR X (compareOp .NotEq) rNe := by
  intro pins s σ H x y v u Q I rx ry h
  obtain ⟨hs, q⟩ := h
  cases x with
  | non =>
    cases rx
    cases y with
    | non => cases ry; exact PySem.EqNone.ne_none_none (fin_bl I q (by simp))
    | bl j => cases ry; exact PySem.EqNone.ne_none_bool (fin_bl I q (by simp))
    | int j => obtain ⟨t', rfl⟩ := ry; exact PySem.EqNone.ne_none_int (fin_bl I q (by simp))
    | str j => obtain ⟨t', rfl⟩ := ry; exact PySem.EqNone.ne_none_str (fin_bl I q (by simp))
    | _ => exact absurd (show false = true from hs) Bool.false_ne_true
  | bl i =>
    cases rx
    cases y with
    | non => cases ry; exact PySem.EqNone.ne_bool_none (fin_bl I q (by simp))
    | bl j => cases ry; exact ne_bool (fin_bl I q (congrArg not dec_bl))
    | str j => obtain ⟨t', rfl⟩ := ry; exact PySem.EqMixed.ne_bool_str (fin_bl I q (by simp))
    | _ => exact absurd (show false = true from hs) Bool.false_ne_true
  | int i =>
    obtain ⟨t, rfl⟩ := rx
    cases y with
    | non => cases ry; exact PySem.EqNone.ne_int_none (fin_bl I q (by simp))
    | int j => obtain ⟨t', rfl⟩ := ry; exact ne_int (fin_bl I q (congrArg not dec_int))
    | str j => obtain ⟨t', rfl⟩ := ry; exact PySem.EqMixed.ne_int_str (fin_bl I q (by simp))
    | _ => exact absurd (show false = true from hs) Bool.false_ne_true
  | str i =>
    obtain ⟨t, rfl⟩ := rx
    cases y with
    | non => cases ry; exact PySem.EqNone.ne_str_none (fin_bl I q (by simp))
    | bl j => cases ry; exact PySem.EqMixed.ne_str_bool (fin_bl I q (by simp))
    | int j => obtain ⟨t', rfl⟩ := ry; exact PySem.EqMixed.ne_str_int (fin_bl I q (by simp))
    | str j => obtain ⟨t', rfl⟩ := ry; exact ne_str (fin_bl I q (congrArg not dec_str))
    | _ => exact absurd (show false = true from hs) Bool.false_ne_true
  | byt i =>
    obtain ⟨t, rfl⟩ := rx
    cases y with
    | byt j => obtain ⟨t', rfl⟩ := ry; exact PySem.W.ne_bytes (fin_bl I q (congrArg not dec_byt))
    | _ => exact absurd (show false = true from hs) Bool.false_ne_true
  | _ => cases y <;> exact absurd (show false = true from hs) Bool.false_ne_true

theorem op_lt : OpR X (compareOp .Lt) (rI0 fun i j => .bl (decide (i < j))) := opB0 fun _ _ _ _ _ _ _ q => lt_int q
theorem op_le : OpR X (compareOp .LtE) (rI0 fun i j => .bl (decide (i ≤ j))) := opB0 fun _ _ _ _ _ _ _ q => le_int q
theorem op_gt : OpR X (compareOp .Gt) (rI0 fun i j => .bl (decide (j < i))) := opB0 fun _ _ _ _ _ _ _ q => gt_int q
theorem op_ge : OpR X (compareOp .GtE) (rI0 fun i j => .bl (decide (j ≤ i))) := opB0 fun _ _ _ _ _ _ _ q => ge_int q

/-- is None, is not None: the right side a value none -/
theorem op_isN : OpR X (compareOp .Is) (fun x y H Q => y = .non ∧ Q (.bl (decide (x = .non))) H) := by
  intro pins s σ H x y v u Q I rx ry h
  obtain ⟨rfl, q⟩ := h
  cases ry
  refine is_none_gen (fin_bl I q ?_)
  cases x <;> first
    | (cases rx; rfl)
    | (obtain ⟨t, rfl⟩ := rx; rfl)

/-- is, is not of two objects that are tracked lists or instances -/
def isObj : HO → Bool
  | .lst _ => true
  | .ins _ _ _ => true
  | _ => false

/-- two rules for one operation: by cases -/
theorem OpR.or {f : Value → Value → Sem Value} {r r' : R2} (h : OpR X f r) (h' : OpR X f r') : OpR X f (fun x y H Q => r x y H Q ∨ r' x y H Q) := by
  intro pins s σ H x y v u Q I rx ry q
  rcases q with q | q
  · exact h pins s σ H x y v u Q I rx ry q
  · exact h' pins s σ H x y v u Q I rx ry q

theorem nomark (b : Expr) {op : CmpOp} (h : op ≠ .In := by decide) (h2 : op ≠ .NotIn := by decide) : behindInMarks op b = false := by
  have e1 : (op == CmpOp.In) = false := by cases op <;> first | rfl | exact absurd rfl h
  have e2 : (op == CmpOp.NotIn) = false := by cases op <;> first | rfl | exact absurd rfl h2
  cases b <;> simp [behindInMarks, e1, e2]
/-- a comparison as a value; hm: nomark b, or (for in, not in) by with_unfolding_all rfl -/
theorem pe_cmpR {op : CmpOp} {r : R2} (ho : OpR X (compareOp op) r) (ha : PE X a ta) (hb : PE X b tb) (hm : behindInMarks op b = false) : PE X (.Compare a [op] [b] pos) (tOp r ta tb) := by
  intro pins s σ H Q I h
  exact wpAny_Compare1 (binT ha hb I h fun v u s2 x y H2 I2 rx ry q => ho pins s2 σ H2 x y v u Q I2 rx ry q) hm
/-- a reading of a value as a test -/
def tTest (t : TE) : TT := fun σ H Q => t σ H fun x H' => ∃ k, x = .bl k ∧ Q k H'
theorem pt_cmpR {op : CmpOp} {r : R2} (ho : OpR X (compareOp op) r) (ha : PE X a ta) (hb : PE X b tb) (hm : behindInMarks op b = false) : PT X (.Compare a [op] [b] pos) (tTest (tOp r ta tb)) := by
  intro pins s σ H Q I h
  refine wpAny_isTrue_Compare1 (thn (ha pins s σ H _ I h) fun v s1 ⟨x, H1, I1, r1, q1⟩ => thn (hb pins s1 σ H1 _ I1 q1) fun u s2 ⟨y, H2, I2, r2, q2⟩ =>
    thn (ho pins s2 σ H2 x y v u _ I2 r1 r2 q2) fun c s3 ⟨z, H3, I3, r3, k, e, q3⟩ => ?_) hm
  subst e
  cases r3
  exact wpAny_truthy_bool ⟨H3, I3, q3⟩
/-- a op1 b op2 c -/
def tChain (r r' : R2) (ta tb tc : TE) : TE := fun σ H Q => ta σ H fun x H1 => tb σ H1 fun y H2 => r x y H2 fun z H3 => ∃ k, z = .bl k ∧
  (if k = true then tc σ H3 fun w' H4 => r' y w' H4 Q else Q (.bl false) H3)

/-! ### truth -/
/-- a value's truth by the abstract heap -/
def TruV (K : PySem.W.Frag) (x : V) (H : Hp) (k : Bool) : Prop :=
  match x with
  | .non => k = false
  | .bl b => k = b
  | .int i => k = (i != 0)
  | .str y => y.length ≤ sizeLine ∧ k = ((y.length : Int) != 0)
  | .byt y => y.size ≤ sizeLine ∧ k = ((y.size : Int) != 0)
  | .ref p => (∃ xs, SqL K H p xs ∧ k = !xs.isEmpty) ∨ (∃ xs, SqT K H p xs ∧ k = !xs.isEmpty) ∨ ∃ kvs, H p = some (.dK kvs) ∧ k = !kvs.isEmpty
  | _ => False
theorem line63 : (sizeLine : Nat) < 2 ^ 63 := by rw [sizeLine_eq]; decide

/-! ### strs and bytes -/
theorem op_add_str : OpR X (binaryOp .Add) (fun x y H Q => ∃ i j, x = .str i ∧ y = .str j ∧ i.length + j.length ≤ sizeLine ∧ Q (.str (i ++ j)) H) := by
  intro pins s σ H x y v u Q I rx ry h
  obtain ⟨i, j, rfl, rfl, hz, q⟩ := h
  obtain ⟨t, rfl⟩ := rx
  obtain ⟨t', rfl⟩ := ry
  exact add_str (fun t' tk => ⟨.str (i ++ j), H, I.tok _, ⟨_, rfl⟩, q⟩) hz

def PlainIxT (b : Expr) : Prop := ∀ o i, subscripted b false o i = operate [o, i] (getItem o i)

/-! ### scalar builtins, by CallR -/
theorem vals1 {x : V} {us : List Value} (r : Vals [x] us) : ∃ u, us = [u] ∧ RelV x u := by
  cases r with
  | cons r1 r2 => cases r2; exact ⟨_, rfl, r1⟩
theorem vals2 {x y : V} {us : List Value} (r : Vals [x, y] us) : ∃ u w', us = [u, w'] ∧ RelV x u ∧ RelV y w' := by
  cases r with
  | cons r1 r2 =>
    cases r2 with
    | cons r3 r4 => cases r4; exact ⟨_, _, rfl, r1, r3⟩
/-- len of a str, a bytes, a list, a tuple -/
def LenV (K : PySem.W.Frag) (x : V) (H : Hp) (n : Nat) : Prop :=
  match x with
  | .str y => y.length ≤ sizeLine ∧ n = y.length
  | .byt y => y.size ≤ sizeLine ∧ n = y.size
  | .ref p => (∃ xs, SqL K H p xs ∧ n = xs.length) ∨ ∃ xs, SqT K H p xs ∧ n = xs.length
  | _ => False
end
end L2

namespace L2
open PySem PySem.Spec PyProof.Rows

/-! ### an instance, its attributes a map -/
structure ObjM (h : Heap) (x dx C : Addr) (mA : Str → Option Value) : Prop where
  obj : h.get? x = some (PySem.W.instObj C dx)
  ns : h.Ns1 dx mA
  ne : dx ≠ x

theorem lookIn_ns {h : Heap} {dx : Addr} {mA : Str → Option Value} (n : h.Ns1 dx mA) : ∃ od, h.get? dx = some od ∧ ∀ name, PySem.W.lookIn name od = some (mA name) := by
  obtain ⟨o, es, ep, ho, hd, hk, _, hm⟩ := n
  refine ⟨o, ho, fun name => ?_⟩
  have e := hm name
  unfold nsFind findBy at e
  rw [← Array.find?_toList] at e
  unfold PySem.W.lookIn
  rw [hd]
  dsimp only
  split
  · rename_i y q
    rw [q] at e
    exact congrArg some e
  · rename_i q
    rw [q] at e
    have a : es.toList.any (·.refKey) = false := by
      rw [List.any_eq_false]
      intro y hy
      obtain ⟨z, t, hkey⟩ := hk y (Array.mem_toList_iff.mp hy)
      simp [DictEntry.refKey, hkey]
    have a' : ¬ es.toList.any (·.refKey) = true := by rw [a]; exact Bool.false_ne_true
    rw [if_neg a']
    exact congrArg some e

theorem ObjM.look {h : Heap} {x dx C : Addr} {mA : Str → Option Value} (I : ObjM h x dx C mA) : ∃ od, PySem.W.InstAt h x (PySem.W.instObj C dx) C (some od) ∧ ∀ name, PySem.W.lookIn name od = some (mA name) :=
  let ⟨od, ho, hl⟩ := lookIn_ns I.ns
  ⟨od, ⟨I.obj, rfl, rfl, ho⟩, hl⟩

section
variable {prog : Program} {w : World} {A : Around} {E : Value → Shared → Prop} {s : Shared} {K : PySem.W.Frag} {x dx C f : Addr} {mA : Str → Option Value} {name : Str} {v : Value}





end

/-! ### the attributes as a list of pairs -/
def putF (f : Str) (v : V) : List (Str × V) → List (Str × V)
  | [] => [(f, v)]
  | (g, x) :: r => if g = f then (g, v) :: r else (g, x) :: putF f v r

theorem RelO.some_of {v : V} {o : Option Value} (r : RelO (some v) o) : ∃ u, o = some u ∧ RelV v u := by
  cases o with
  | none => exact (show False from r).elim
  | some u => exact ⟨u, rfl, r⟩

section
variable {P : Program} {w : World} {H H' : Hp} {h h' : Heap} {a C dx : Addr} {fs fs' : List (Str × V)}
theorem ins_get (hok : HOk P w H h) (e : H a = some (.ins C dx fs)) : ∃ mA, ObjM h a dx C mA ∧ (∀ f, RelO (fs.lookup f) (mA f)) ∧ PySem.Within mA (fs.map (·.1)) ∧ fs.length ≤ 1000 ∧ H dx = some (.own a) := by
  obtain ⟨d, z, ne, ob, mA, n, r, q⟩ := (show ObjOk P w H h a (.ins C dx fs) from hok a _ e)
  exact ⟨mA, ⟨ob, n, ne⟩, r, q, z, d⟩
end

/-! ### what of the text a class must have -/
structure Cls (K : PySem.W.Frag) (C : Addr) : Prop where
  pg : PySem.W.plainGet K C Str.empty = true
  hd : PySem.W.hasDictIn K C = true
  po : PySem.W.plainOver K C = true
  sa : PySem.W.findIn K (.ref C) "__setattr__" = some (some (.builtin "object.__setattr__"))
theorem Cls.get {K : PySem.W.Frag} {C : Addr} (c : Cls K C) (f : Str) : PySem.W.plainGet K C f = true := c.pg
/-- no class of it has the name -/
def NoAttr (K : PySem.W.Frag) (C : Addr) (f : Str) : Prop := PySem.W.findIn K (.ref C) f = some none
/-- a constant of the class -/
structure Con (K : PySem.W.Frag) (C : Addr) (f : Str) (v : V) (u : Value) : Prop where
  at_ : PySem.W.findIn K (.ref C) f = some (some u)
  rel : RelV v u
  get : PySem.W.specialIn K u "__get__" = some none
  cp : PySem.W.copiedNames.contains f = false
/-- a method: a plain def of the class or of one above it -/
structure Meth (K : PySem.W.Frag) (C : Addr) (m : Str) (f : Addr) : Prop where
  at_ : PySem.W.findIn K (.ref C) m = some (some (.ref f))
  fn : PySem.W.isFn K (.ref f) = true
  kp : PySem.W.keepIn K (.ref f) = true

section
variable {X : Cx} {pins : List (Addr × Obj)} {σ : St} {H : Hp} {s : Shared} {a C dx : Addr} {fs : List (Str × V)} {f : Str} {v : V} {A : Around} {E : Value → Shared → Prop}





/-- a new instance, tracked, without attributes -/
theorem Inv.made (I : Inv X pins σ H s) : Inv X pins σ (upd (upd H s.heap.objs.size (.own (s.heap.objs.size + 1))) (s.heap.objs.size + 1) (.ins C s.heap.objs.size []))
    { s with heap := (s.heap.push PySem.W.emptyDict).push (PySem.W.instObj C s.heap.objs.size) } := by
  have e1 : (s.heap.push PySem.W.emptyDict).get? s.heap.objs.size = some PySem.W.emptyDict := Heap.get?_push_size s.heap rfl
  have e2 : ((s.heap.push PySem.W.emptyDict).push (PySem.W.instObj C s.heap.objs.size)).get? (s.heap.objs.size + 1) = some (PySem.W.instObj C s.heap.objs.size) := by
    have := Heap.get?_push_size (s.heap.push PySem.W.emptyDict) (o := PySem.W.instObj C s.heap.objs.size) rfl
    rwa [Heap.size_push] at this
  have e3 : (s.heap.push PySem.W.emptyDict).Ns s.heap.objs.size (fun _ => none) := ⟨PySem.W.emptyDict, #[], _, e1, rfl, (fun e he => absurd he (by simp)), fun _ => rfl⟩
  have I1 := I.laid (a := s.heap.objs.size) (o := .own (s.heap.objs.size + 1)) (h' := s.heap.push PySem.W.emptyDict) (t' := s.toks) (fun b u q => Heap.get?_push_of_some _ q) (Nat.le_refl _) ⟨_, e1⟩
  refine I1.laid (a := s.heap.objs.size + 1) (o := .ins C s.heap.objs.size []) (t' := s.toks) (fun b u q => Heap.get?_push_of_some _ q) (Nat.le_of_eq (Heap.size_push _ _)) ?_
  have ne : s.heap.objs.size ≠ s.heap.objs.size + 1 := Nat.ne_of_lt (Nat.lt_succ_self _)
  refine ⟨by rw [upd_ne ne, upd_same], Nat.zero_le _, ne, e2, fun _ => none, (Heap.Ns1.of_empty e3).at fun o q => Heap.get?_push_of_some _ q, fun _ => True.intro, fun y hy => absurd rfl hy⟩

end

/-! ### readings and rules -/
/-- e.f, an attribute of the instance -/
def tFld (K : PySem.W.Frag) (ta : TE) (f : Str) : TE := fun σ H Q => ta σ H fun x H1 => ∃ a C dx fs v, x = .ref a ∧ H1 a = some (.ins C dx fs) ∧ Cls K C ∧ NoAttr K C f ∧ fs.lookup f = some v ∧ Q v H1
/-- e.f, a constant of the class -/
def tCon (K : PySem.W.Frag) (ta : TE) (f : Str) : TE := fun σ H Q => ta σ H fun x H1 => ∃ a C dx fs v u, x = .ref a ∧ H1 a = some (.ins C dx fs) ∧ Cls K C ∧ Con K C f v u ∧ fs.lookup f = none ∧ Q v H1
/-- e.f = value -/
def sFld (K : PySem.W.Frag) (ta tv : TE) (f : Str) : TS := fun D σ H => tv σ H fun y H1 => ta σ H1 fun x H2 => ∃ a C dx fs, x = .ref a ∧ H2 a = some (.ins C dx fs) ∧ Cls K C ∧ NoAttr K C f ∧ fs.length < 1000 ∧
  D.nx σ (upd H2 a (.ins C dx (putF f y fs)))
/-- an augmented operator on two values -/
def InOp (X : Cx) (op : Operator) (rd : V → V → Hp → VK → Prop) : Prop :=
  ∀ (pins : List (Addr × Obj)) (s : Shared) (σ : St) (H : Hp) (x y : V) (u v : Value) (Q : VK), Inv X pins σ H s → RelV x u → RelV y v → rd x y H Q → wpAny (model X.prog X.w) X.A (inplaceOp op u v) (EP X pins σ Q) X.xe s
/-- e.f op= value -/
def sFldAug (K : PySem.W.Frag) (ta tv : TE) (rd : V → V → Hp → VK → Prop) (f : Str) : TS := fun D σ H => ta σ H fun x H1 => ∃ a C dx fs v, x = .ref a ∧ H1 a = some (.ins C dx fs) ∧ Cls K C ∧ NoAttr K C f ∧ fs.lookup f = some v ∧
  tv σ H1 fun y H2 => rd v y H2 fun z H3 => ∃ dx' fs', H3 a = some (.ins C dx' fs') ∧ fs'.length < 1000 ∧ D.nx σ (upd H3 a (.ins C dx' (putF f z fs')))

section
variable {X : Cx} {o e value : Expr} {f : Str} {pos pos' tpos : Pos} {ta tv : TE}
def rAdd : V → V → Hp → VK → Prop := fun x y H Q => ∃ i j, x = .int i ∧ y = .int j ∧ Q (.int (i + j)) H
def rSub : V → V → Hp → VK → Prop := fun x y H Q => ∃ i j, x = .int i ∧ y = .int j ∧ Q (.int (i - j)) H

end

/-! ### isinstance -/
section
variable {X : Cx} {pins : List (Addr × Obj)} {σ : St} {H : Hp} {s : Shared} {A : Around} {E : Value → Shared → Prop} {Q : Value → Shared → Prop} {c : Value} {b : Bool}
/-- the type of a value, as the fragment's deciders take it; for an instance its class -/
inductive TyOf (K : PySem.W.Frag) (H : Hp) : V → Value → Prop where
  | non : TyOf K H .non (.type "NoneType")
  | bl (x : Bool) : TyOf K H (.bl x) (.type "bool")
  | int (i : Int) : TyOf K H (.int i) (.type "int")
  | str (x : Str) : TyOf K H (.str x) (.type "str")
  | flt (x : UInt64) : TyOf K H (.flt x) (.type "float")
  | lst {a : Addr} {xs : List V} (e : H a = some (.lst xs)) : TyOf K H (.ref a) (.type "list")
  | frz {a : Addr} {o : Obj} {xs : List V} (e : H a = some (.frz o (.lst xs))) : TyOf K H (.ref a) (.type "list")
  | tup {a : Addr} {xs : List V} (e : H a = some (.tup xs)) : TyOf K H (.ref a) (.type "tuple")
  | dK {a : Addr} {kvs : List (Key × V)} (e : H a = some (.dK kvs)) : TyOf K H (.ref a) (.type "dict")
  | dT {a : Addr} {kvs : List (List Key × V)} (e : H a = some (.dT kvs)) : TyOf K H (.ref a) (.type "dict")
  | ins {a C dx : Addr} {fs : List (Str × V)} (e : H a = some (.ins C dx fs)) (cl : Cls K C) (ha : PySem.W.findIn K (.ref C) "__class__" = some (some (.builtin "object.__class__")))
      (hn : PySem.W.specialIn K (.builtin "object.__class__") "__get__" = some (some (.builtin "getset_descriptor.__get__"))) (htk : PySem.W.takesIn K (.builtin "object.__class__") = some true)
      (hm : PySem.W.mroIn K C (.type "object") = some true) : TyOf K H (.ref a) (.ref C)
/-- isinstance(x, c) for one class c, a built-in or an own one: kitOne's answer -/
theorem isinst_ok {x : V} {u t : Value} (I : Inv X pins σ H s) (rx : RelV x u) (ty : TyOf X.K H x t) (e : PySem.W.kitOne X.K t c = some b) (h : ∀ tk, Q (.bool b) { s with toks := tk }) :
    wpAny (model X.prog X.w) A (call (.builtin "isinstance") [u, c]) Q E s := by
  cases ty with
  | non => cases (show u = Value.none from rx); exact PySem.W.kia_one PySem.W.kitx_none I.kIn True.intro e (fun z => nomatch z) h
  | bl y => cases (show u = Value.bool y from rx); exact PySem.W.kia_one PySem.W.kitx_bool I.kIn True.intro e (fun z => nomatch z) h
  | int i => obtain ⟨t, q⟩ := (show ∃ t, u = Value.int i t from rx); cases q; exact PySem.W.kia_one PySem.W.kitx_int I.kIn True.intro e (fun z => nomatch z) h
  | str y => obtain ⟨t, q⟩ := (show ∃ t, u = Value.str y t from rx); cases q; exact PySem.W.kia_one PySem.W.kitx_str I.kIn True.intro e (fun z => nomatch z) h
  | flt y => obtain ⟨t, q⟩ := (show ∃ t, u = Value.float y t from rx); cases q; exact PySem.W.kia_one PySem.W.kitx_float I.kIn True.intro e (fun z => nomatch z) h
  | @lst a xs ea =>
    cases (show u = Value.ref a from rx)
    obtain ⟨_, _, n, _, h1⟩ := (show ObjOk X.prog X.w H s.heap a (.lst xs) from I.hok a _ ea)
    exact PySem.W.kia_one PySem.W.kitx_list I.kIn ⟨_, h1, rfl⟩ e (fun z => nomatch z) h
  | @frz a ob xs ea =>
    cases (show u = Value.ref a from rx)
    obtain ⟨_, _, _, n, _, h1⟩ := (show ObjOk X.prog X.w H s.heap a (.frz ob (.lst xs)) from I.hok a _ ea)
    exact PySem.W.kia_one PySem.W.kitx_list I.kIn ⟨_, h1, rfl⟩ e (fun z => nomatch z) h
  | @tup a xs ea =>
    cases (show u = Value.ref a from rx)
    obtain ⟨_, _, _, p⟩ := (show ObjOk X.prog X.w H s.heap a (.tup xs) from I.hok a _ ea)
    obtain ⟨o, h1, h2, _⟩ := p
    exact PySem.W.kia_one PySem.W.kitx_tuple I.kIn ⟨o, h1, h2.1⟩ e (fun z => nomatch z) h
  | @dK a kvs ea =>
    cases (show u = Value.ref a from rx)
    obtain ⟨_, _, vs, _, p⟩ := (show ObjOk X.prog X.w H s.heap a (.dK kvs) from I.hok a _ ea)
    obtain ⟨o, es, ep, h1, h2, _⟩ := p
    exact PySem.W.kia_one PySem.W.kitx_dict I.kIn ⟨o, h1, h2.1⟩ e (fun z => nomatch z) h
  | @dT a kvs ea =>
    cases (show u = Value.ref a from rx)
    obtain ⟨_, _, xs, _, o, es, ep, h1, h2, _⟩ := (show ObjOk X.prog X.w H s.heap a (.dT kvs) from I.hok a _ ea)
    exact PySem.W.kia_one PySem.W.kitx_dict I.kIn ⟨o, h1, h2.1⟩ e (fun z => nomatch z) h
  | @ins a C dx fs ea cl ha hn htk hm =>
    cases (show u = Value.ref a from rx)
    obtain ⟨mA, O, _⟩ := ins_get I.hok ea
    obtain ⟨od, J, _⟩ := O.look
    exact PySem.W.kia_one (PySem.W.kitx_own (cl.get _) cl.hd ha hn htk hm) I.kIn J e (fun z => nomatch z) h
end
end L2

namespace L2
open PySem PySem.Spec PyProof.Rows

/-! ### room -/
structure Room (k : Nat) (A : Around) : Prop where
  hd : A.handled = none
  dp : A.depth + 3 * k + 5 < recursionLimit
  un : A.units + 16 * k + 200 < cLine
theorem Room.mono {j k : Nat} {A : Around} (r : Room k A) (h : j ≤ k) : Room j A := ⟨r.hd, by have := r.dp; omega, by have := r.un; omega⟩
theorem Room.deeper {k : Nat} {A : Around} (r : Room (k + 1) A) (env : Env) : Room k (A.deeper env) :=
  ⟨r.hd, by have := r.dp; show A.depth + 1 + 3 * k + 5 < _; omega, by have := r.un; show A.units + 3 + 16 * k + 200 < _; omega⟩
theorem Room.in1 {k : Nat} {A : Around} (r : Room (k + 1) A) : Room k A.in1 :=
  ⟨r.hd, by have := r.dp; show A.depth + 3 * k + 5 < _; omega, by have := r.un; show A.units + 1 + 16 * k + 200 < _; omega⟩
theorem Room.depth {k : Nat} {A : Around} (r : Room k A) : A.depth < recursionLimit := by have := r.dp; omega
theorem Room.units {k : Nat} {A : Around} (r : Room k A) : A.units + 64 < cLine := by have := r.un; omega

/-! ### argument lists and displays -/
def tNil : TA := fun _ H Q => Q [] H
def tCons (ta : TE) (tr : TA) : TA := fun σ H Q => ta σ H fun x H1 => tr σ H1 fun xs H2 => Q (x :: xs) H2
section
variable {X : Cx} {e : Expr} {es : List Expr} {te : TE} {t : TA} {pos : Pos}
theorem pa_nil : PA X [] tNil := fun _ _ _ _ H Q I h => Calls.spliced_nil ⟨[], H, I, .nil, h⟩
theorem pa_cons (ha : PE X e te) (hr : PA X es t) (hs : starEach (e :: es) X.env = (false, eval e X.env) :: starEach es X.env := by rfl) : PA X (e :: es) (tCons te t) := by
  intro pos pins s σ H Q I h
  rw [hs]
  show wpAny _ _ (spliced ((false, eval e X.env) :: backTo pos (starEach es X.env))) _ _ s
  refine Calls.spliced_cons (thn (ha pins s σ H _ I h) fun u s1 ⟨x, H1, I1, r1, q1⟩ => ?_)
  exact thn (hr pos pins s1 σ H1 _ I1 q1) fun us s2 ⟨xs, H2, I2, r2, q2⟩ => ⟨x :: xs, H2, I2, .cons r1 r2, q2⟩

/-- a tuple, a list of written items -/
def tTup (t : TA) : TE := fun σ H Q => t σ H fun xs H1 => xs.length ≤ sizeLine ∧ ∀ p, H1 p = none → Q (.ref p) (upd H1 p (.tup xs))
def tLst (t : TA) : TE := fun σ H Q => t σ H fun xs H1 => xs.length ≤ sizeLine ∧ ∀ p, H1 p = none → Q (.ref p) (upd H1 p (.lst xs))
theorem pe_tup {x1} (h : PA X es t) : PE X (.Tuple es x1 pos) (tTup t) := by
  intro pins s σ H Q I hq
  refine wpAny_Tuple_spliced (thn (h pos pins s σ H _ I hq) fun us s1 ⟨xs, H1, I1, r, z, q⟩ => ⟨by rw [← r.length]; exact z, ?_⟩)
  have hf : H1 s1.heap.objs.size = none := I1.hok.fresh (Nat.le_refl _)
  refine ⟨.ref s1.heap.objs.size, upd H1 s1.heap.objs.size (.tup xs), I1.laid (t' := s1.toks) (fun b u e => Heap.get?_push_of_some _ e) (Nat.le_refl _) ?_, rfl, q _ hf⟩
  exact ⟨z, us, r, TupN.new _ _⟩
theorem pe_lst (h : PA X es t) : PE X (.List es pos) (tLst t) := by
  intro pins s σ H Q I hq
  refine wpAny_List_spliced (thn (h pos pins s σ H _ I hq) fun us s1 ⟨xs, H1, I1, r, z, q⟩ => ⟨by rw [← r.length]; exact z, ?_⟩)
  have hf : H1 s1.heap.objs.size = none := I1.hok.fresh (Nat.le_refl _)
  refine ⟨.ref s1.heap.objs.size, upd H1 s1.heap.objs.size (.lst xs), I1.laid (t' := s1.toks) (fun b u e => Heap.get?_push_of_some _ e) (Nat.le_refl _) ?_, rfl, q _ hf⟩
  exact ⟨z, us, 0, r, Heap.get?_push_size _ rfl⟩
end

/-! ### what a def promises -/
/-- a def's promise: the bound arguments in the parameters' order, the heap, the wanted end, the wanted exception -/
abbrev Sp := List V → Hp → VK → XK → Prop
/-- how an exception lies behind a call (file 08 gives it): the callers' frames, abstract heap and state ahead of the call, the wish, the exception, the state -/
abbrev CXT := List Env → Hp → Shared → XK → Value → Shared → Prop

/-- the state at a call -/
structure Env0 (P : Program) (w : World) (K : PySem.W.Frag) (mg : Str → Option Value) (base : Heap) (A : Around) (outer : List Env) (s : Shared) (H : Hp) : Prop where
  frames : A.frames = some outer
  mod : Mod K mg base
  bs : ∀ b o, base.get? b = some o → s.heap.get? b = some o ∧ H b = none
  bsz : base.objs.size ≤ s.heap.objs.size
  funs : s.heap.FunFrames base outer
  frf : ∀ b ∈ frs outer, H b = none
  hok : HOk P w H s.heap
  bare : AllBare s.gens
/-- a call's end -/
def CE (outer : List Env) (P : Program) (w : World) (H : Hp) (s : Shared) (Q : VK) (u : Value) (s' : Shared) : Prop :=
  ∃ v H', s'.os = s.os ∧ AllBare s'.gens ∧ Un (frs outer) [] H H' s.heap s'.heap ∧ HOk P w H' s'.heap ∧ RelV v u ∧ Q v H'
def CR (CX : CXT) (outer : List Env) (P : Program) (w : World) (H : Hp) (s : Shared) (Q : VK) (E : XK) (r : Result) (s' : Shared) : Prop :=
  match r with
  | .ok (.ret u) => CE outer P w H s Q u s'
  | .ok _ => False
  | .error e => CX outer H s E e s'
structure FnOk (P : Program) (w : World) (K : PySem.W.Frag) (mg : Str → Option Value) (base : Heap) (CX : CXT) (k : Nat) (f : Addr) (fd : FuncData) (ps : List Str) (sp : Sp) : Prop where
  len : ∀ vs H Q E, sp vs H Q E → vs.length = ps.length
  run : ∀ (A : Around) (outer : List Env) (s : Shared) (H : Hp) (args : Args) (us : List Value) (vs : List V) (Q : VK) (E : XK), Room k A → Env0 P w K mg base A outer s H → BindsTo s fd args (ps.zip us) → Vals vs us → sp vs H Q E →
    codeAny (model P w) A (.call (.ref f) args) (CR CX outer P w H s Q E) s
theorem FnOk.mono {P : Program} {w : World} {K : PySem.W.Frag} {mg : Str → Option Value} {base : Heap} {CX : CXT} {j k : Nat} {f : Addr} {fd : FuncData} {ps : List Str} {sp : Sp} (F : FnOk P w K mg base CX j f fd ps sp) (h : j ≤ k) :
    FnOk P w K mg base CX k f fd ps sp := ⟨F.len, fun A outer s H args us vs Q E hr => F.run A outer s H args us vs Q E (hr.mono h)⟩
/-- a weaker promise -/
theorem FnOk.imp {P : Program} {w : World} {K : PySem.W.Frag} {mg : Str → Option Value} {base : Heap} {CX : CXT} {k : Nat} {f : Addr} {fd : FuncData} {ps : List Str} {sp sp' : Sp} (F : FnOk P w K mg base CX k f fd ps sp)
    (h : ∀ vs H Q E, sp' vs H Q E → sp vs H Q E) : FnOk P w K mg base CX k f fd ps sp' :=
  ⟨fun vs H Q E q => F.len vs H Q E (h _ _ _ _ q), fun A outer s H args us vs Q E hr he hb hv hs => F.run A outer s H args us vs Q E hr he hb hv (h _ _ _ _ hs)⟩

theorem Env0.in1 {P : Program} {w : World} {K : PySem.W.Frag} {mg : Str → Option Value} {base : Heap} {A : Around} {outer : List Env} {s : Shared} {H : Hp} (e : Env0 P w K mg base A outer s H) :
    Env0 P w K mg base A.in1 outer s H := ⟨e.frames, e.mod, e.bs, e.bsz, e.funs, e.frf, e.hok, e.bare⟩

section
variable {X : Cx} {pins : List (Addr × Obj)} {σ : St} {H : Hp} {s s' : Shared}
/-- from a body: what a callee wants -/
theorem Inv.env0 (I : Inv X pins σ H s) : Env0 X.prog X.w X.K X.mg X.base X.A X.stack s H :=
  ⟨I.ok.frames, I.ok.mod, I.bs, Nat.le_trans I.ok.bsz I.sz, I.stack, I.stkFree, I.hok, I.bare⟩
/-- behind a call -/
theorem Inv.after {Q : VK} {u : Value} (I : Inv X pins σ H s) (h : CE X.stack X.prog X.w H s Q u s') : EP X pins σ Q u s' := by
  obtain ⟨v, H', os, bare, un, hok, r, q⟩ := h
  obtain ⟨hh, g, d, t, os'⟩ := s'
  obtain rfl : os' = s.os := os
  exact ⟨v, H', I.call (h' := hh) (g' := g) (d' := d) (t' := t) (ch := []) un hok bare (fun b z => absurd z (by simp)), r, q⟩
end

/-! ### calls -/
/-- f(..): the written arguments, then the defaults dvs; E: what is wanted of an exception -/
def tCall (sp : Sp) (dvs : List V) (E : XK) (t : TA) : TE := fun σ H Q => t σ H fun vs H1 => sp (vs ++ dvs) H1 Q E
/-- o.m(..) of an instance of the class at C -/
def tMeth (C : Addr) (m : Str) (sp : Sp) (dvs : List V) (E : XK) (ta : TE) (t : TA) : TE := fun σ H Q => ta σ H fun x H1 => ∃ a dx fs, x = .ref a ∧ H1 a = some (.ins C dx fs) ∧ fs.lookup m = none ∧
  t σ H1 fun vs H2 => sp (x :: (vs ++ dvs)) H2 Q E
/-- C(..): a new instance and its dict, then __init__ -/
def tMake (C : Addr) (sp : Sp) (dvs : List V) (E : XK) (t : TA) : TE := fun σ H Q => t σ H fun vs H1 => ∀ x dx, H1 x = none → H1 dx = none → dx ≠ x →
  sp (.ref x :: (vs ++ dvs)) (upd (upd H1 dx (.own x)) x (.ins C dx [])) (fun v H2 => v = .non ∧ Q (.ref x) H2) E

/-- how the parameters are bound: us the positional arguments, kw the keywords' values by name, ds the defaults that fill up -/
def Binds (K : PySem.W.Frag) (fd : FuncData) (ps : List Str) (ds : List Value) : Prop :=
  ∀ (s : Shared) (us : List Value), K.In s.heap → (us ++ ds).length = ps.length → BindsTo s fd ⟨us, []⟩ (ps.zip (us ++ ds))
/-- every parameter is given -/
theorem Binds.all {K : PySem.W.Frag} {fd : FuncData} {ps : List Str} (h : ∀ us : List Value, us.length = ps.length → bindArgs fd ⟨us, []⟩ = pure (ps.zip us)) : Binds K fd ps [] := fun s us _ hl => by
  rw [List.append_nil] at hl ⊢
  exact .of_eq (h us hl)

/-- an exception of a callee reaches what this body wants of exceptions -/
def Passes (CX : CXT) (X : Cx) (E : XK) : Prop := ∀ (pins : List (Addr × Obj)) (σ : St) (H : Hp) (s : Shared) (e : Value) (s' : Shared), Inv X pins σ H s → CX X.stack H s E e s' → X.xe e s'

section
variable {X : Cx} {CX : CXT} {k : Nat} {f C : Addr} {fd : FuncData} {ps : List Str} {sp : Sp} {dvs : List V} {ds : List Value} {E : XK} {x m : Str} {p pos apos : Pos} {e o : Expr} {es : List Expr} {ta : TE} {t : TA}

/-- the callee runs -/
theorem run_fn {pins : List (Addr × Obj)} {σ : St} {H : Hp} {s : Shared} {Q : VK} {us : List Value} {vs : List V} (F : FnOk X.prog X.w X.K X.mg X.base CX k f fd ps sp) (hr : Room k X.A) (hb : Binds X.K fd ps ds) (hd : Vals dvs ds) (hx : Passes CX X E)
    (I : Inv X pins σ H s) (r : Vals vs us) (h : sp (vs ++ dvs) H Q E) : wpAny (model X.prog X.w) X.A (call (.ref f) us) (EP X pins σ Q) X.xe s := by
  have r2 : Vals (vs ++ dvs) (us ++ ds) := r.append hd
  have hl : (us ++ ds).length = ps.length := by rw [← r2.length]; exact F.len _ _ _ _ h
  refine wpAny_call (codeAny_mono (F.run X.A X.stack s H ⟨us, []⟩ (us ++ ds) (vs ++ dvs) Q E hr I.env0 (hb s us I.kIn hl) r2 h) fun r s' hq => ?_)
  cases r with
  | error e => exact hx pins σ H s e s' I hq
  | ok fl =>
    cases fl with
    | ret u => exact I.after hq
    | next => exact False.elim hq
    | brk => exact False.elim hq
    | cont => exact False.elim hq

theorem pe_call (F : FnOk X.prog X.w X.K X.mg X.base CX k f fd ps sp) (hr : Room k X.A) (hg : Gl X x) (hm : X.mg x = some (.ref f)) (hk : PySem.W.keepIn X.K (.ref f) = true) (hb : Binds X.K fd ps ds) (hd : Vals dvs ds) (hx : Passes CX X E)
    (ha : PA X (e :: es) t) (hdb : (x == ("__debug__" : Str)) = false := by decide) (he : starEach (e :: es) X.env = (false, eval e X.env) :: starEach es X.env := by rfl) (hpl : (backTo pos (starEach es X.env)).any (·.1) = false := by rfl) :
    PE X (.Call (.Name x p) (e :: es) [] pos) (tCall sp dvs E t) := by
  intro pins s σ H Q I h
  refine wpAny_Call_Name_kw (ld_glob I hg hm ?_ hdb)
  refine PySem.W.callWith_K (h₀ := X.base) I.ok.mod.kin hk (thn (ha pos pins s σ H _ I h) fun us s1 ⟨vs, H1, I1, r, q⟩ => ⟨I1.kIn, ?_⟩) he hpl
  exact run_fn F hr hb hd hx I1 r q


/-- what a class must have to be made -/
structure Mk (K : PySem.W.Frag) (C f : Addr) : Prop where
  makes : PySem.W.makesIn K C = true
  init : PySem.W.findIn K (.ref C) "__init__" = some (some (.ref f))
  fn : PySem.W.isFn K (.ref f) = true
  kp : PySem.W.keepIn K (.ref C) = true

end

/-! ### keywords -/
/-- the values of the keywords, from the left -/
def PK (X : Cx) (kws : List Keyword) (t : TA) : Prop :=
  ∀ (pos : Pos) (pins : List (Addr × Obj)) (s : Shared) (σ : St) (H : Hp) (Q : List V → Hp → Prop), Inv X pins σ H s → t σ H Q → wpAny (model X.prog X.w) X.A (evalAll ((backToKw pos (keywordEach kws X.env)).map (·.2))) (AP X pins σ Q) X.xe s
section
variable {X : Cx} {CX : CXT} {k : Nat} {f C : Addr} {fd : FuncData} {ps ks : List Str} {sp : Sp} {E : XK} {x m : Str} {p pos apos kpos : Pos} {e o : Expr} {es : List Expr} {kws : List Keyword} {te ta : TE} {t tk : TA} {nm : Option Str}
theorem pk_nil : PK X [] tNil := fun _ _ _ _ H Q I h => wpAny_evalAll_nil ⟨[], H, I, .nil, h⟩
theorem pk_cons (ha : PE X e te) (hr : PK X kws t) : PK X (⟨nm, e, kpos⟩ :: kws) (tCons te t) := by
  intro pos pins s σ H Q I h
  show wpAny _ _ (evalAll ((do let v ← eval e X.env; standAt pos; pure v) :: (backToKw pos (keywordEach kws X.env)).map (·.2))) _ _ s
  refine wpAny_evalAll_cons (wpAny_bind (thn (ha pins s σ H _ I h) fun u s1 ⟨x, H1, I1, r1, q1⟩ => wpAny_bind (wpAny_standAt (wpAny_pure ?_))))
  exact thn (hr pos pins s1 σ H1 _ I1 q1) fun us s2 ⟨xs, H2, I2, r2, q2⟩ => ⟨x :: xs, H2, I2, .cons r1 r2, q2⟩

/-- how a call with keywords binds: g puts the positional values us and the keywords' values ws (names ks) in the parameters' order, defaults among them -/
structure KBinds (K : PySem.W.Frag) (fd : FuncData) (ps ks : List Str) (g : List Value → List Value → List Value) (gV : List V → List V → List V) : Prop where
  to : ∀ (s : Shared) (us ws : List Value), K.In s.heap → (g us ws).length = ps.length → BindsTo s fd ⟨us, ks.zip ws⟩ (ps.zip (g us ws))
  rel : ∀ {vs : List V} {us : List Value} {zs : List V} {ws : List Value}, Vals vs us → Vals zs ws → Vals (gV vs zs) (g us ws)
def tCallK (sp : Sp) (gV : List V → List V → List V) (E : XK) (t tk : TA) : TE := fun σ H Q => t σ H fun vs H1 => tk σ H1 fun zs H2 => sp (gV vs zs) H2 Q E
variable {g : List Value → List Value → List Value} {gV : List V → List V → List V}
end

/-! ### a def's body keeps its promise -/
/-- names: the parameters first -/
structure FnScope (N P : List Str) (sc : Scope) : Prop where
  kind : sc.kind = .function
  co : sc.isCoroutine = false
  gen : sc.isGenerator = false
  nd : N.Nodup
  pre : N.take P.length = P
  par : ∀ x ∈ P, sc.names.lookup x = some .local ∨ sc.names.lookup x = some .cell
  nofree : ∀ y ∈ sc.names, y.2 ≠ .free

theorem bindL_out {kindOf : Str → Option NameKind} {x : Str} : ∀ {binds : List (Str × Value)} {m : Str → Option Value}, (∀ v, (x, v) ∉ binds) → bindL kindOf binds m x = m x
  | [], _, _ => rfl
  | (n, v) :: r, m, h => by
    unfold bindL
    rw [bindL_out fun w hw => h w (List.mem_cons_of_mem _ hw)]
    split
    · have : x ≠ n := by rintro rfl; exact h v List.mem_cons_self
      simp [this]
    · rfl
theorem bindC_out {kindOf : Str → Option NameKind} {x : Str} : ∀ {binds : List (Str × Value)} {m : Str → Option Value}, (∀ v, (x, v) ∉ binds) → bindC kindOf binds m x = m x
  | [], _, _ => rfl
  | (n, v) :: r, m, h => by
    unfold bindC
    rw [bindC_out fun w hw => h w (List.mem_cons_of_mem _ hw)]
    split
    · rfl
    · have : x ≠ n := by rintro rfl; exact h v List.mem_cons_self
      simp [this]
theorem bindL_get {kindOf : Str → Option NameKind} {x : Str} {v : Value} : ∀ {P : List Str} {vs : List Value} {i : Nat} {m : Str → Option Value}, P.Nodup → P[i]? = some x → vs[i]? = some v → kindOf x = some .local →
    bindL kindOf (P.zip vs) m x = some v
  | [], _, _, _, _, h, _, _ => by simp at h
  | _ :: _, [], _, _, _, _, h, _ => by simp at h
  | p :: P, w :: vs, 0, m, nd, h1, h2, hk => by
    simp at h1 h2; subst h1; subst h2
    show bindL kindOf ((p, w) :: P.zip vs) m p = _
    unfold bindL
    rw [bindL_out fun v hv => (List.nodup_cons.mp nd).1 (List.of_mem_zip hv).1, if_pos hk]
    simp
  | p :: P, w :: vs, i + 1, m, nd, h1, h2, hk => by
    show bindL kindOf ((p, w) :: P.zip vs) m x = _
    unfold bindL
    exact bindL_get (i := i) (List.nodup_cons.mp nd).2 (by simpa using h1) (by simpa using h2) hk
theorem bindC_get {kindOf : Str → Option NameKind} {x : Str} {v : Value} : ∀ {P : List Str} {vs : List Value} {i : Nat} {m : Str → Option Value}, P.Nodup → P[i]? = some x → vs[i]? = some v → kindOf x ≠ some .local →
    bindC kindOf (P.zip vs) m x = some v
  | [], _, _, _, _, h, _, _ => by simp at h
  | _ :: _, [], _, _, _, _, h, _ => by simp at h
  | p :: P, w :: vs, 0, m, nd, h1, h2, hk => by
    simp at h1 h2; subst h1; subst h2
    show bindC kindOf ((p, w) :: P.zip vs) m p = _
    unfold bindC
    rw [bindC_out fun v hv => (List.nodup_cons.mp nd).1 (List.of_mem_zip hv).1, if_neg hk]
    simp
  | p :: P, w :: vs, i + 1, m, nd, h1, h2, hk => by
    show bindC kindOf ((p, w) :: P.zip vs) m x = _
    unfold bindC
    exact bindC_get (i := i) (List.nodup_cons.mp nd).2 (by simpa using h1) (by simpa using h2) hk

/-- the names' values at the entry -/
def start (N : List Str) (vs : List V) : St := vs.map some ++ List.replicate (N.length - vs.length) none

/-- the context of a def's body, at its entry; an exception leaves the frame, then lies as CX says -/
def cxOf (CX : CXT) (P : Program) (w : World) (K : PySem.W.Frag) (mg : Str → Option Value) (base : Heap) (N : List Str) (qual : Str) (scope : Scope) (f : Addr) (cd : Value) (A : Around) (outer : List Env) (s : Shared) (H : Hp) (E : XK) : Cx where
  prog := P
  w := w
  K := K
  mg := mg
  base := base
  A := A.deeper (envOfC qual scope s.heap.objs.size f cd)
  N := N
  s₀ := s
  H₀ := H
  env := envOfC qual scope s.heap.objs.size f cd
  outer := outer
  stack := envOfC qual scope s.heap.objs.size f cd :: outer
  ex := []
  calm := true
  fn := fun _ => true
  pn := []
  xe := fun e s' => wpAny (model P w) (A.deeper (envOfC qual scope s.heap.objs.size f cd)) (leaving (envOfC qual scope s.heap.objs.size f cd) e) (fun _ s'' => CX outer H s E e s'') (fun e' s'' => CX outer H s E e' s'') s'

theorem cell_has {sc : Scope} {n : Nat} {x : Str} (h : sc.names.lookup x = some .cell) : ∃ c, (cellsFrom n sc.names []).lookup x = some c := by
  have q := PySem.W.cellsFrom_some sc.names n [] (.inl h)
  exact Option.isSome_iff_exists.mp q

theorem inv_start {CX : CXT} {P : Program} {w : World} {K : PySem.W.Frag} {mg : Str → Option Value} {base : Heap} {N ps : List Str} {qual : Str} {scope : Scope} {f : Addr} {cd : Value} {A : Around} {outer : List Env} {s s1 : Shared} {H : Hp} {E : XK} {us : List Value} {vs : List V}
    (S : FnScope N ps scope) (hd : A.handled = none) (e0 : Env0 P w K mg base A outer s H) (hl : vs.length = ps.length) (r : Vals vs us)
    (x : InCallC s s.heap.objs.size (bindL (envOfC qual scope s.heap.objs.size f cd).kindOf (ps.zip us) fun _ => none) (cellsFrom (s.heap.objs.size + 1) scope.names []) (bindC (envOfC qual scope s.heap.objs.size f cd).kindOf (ps.zip us) fun _ => none) s1) :
    Inv (cxOf CX P w K mg base N qual scope f cd A outer s H E) [] (start N vs) H s1 := by
  have hpl : ps.length ≤ N.length := by have := congrArg List.length S.pre; rw [List.length_take] at this; omega
  obtain ⟨h1, tk, rfl, hk⟩ := x.done
  have noA : ∀ b : Addr, b ∉ (cxOf CX P w K mg base N qual scope f cd A outer s H E).ex := fun b z => absurd (show b ∈ ([] : List Addr) from z) (by simp)
  refine ⟨⟨e0.mod, S.kind, rfl, rfl, Nat.le_refl _, fun y z c h1 h2 => ?_, fun y hy => ?_, fun y c _ h => ?_, fun _ => hd, Around.frames_deeper e0.frames, .inr ⟨rfl, rfl⟩, fun b z => absurd z (noA b), e0.bs, e0.bsz, fun b _ _ => noA b, fun b z => absurd z (noA b), e0.funs, e0.frf⟩,
    rfl, e0.bare, Un.kept hk, ⟨_, x.toInCall.ns, fun i y v h1 h2 h3 => ?_⟩, fun y c h => ⟨_, x.cell y c h⟩, e0.hok.fresh (Nat.le_refl _), fun y c h => ?_, fun p hp => absurd (show p ∈ ([] : List (Addr × Obj)) from hp) (by simp), e0.hok.kept hk, ?_⟩
  · exact name_of_addr x.apart (PySem.mem_of_lookup h1) (PySem.mem_of_lookup h2)
  · have hy : scope.names.lookup y = some .cell ∨ scope.names.lookup y = some .free := hy
    rcases hy with hy | hy
    · exact cell_has hy
    · exact absurd rfl (S.nofree _ (PySem.mem_of_lookup hy))
  · exact Nat.le_of_lt (x.above y c (PySem.mem_of_lookup h))
  · have hi : i < vs.length := by
      unfold start at h2
      by_cases hi : i < vs.length
      · exact hi
      · rw [List.getElem?_append_right (by simpa using hi)] at h2
        rw [List.getElem?_replicate] at h2
        split at h2 <;> cases h2
    have ha : vs[i]? = some v := by
      unfold start at h2
      rw [List.getElem?_append_left (by simpa using hi), List.getElem?_map] at h2
      cases e : vs[i]? with
      | none => rw [e] at h2; cases h2
      | some a => rw [e] at h2; cases h2; rfl
    obtain ⟨u, hu, rv⟩ := r.get ha
    have hp : ps[i]? = some y := by
      rw [← S.pre, List.getElem?_take_of_lt (by omega)]; exact h1
    have ndP : ps.Nodup := by rw [← S.pre]; exact S.nd.sublist (List.take_sublist _ _)
    refine ⟨u, rv, ?_⟩
    rcases S.par y (List.mem_of_getElem? hp) with k | k
    · exact .inl ⟨k, bindL_get ndP hp hu k⟩
    · obtain ⟨c, e⟩ := cell_has (n := s.heap.objs.size + 1) k
      refine .inr ⟨.inl k, c, e, ?_⟩
      have q := x.cell y c e
      rw [bindC_get ndP hp hu (by show scope.names.lookup y ≠ _; rw [k]; decide)] at q
      exact q
  · exact e0.hok.fresh (Nat.le_of_lt (x.above y c (PySem.mem_of_lookup h)))
  · unfold start
    show _ = N.length
    rw [List.length_append, List.length_map, List.length_replicate]
    omega

/-- THE RULE: a def (or a method) of the text, by its body. The body's reading t is chosen for each entry; it is run at the parameters' values -/
theorem fn_of {CX : CXT} {P : Program} {w : World} {K : PySem.W.Frag} {mg : Str → Option Value} {base : Heap} {k : Nat} {f : Addr} {name qual : Str} {params : Arguments} {body : List Stmt} {scope : Scope} {dV kV doc pm cdv ct oc : Value} {an od : Option Addr}
    {osl : Array (Option Value)} {N ps : List Str} {sp : Sp} (lk : K.lookup f = some ⟨oc, od, .func (PySem.W.fnOf name qual params body scope dV kV doc pm an cdv ct), osl⟩) (hcd : PySem.W.codeIn K cdv qual = true) (S : FnScope N ps scope)
    (len : ∀ vs H Q E, sp vs H Q E → vs.length = ps.length)
    (hbody : ∀ (A : Around) (outer : List Env) (s : Shared) (H : Hp) (vs : List V) (Q : VK) (E : XK), Room k (A.deeper (envOfC qual scope s.heap.objs.size f cdv)) → sp vs H Q E →
      ∃ t, PSs (cxOf CX P w K mg base N qual scope f cdv A outer s H E) body t ∧ t { nx := fun _ H' => Q .non H', rt := Q } (start N vs) H) :
    FnOk P w K mg base CX (k + 1) f (PySem.W.fnOf name qual params body scope dV kV doc pm an cdv ct) ps sp := by
  refine ⟨len, fun A outer s H args us vs Q E hr e0 hb r hsp => ?_⟩
  have hl := len _ _ _ _ hsp
  have KX : K.In s.heap := e0.mod.kin.keeps fun b o e => (e0.bs b o e).1
  have lim : s.heap.NoLimit := e0.mod.nolimit.keeps fun b o e => (e0.bs b o e).1
  have hkind : ∀ y ∈ ps.zip us, scope.names.lookup y.1 = some .local ∨ (scope.names.lookup y.1 = some .cell ∧ ((cellsFrom (s.heap.objs.size + 1) scope.names []).lookup y.1).isSome = true) := fun ⟨n, v⟩ hy => by
    rcases S.par n (List.of_mem_zip hy).1 with q | q
    · exact .inl q
    · exact .inr ⟨q, PySem.W.cellsFrom_some _ _ _ (.inl q)⟩
  refine codeAny_call_function hr.depth (KX _ _ lk) rfl S.co S.gen rfl (PySem.W.codeRec_of KX hcd) (hb _ _ _ _ ?_)
  refine wpAny_newFunctionEnv_cells S.kind hkind fun env he s1 x => ?_
  subst he
  refine ⟨lim.keeps x.toInCall.keep, codeAny_func ?_⟩
  obtain ⟨t, ht, hq⟩ := hbody A outer s H vs Q E (hr.deeper _) hsp
  have I : Inv (cxOf CX P w K mg base N qual scope f cdv A outer s H E) [] (start N vs) H s1 := inv_start S hr.hd e0 hl r x
  refine wpAny_mono (ht [] s1 (start N vs) H _ I hq) (fun fl s' hs => ?_) fun e s' hs => hs
  have fin : ∀ {σ' : St} {H' : Hp} {v : V} {u : Value}, Inv (cxOf CX P w K mg base N qual scope f cdv A outer s H E) [] σ' H' s' → RelV v u → Q v H' → CE outer P w H s Q u s' :=
    fun {σ' H' v u} J rv q => ⟨v, H', J.os, J.bare, J.base, J.hok, rv, q⟩
  cases fl with
  | ret u =>
    obtain ⟨v, σ', H', J, rv, q⟩ := hs
    exact fin J rv q
  | next =>
    obtain ⟨σ', H', J, q⟩ := hs
    exact fin (v := V.non) (u := Value.none) J rfl q
  | brk =>
    obtain ⟨_, _, _, q⟩ := hs
    exact False.elim q
  | cont =>
    obtain ⟨_, _, _, q⟩ := hs
    exact False.elim q
end L2

namespace L2
open PySem PySem.Spec PyProof.Rows
section
variable {X : Cx} {x : Str} {p pos : Pos} {e : Expr} {es : List Expr} {t : TA} {id T : String} {r : List V → Hp → VK → Prop}

def tCB (r : List V → Hp → VK → Prop) (t : TA) : TE := fun σ H Q => t σ H fun vs H1 => r vs H1 Q
/-- f(e, ..), f a built-in function -/
theorem pe_callB (hc : CallR X (.builtin id) r) (hg : Gl X x) (hm : X.mg x = none) (hv : bootBuiltins x = some (.builtin id)) (ha : PA X (e :: es) t) (hn : x ≠ "__name__" := by decide) (hdb : (x == ("__debug__" : Str)) = false := by decide)
    (he : starEach (e :: es) X.env = (false, eval e X.env) :: starEach es X.env := by rfl) (hpl : (backTo pos (starEach es X.env)).any (·.1) = false := by rfl) : PE X (.Call (.Name x p) (e :: es) [] pos) (tCB r t) := by
  intro pins s σ H Q I h
  refine wpAny_Call_Name_kw (ld_blt I hg hm hv ?_ hn hdb)
  exact PyProof.Rows.callWith_builtin1 (thn (ha pos pins s σ H _ I h) fun us s1 ⟨vs, H1, I1, r1, q1⟩ => hc pins s1 σ H1 vs us Q I1 r1 q1) he hpl
/-- T(e, ..), T a built-in type -/
theorem pe_callTy (hc : CallR X (.type T) r) (hg : Gl X x) (hm : X.mg x = none) (hv : bootBuiltins x = some (.type T)) (ha : PA X (e :: es) t) (hn : x ≠ "__name__" := by decide) (hdb : (x == ("__debug__" : Str)) = false := by decide)
    (he : starEach (e :: es) X.env = (false, eval e X.env) :: starEach es X.env := by rfl) (hpl : (backTo pos (starEach es X.env)).any (·.1) = false := by rfl) : PE X (.Call (.Name x p) (e :: es) [] pos) (tCB r t) := by
  intro pins s σ H Q I h
  refine wpAny_Call_Name_kw (ld_blt I hg hm hv ?_ hn hdb)
  exact PyProof.Rows.callWith_type1 (thn (ha pos pins s σ H _ I h) fun us s1 ⟨vs, H1, I1, r1, q1⟩ => hc pins s1 σ H1 vs us Q I1 r1 q1) he hpl
end
end L2

namespace HT
open PySem PyProof.Rows

/-- t < u of tuples of ints -/
def lexLt : List Int → List Int → Bool
  | [], [] => false
  | [], _ :: _ => true
  | _ :: _, [] => false
  | x :: xs, y :: ys => if x = y then lexLt xs ys else decide (x < y)


section
open PySem.SeqAt
open PySem.AutoSeq1 (wpAny_loadPart')
open PySem.MeetsSeq PySem.MeetsSeq2 PySem.MeetsSeq3

end

section
variable {prog : Program} {w : World} {A : Around} {E : Value → Shared → Prop} {s : Shared}



/-! ### t[a:b], not the whole -/
/-- a slice's bound as a place among n (d where it is left out) -/
def sIx (n d : Nat) : Option Int → Nat
  | none => d
  | some v => if v < 0 then (v + (n : Int)).toNat else min v.toNat n

end
end HT

namespace L2
open PySem PySem.Spec PyProof.Rows

/-! ### the parts of a slice -/
abbrev TO := St → Hp → (Option Int → Hp → Prop) → Prop
/-- a slice's part (left out, or an int) -/
def PO (X : Cx) (e : Option Expr) (t : TO) : Prop :=
  ∀ (pins : List (Addr × Obj)) (s : Shared) (σ : St) (H : Hp) (Q : Option Int → Hp → Prop), Inv X pins σ H s → t σ H Q →
    wpAny (model X.prog X.w) X.A (evalPart e X.env) (fun u s' => ∃ o H', Inv X pins σ H' s' ∧ IsPart u o ∧ Q o H') X.xe s
def tNoPart : TO := fun _ H Q => Q none H
def tPart (t : TE) : TO := fun σ H Q => t σ H fun x H1 => ∃ i, x = .int i ∧ Q (some i) H1

theorem intsAre_of {ns : List Int} : ∀ {us : List Value}, Vals (ns.map V.int) us → IntsAre us ns := by
  induction ns with
  | nil => intro us r; rw [List.map_nil] at r; cases r; exact .nil
  | cons n ns ih =>
    intro us r
    rw [List.map_cons] at r
    cases r with
    | cons r1 r2 =>
      obtain ⟨t, e⟩ := r1
      subst e
      exact .cons n t (ih r2)

section
variable {X : Cx} {e : Expr} {te : TE} {lo hi : Option Expr} {tl th : TO} {pos p2 : Pos}

theorem po_none : PO X none tNoPart := by
  intro pins s σ H Q I h
  rw [evalPart_none]
  exact wpAny_pure ⟨none, H, I, .none, h⟩
theorem po_some (h : PE X e te) : PO X (some e) (tPart te) := by
  intro pins s σ H Q I hw
  rw [evalPart_some]
  refine thn (h pins s σ H _ I hw) fun u s1 ⟨x, H1, I1, r1, q1⟩ => ?_
  obtain ⟨i, rfl, q⟩ := q1
  obtain ⟨t, rfl⟩ := r1
  exact ⟨some i, H1, I1, .int i t, q⟩

/-- what a slice of a value is, by values: the slice object stands at sl -/
def SlR (X : Cx) (r : V → Option Int → Option Int → Hp → VK → Prop) : Prop :=
  ∀ (pins : List (Addr × Obj)) (s : Shared) (σ : St) (H : Hp) (x : V) (v vl vu : Value) (lo hi : Option Int) (sl : Addr) (Q : VK), Inv X pins σ H s → RelV x v → s.heap.IsSliceOf sl vl vu .none → IsPart vl lo → IsPart vu hi → r x lo hi H Q →
    ∃ T id, typeLookup (.type T) "__getitem__" = pure (some (.builtin id)) ∧ s.TypeIs v T ∧ wpAny (model X.prog X.w) X.A (getItem v (.ref sl)) (EP X pins σ Q) X.xe s
theorem SlR.or {r r' : V → Option Int → Option Int → Hp → VK → Prop} (h : SlR X r) (h' : SlR X r') : SlR X (fun x lo hi H Q => r x lo hi H Q ∨ r' x lo hi H Q) := by
  intro pins s σ H x v vl vu lo hi sl Q I rx hs pl pu q
  rcases q with q | q
  · exact h pins s σ H x v vl vu lo hi sl Q I rx hs pl pu q
  · exact h' pins s σ H x v vl vu lo hi sl Q I rx hs pl pu q
def tSl (r : V → Option Int → Option Int → Hp → VK → Prop) (te : TE) (tl th : TO) : TE := fun σ H Q => te σ H fun x H1 => tl σ H1 fun l H2 => th σ H2 fun u H3 => r x l u H3 Q
/-- a[lo:hi], any a -/
theorem pe_slice {r : V → Option Int → Option Int → Hp → VK → Prop} (hr : SlR X r) (he : PE X e te) (hl : PO X lo tl) (hu : PO X hi th) : PE X (.Subscript e (.Slice lo hi none p2) pos) (tSl r te tl th) := by
  intro pins s σ H Q I h
  refine Subscript_ (thn (he pins s σ H _ I h) fun v s1 ⟨x, H1, I1, r1, q1⟩ => ?_)
  refine wpAny_Slice (thn (hl pins s1 σ H1 _ I1 q1) fun vl s2 ⟨l, H2, I2, pl, q2⟩ => thn (hu pins s2 σ H2 _ I2 q2) fun vu s3 ⟨u, H3, I3, pu, q3⟩ => ?_)
  rw [evalPart_none]
  refine wpAny_pure ?_
  have I4 : Inv X pins σ H3 { s3 with heap := s3.heap.push { cls := .type "slice", data := .fields #[vl, vu, .none] } } := I3.kept (t' := s3.toks) fun b ob q => Heap.get?_push_of_some _ q
  obtain ⟨T, id, hT, ht, hg⟩ := hr pins { s3 with heap := s3.heap.push { cls := .type "slice", data := .fields #[vl, vu, .none] } } σ H3 x v vl vu l u s3.heap.objs.size Q I4 r1 (Heap.IsSliceOf.new ..) pl pu q3
  show wpAny (model X.prog X.w) X.A (subscriptTail e (.Slice lo hi none p2) v (.ref s3.heap.objs.size)) (EP X pins σ Q) X.xe { s3 with heap := s3.heap.push { cls := .type "slice", data := .fields #[vl, vu, .none] } }
  exact tail_any (ops := [.ref s3.heap.objs.size, v]) ht hT hg (by with_unfolding_all rfl)

/-- the items of xs[lo:hi] -/
def cutV (xs : List V) (lo hi : Option Int) : List V := (xs.drop (HT.sIx xs.length 0 lo)).take (HT.sIx xs.length xs.length hi - HT.sIx xs.length 0 lo)
theorem cutV_length (xs : List V) (lo hi : Option Int) : (cutV xs lo hi).length ≤ xs.length := by
  unfold cutV
  rw [List.length_take, List.length_drop]
  omega
/-- t[lo:hi], not the whole of it (the whole would be t itself) -/
def rSlT (K : PySem.W.Frag) : V → Option Int → Option Int → Hp → VK → Prop := fun x lo hi H Q => ∃ a xs, x = .ref a ∧ SqT K H a xs ∧
  ¬ (HT.sIx xs.length 0 lo = 0 ∧ HT.sIx xs.length xs.length hi = xs.length) ∧ ∀ p, H p = none → Q (.ref p) (upd H p (.tup (cutV xs lo hi)))

/-! ### t < u, t + u -/
def rLtT (K : PySem.W.Frag) : R2 := fun x y H Q => ∃ a b ns ms, x = .ref a ∧ y = .ref b ∧ SqT K H a (ns.map V.int) ∧ SqT K H b (ms.map V.int) ∧ Q (.bl (HT.lexLt ns ms)) H
/-- t + u, t not empty: u empty gives t itself -/
def rCatT (K : PySem.W.Frag) : R2 := fun x y H Q => ∃ a b xs ys, x = .ref a ∧ y = .ref b ∧ SqT K H a xs ∧ SqT K H b ys ∧ xs ≠ [] ∧ xs.length + ys.length ≤ sizeLine ∧
  (ys = [] → Q (.ref a) H) ∧ (ys ≠ [] → ∀ p, H p = none → Q (.ref p) (upd H p (.tup (xs ++ ys))))
end
end L2

namespace L2
open PySem PySem.Spec PyProof.Rows

/-! ### places -/
/-- the place that an index of any sign means -/
def ixN (n : Nat) (i : Int) : Option Nat := if 0 ≤ i then (if i < n then some i.toNat else none) else if -(n : Int) ≤ i then some (i + n).toNat else none
def atI {α : Type} (xs : List α) (i : Int) : Option α := (ixN xs.length i).bind fun j => xs[j]?
theorem ixN_seq {n : Nat} {i : Int} {j : Nat} (h : ixN n i = some j) : seqIndex? i n = some j ∧ j < n ∧ -(n : Int) ≤ i ∧ i < n := by
  unfold ixN at h
  by_cases h0 : 0 ≤ i
  · rw [if_pos h0] at h
    by_cases h1 : i < n
    · rw [if_pos h1] at h
      have e : i.toNat = j := Option.some.inj h
      exact ⟨by rw [seqIndex_of h0 h1, e], by omega, by omega, h1⟩
    · rw [if_neg h1] at h; cases h
  · rw [if_neg h0] at h
    by_cases h1 : -(n : Int) ≤ i
    · rw [if_pos h1] at h
      have e : (i + n).toNat = j := Option.some.inj h
      exact ⟨by rw [seqIndex_neg (by omega) h1, e], by omega, h1, by omega⟩
    · rw [if_neg h1] at h; cases h
theorem atI_get {α : Type} {xs : List α} {i : Int} {v : α} (h : atI xs i = some v) : ∃ j, seqIndex? i xs.length = some j ∧ xs[j]? = some v ∧ j < xs.length ∧ -(xs.length : Int) ≤ i ∧ i < xs.length := by
  unfold atI at h
  cases e : ixN xs.length i with
  | none => rw [e] at h; cases h
  | some j =>
    rw [e] at h
    obtain ⟨h1, h2, h3, h4⟩ := ixN_seq e
    exact ⟨j, h1, h, h2, h3, h4⟩
theorem atI_nat {α : Type} {xs : List α} {j : Nat} {v : α} (h : xs[j]? = some v) : atI xs (j : Int) = some v := by
  have hj : j < xs.length := (List.getElem?_eq_some_iff.mp h).1
  have e : ixN xs.length (j : Int) = some j := by
    unfold ixN
    rw [if_pos (by omega), if_pos (by omega)]; simp
  unfold atI; rw [e]; exact h

/-! ### what may be subscripted -/
/-- what stands as an index of a plain subscript -/
def PlainIx (b : Expr) : Prop := ∀ o i, subscripted b false o i = operate [o, i] (getItem o i)
/-- a subscript by values -/
def IxR (X : Cx) (r : R2) : Prop :=
  ∀ (value slice : Expr) (pins : List (Addr × Obj)) (s : Shared) (σ : St) (H : Hp) (x y : V) (v u : Value) (Q : VK), Inv X pins σ H s → RelV x v → RelV y u → r x y H Q →
    subscripted slice false v u = operate [v, u] (getItem v u) → wpAny (model X.prog X.w) X.A (subscriptTail value slice v u) (EP X pins σ Q) X.xe s
/-- a call of a builtin's method by values: the receiver, the arguments -/
def MtR (X : Cx) (id : String) (r : V → List V → Hp → VK → Prop) : Prop :=
  ∀ (pins : List (Addr × Obj)) (s : Shared) (σ : St) (H : Hp) (x : V) (xs : List V) (v : Value) (us : List Value) (Q : VK), Inv X pins σ H s → RelV x v → Vals xs us → r x xs H Q →
    wpAny (model X.prog X.w) X.A (call (.builtin id) (v :: us)) (EP X pins σ Q) X.xe s
section
variable {X : Cx} {a b : Expr} {ta tb : TE} {pos : Pos}
theorem IxR.or {r r' : R2} (h : IxR X r) (h' : IxR X r') : IxR X (fun x y H Q => r x y H Q ∨ r' x y H Q) := by
  intro value slice pins s σ H x y v u Q I rx ry q hs
  rcases q with q | q
  · exact h value slice pins s σ H x y v u Q I rx ry q hs
  · exact h' value slice pins s σ H x y v u Q I rx ry q hs
theorem MtR.or {id : String} {r r' : V → List V → Hp → VK → Prop} (h : MtR X id r) (h' : MtR X id r') : MtR X id (fun x xs H Q => r x xs H Q ∨ r' x xs H Q) := by
  intro pins s σ H x xs v us Q I rx rs q
  rcases q with q | q
  · exact h pins s σ H x xs v us Q I rx rs q
  · exact h' pins s σ H x xs v us Q I rx rs q
/-- a[b] -/
theorem pe_ix {r : R2} (hr : IxR X r) (ha : PE X a ta) (hb : PE X b tb) (hs : PlainIx b) : PE X (.Subscript a b pos) (tOp r ta tb) := by
  intro pins s σ H Q I h
  exact Subscript_ (binT ha hb I h fun v u s2 x y H2 I2 rx ry q => hr a b pins s2 σ H2 x y v u Q I2 rx ry q (hs _ _))

def rIxL (K : PySem.W.Frag) : R2 := fun x y H Q => ∃ p xs i v, x = .ref p ∧ y = .int i ∧ SqL K H p xs ∧ atI xs i = some v ∧ Q v H
def rIxT (K : PySem.W.Frag) : R2 := fun x y H Q => ∃ p xs i v, x = .ref p ∧ y = .int i ∧ SqT K H p xs ∧ atI xs i = some v ∧ Q v H
def rIxS : R2 := fun x y H Q => ∃ z i c, x = .str z ∧ y = .int i ∧ z.length ≤ sizeLine ∧ atI z.cps.toList i = some c ∧ Q (.str ⟨#[c]⟩) H
theorem ix_list : IxR X (rIxL X.K) := by
  intro value slice pins s σ H x y v u Q I rx ry h hs
  obtain ⟨p, xs, i, z, rfl, rfl, hq, he, q⟩ := h
  cases rx
  obtain ⟨t, rfl⟩ := ry
  obtain ⟨its, r, pl, hz⟩ := I.list hq
  obtain ⟨j, h1, h2, h3, h4, h5⟩ := atI_get he
  obtain ⟨w, ew, rw'⟩ := r.get h2
  have hl := r.length
  have hn := line63
  have fin : EP X pins σ Q w s := ⟨z, H, I, rw', q⟩
  by_cases h0 : 0 ≤ i
  · have hj : i.toNat = j := by
      rw [seqIndex_of h0 h5] at h1
      exact Option.some.inj h1
    exact item_listR pl.isList h0 (by omega) (by rw [hj]; simpa using ew) fin hs
  · have hj : (i + (its.toArray.size : Int)).toNat = j := by
      rw [seqIndex_neg (by omega) h4] at h1
      rw [List.size_toArray, ← hl]
      exact Option.some.inj h1
    exact subscriptTail_builtinR (x := w) pl.isList.typeIs slot_list_getitem.lookup
      (wpAny_getItem_list_neg (Q := fun r s' => r = w ∧ EP X pins σ Q r s') pl.isList (by omega) (by rw [List.size_toArray] <;> omega) (by omega) (by rw [hj]; simpa using ew) ⟨rfl, fin⟩) hs
theorem ix_tup : IxR X (rIxT X.K) := by
  intro value slice pins s σ H x y v u Q I rx ry h hs
  obtain ⟨p, xs, i, z, rfl, rfl, hq, he, q⟩ := h
  cases rx
  obtain ⟨t, rfl⟩ := ry
  obtain ⟨its, r, pl, hz⟩ := I.tuple hq
  obtain ⟨j, h1, h2, h3, h4, h5⟩ := atI_get he
  obtain ⟨w, ew, rw'⟩ := r.get h2
  have hl := r.length
  have hn := line63
  have fin : EP X pins σ Q w s := ⟨z, H, I, rw', q⟩
  exact subscriptTail_builtinR (x := w) pl.typeIs slot_tuple_getitem.lookup
    (getItem_tuple (j := j) (Q := fun r s' => r = w ∧ EP X pins σ Q r s') pl (by omega) (by omega) (by rw [List.size_toArray, ← hl]; exact h1) (by simpa using ew) ⟨rfl, fin⟩) hs
/-- list, tuple or str -/
def rIx (K : PySem.W.Frag) : R2 := fun x y H Q => rIxL K x y H Q ∨ rIxT K x y H Q ∨ rIxS x y H Q

/-! ### xs[i] = v, any sign -/
/-- the list's object behind a store -/
theorem mapSeq_set (its : List Value) (n j : Nat) (u : Value) : Obj.mapSeq (·.setIfInBounds j u) { cls := .type "list", data := .seq its.toArray n } = { cls := .type "list", data := .seq (its.set j u).toArray n } := by
  simp [Obj.mapSeq]
theorem Inv.lst {pins : List (Addr × Obj)} {σ : St} {H : Hp} {s : Shared} {p : Addr} {xs : List V} (I : Inv X pins σ H s) (h : H p = some (.lst xs)) :
    ∃ (its : List Value) (n : Nat), Vals xs its ∧ s.heap.get? p = some { cls := .type "list", data := .seq its.toArray n } ∧ xs.length ≤ sizeLine := by
  obtain ⟨z, its, n, r, e⟩ := I.hok p _ h
  exact ⟨its, n, r, e, z⟩
/-- the list at p is written by an update of its object -/
theorem Inv.lstUpd {pins : List (Addr × Obj)} {σ : St} {H : Hp} {s : Shared} {p : Addr} {xs ys : List V} {its its' : List Value} {n n' : Nat} {f : Obj → Obj} (I : Inv X pins σ H s) (h : H p = some (.lst xs))
    (ho : s.heap.get? p = some { cls := .type "list", data := .seq its.toArray n }) (hf : f { cls := .type "list", data := .seq its.toArray n } = { cls := .type "list", data := .seq its'.toArray n' }) (r : Vals ys its') (hz : ys.length ≤ sizeLine) (t : Nat) :
    Inv X pins σ (upd H p (.lst ys)) { s with heap := s.heap.update p f, toks := t } := by
  have e : (s.heap.update p f).get? p = some { cls := .type "list", data := .seq its'.toArray n' } := by
    rw [Heap.get?_update_self f ho (by rw [hf] <;> rfl), hf]
  refine I.write (x := p) (e := p) (by rw [h]; trivial) (.inl rfl) (fun b u hb q => (Heap.get?_update_other _ _ (Ne.symm hb)).trans q) ⟨_, e⟩ ?_
  exact ⟨hz, its', n', r, e⟩
def rSetL : V → V → V → Hp → (Hp → Prop) → Prop := fun o i v H Q => ∃ p xs k j, o = .ref p ∧ i = .int k ∧ H p = some (.lst xs) ∧ ixN xs.length k = some j ∧ Q (upd H p (.lst (xs.set j v)))
theorem set_list : PSet X rSetL := by
  intro pins s σ H o i v ov iv u Q I ro ri rv h
  obtain ⟨p, xs, k, j, rfl, rfl, hp, hj, q⟩ := h
  cases ro
  obtain ⟨t, rfl⟩ := ri
  obtain ⟨its, n, r, ho, hz⟩ := I.lst hp
  obtain ⟨h1, h2, h3, h4⟩ := ixN_seq hj
  have hl := r.length
  have hn := line63
  have I' : Inv X pins σ (upd H p (.lst (xs.set j v))) { s with heap := s.heap.update p (Obj.mapSeq (·.setIfInBounds j u)) } :=
    I.lstUpd hp ho (mapSeq_set its n j u) (r.set rv j) (by rw [List.length_set]; exact hz) s.toks
  by_cases h0 : 0 ≤ k
  · have hk : k.toNat = j := by
      rw [seqIndex_of h0 h4] at h1
      exact Option.some.inj h1
    exact PySem.W.ki_setAt ho h0 (by omega) (by rw [List.size_toArray, ← hl]; exact h4) (by rw [hk]; exact ⟨_, I', q⟩)
  · have hk : (k + (its.toArray.size : Int)).toNat = j := by
      rw [seqIndex_neg (by omega) h3] at h1
      rw [List.size_toArray, ← hl]
      exact Option.some.inj h1
    exact PySem.W.ki_setBack ho (by omega) (by rw [List.size_toArray, ← hl]; exact h3) (by omega) (by rw [hk]; exact ⟨_, I', q⟩)

/-! ### slices -/
theorem slice_bounds (lo hi : Option Int) (n : Nat) : (sliceBounds lo hi none n).1 = ((HT.sIx n 0 lo : Nat) : Int) ∧ (sliceBounds lo hi none n).2.1 = ((HT.sIx n n hi : Nat) : Int) ∧ (sliceBounds lo hi none n).2.2 = 1 := by
  refine ⟨?_, ?_, rfl⟩
  · cases lo with
    | none => simp [sliceBounds, HT.sIx]
    | some i =>
      simp only [sliceBounds, HT.sIx, Option.getD_none, show (1 : Int) > 0 by decide, if_true]
      by_cases h : i < 0
      · simp only [h, if_true] <;> omega
      · simp only [h, if_false] <;> omega
  · cases hi with
    | none => simp [sliceBounds, HT.sIx]
    | some i =>
      simp only [sliceBounds, HT.sIx, Option.getD_none, show (1 : Int) > 0 by decide, if_true]
      by_cases h : i < 0
      · simp only [h, if_true] <;> omega
      · simp only [h, if_false] <;> omega
theorem slicePick_cut (its : List Value) (lo hi : Option Int) : slicePick its.toArray lo hi none = ((its.drop (HT.sIx its.length 0 lo)).take (HT.sIx its.length its.length hi - HT.sIx its.length 0 lo)).toArray := by
  obtain ⟨h1, h2, h3⟩ := slice_bounds lo hi its.toArray.size
  unfold slicePick
  rw [h1, h2, h3]
  simp only [sliceRange_one, pick_run, List.size_toArray] <;> rfl
/-- xs[lo:hi] of a list: a new list -/
def rSlL (K : PySem.W.Frag) : V → Option Int → Option Int → Hp → VK → Prop := fun x lo hi H Q => ∃ a xs, x = .ref a ∧ SqL K H a xs ∧ ∀ p, H p = none → Q (.ref p) (upd H p (.lst (cutV xs lo hi)))
theorem sl_list : SlR X (rSlL X.K) := by
  intro pins s σ H x v vl vu lo hi sl Q I rx hs pl pu h
  obtain ⟨a, xs, rfl, hx, q⟩ := h
  cases rx
  obtain ⟨its, r, ht, hz⟩ := I.list hx
  have hlen := r.length
  refine ⟨"list", _, slot_list_getitem.lookup, ht.isList.typeIs, ?_⟩
  refine wpAny_getItem_list_slice ht.isList hs pl pu .none (by simp) ?_ (by rw [List.size_toArray] <;> omega)
  rw [slicePick_cut, ← hlen]
  refine ⟨.ref s.heap.objs.size, _, I.laid (t' := s.toks) (o := .lst (cutV xs lo hi)) (fun b ob q => Heap.get?_push_of_some _ q) (Nat.le_refl _) ?_, rfl, q _ (I.hok.fresh (Nat.le_refl _))⟩
  exact ⟨Nat.le_trans (cutV_length xs lo hi) hz, _, 0, (r.drop (HT.sIx xs.length 0 lo)).take (HT.sIx xs.length xs.length hi - HT.sIx xs.length 0 lo), Heap.get?_push_size _ rfl⟩

/-! ### in, not in: flat items -/
def flatV : V → Bool
  | .non => true
  | .bl _ => true
  | .int _ => true
  | .str _ => true
  | _ => false
/-- == of flat values -/
def eqV : V → V → Bool
  | .non, .non => true
  | .bl a, .bl b => a == b
  | .bl a, .int b => (if a then 1 else 0) == b
  | .int a, .bl b => a == (if b then 1 else 0)
  | .int a, .int b => a == b
  | .str a, .str b => a == b
  | _, _ => false
theorem eqAt_V {A : Around} {s : Shared} {y x : V} {u v : Value} (ry : RelV y u) (rx : RelV x v) (fy : flatV y = true) (fx : flatV x = true) : SeqAt.EqAt A s u v (eqV y x) := by
  cases y with
  | non =>
    cases ry
    cases x with
    | non => cases rx; exact SeqAt.EqAt.same _
    | bl b => cases rx; exact SeqAt.EqAt.none_bool b
    | int b => obtain ⟨t, rfl⟩ := rx; exact SeqAt.EqAt.none_int b t
    | str b => obtain ⟨t, rfl⟩ := rx; exact SeqAt.EqAt.none_str b t
    | _ => exact absurd (show false = true from fx) Bool.false_ne_true
  | bl a =>
    cases ry
    cases x with
    | non => cases rx; exact SeqAt.EqAt.bool_none a
    | bl b => cases rx; exact SeqAt.EqAt.bool_bool a b
    | int b => obtain ⟨t, rfl⟩ := rx; exact SeqAt.EqAt.bool_int a b t
    | str b => obtain ⟨t, rfl⟩ := rx; exact SeqAt.EqAt.bool_str a b t
    | _ => exact absurd (show false = true from fx) Bool.false_ne_true
  | int a =>
    obtain ⟨t', rfl⟩ := ry
    cases x with
    | non => cases rx; exact SeqAt.EqAt.int_none a t'
    | bl b => cases rx; exact SeqAt.EqAt.int_bool a t' b
    | int b => obtain ⟨t, rfl⟩ := rx; exact SeqAt.EqAt.int_int a t' b t
    | str b => obtain ⟨t, rfl⟩ := rx; exact SeqAt.EqAt.int_str a t' b t
    | _ => exact absurd (show false = true from fx) Bool.false_ne_true
  | str a =>
    obtain ⟨t', rfl⟩ := ry
    cases x with
    | non => cases rx; exact SeqAt.EqAt.str_none a t'
    | bl b => cases rx; exact SeqAt.EqAt.str_bool a t' b
    | int b => obtain ⟨t, rfl⟩ := rx; exact SeqAt.EqAt.str_int a t' b t
    | str b => obtain ⟨t, rfl⟩ := rx; exact SeqAt.EqAt.str_str a t' b t
    | _ => exact absurd (show false = true from fx) Bool.false_ne_true
  | _ => exact absurd (show false = true from fy) Bool.false_ne_true
/-- the items' answers, read off the values (a value's own answer does not lean on its token) -/
def eqU (x : V) (u : Value) : Bool := match u with
  | .none => eqV .non x
  | .bool b => eqV (.bl b) x
  | .int i _ => eqV (.int i) x
  | .str z _ => eqV (.str z) x
  | _ => false
theorem eqU_of {x y : V} {u : Value} (r : RelV y u) (f : flatV y = true) : eqU x u = eqV y x := by
  cases y with
  | non => cases r; rfl
  | bl b => cases r; rfl
  | int i => obtain ⟨t, rfl⟩ := r; rfl
  | str z => obtain ⟨t, rfl⟩ := r; rfl
  | _ => exact absurd (show false = true from f) Bool.false_ne_true
theorem any_eqU {x : V} : ∀ {xs : List V} {us : List Value}, Vals xs us → xs.all flatV = true → us.any (eqU x) = xs.any fun y => eqV y x
  | _, _, .nil, _ => rfl
  | y :: xs, u :: us, .cons r t, f => by
    rw [List.all_cons, Bool.and_eq_true] at f
    rw [List.any_cons, List.any_cons, eqU_of r f.1, any_eqU t f.2]
theorem mem_eqAt {A : Around} {s : Shared} {x : V} {v : Value} (rx : RelV x v) (fx : flatV x = true) : ∀ {xs : List V} {us : List Value}, Vals xs us → xs.all flatV = true → ∀ u ∈ us, SeqAt.EqAt A s u v (eqU x u)
  | _, _, .nil, _ => fun u hu => by cases hu
  | y :: xs, u :: us, .cons r t, f => fun u' hu => by
    rw [List.all_cons, Bool.and_eq_true] at f
    rcases List.mem_cons.mp hu with rfl | hu
    · rw [eqU_of r f.1]; exact eqAt_V r rx f.1 fx
    · exact mem_eqAt rx fx t f.2 u' hu
def inV (x : V) (xs : List V) : Bool := xs.any fun y => eqV y x
/-- x in a list or tuple of flat items -/
def rIn (K : PySem.W.Frag) (neg : Bool) : R2 := fun x y H Q => ∃ p xs, y = .ref p ∧ (SqL K H p xs ∨ SqT K H p xs) ∧ flatV x = true ∧ xs.all flatV = true ∧ Q (.bl (if neg then !inV x xs else inV x xs)) H
theorem op_in_seq : OpR X (compareOp .In) (rIn X.K false) := by
  intro pins s σ H x y v u Q I rx ry h
  obtain ⟨p, xs, rfl, hq, fx, fs, q⟩ := h
  cases ry
  rcases hq with hq | hq
  · obtain ⟨its, r, pl, hz⟩ := I.list hq
    refine SeqAt.in_listAt (eqU x) pl.isList (fun w hw => mem_eqAt rx fx r fs w (by simpa using hw)) ⟨.bl _, H, I, rfl, ?_⟩
    rw [show its.toArray.any (eqU x) = its.any (eqU x) by simp, any_eqU r fs]
    exact q
  · obtain ⟨its, r, pl, hz⟩ := I.tuple hq
    refine SeqAt.in_tupleAt (eqU x) pl (fun w hw => mem_eqAt rx fx r fs w (by simpa using hw)) ⟨.bl _, H, I, rfl, ?_⟩
    rw [show its.toArray.any (eqU x) = its.any (eqU x) by simp, any_eqU r fs]
    exact q
theorem op_notIn_seq : OpR X (compareOp .NotIn) (rIn X.K true) := by
  intro pins s σ H x y v u Q I rx ry h
  obtain ⟨p, xs, rfl, hq, fx, fs, q⟩ := h
  cases ry
  rcases hq with hq | hq
  · obtain ⟨its, r, pl, hz⟩ := I.list hq
    refine SeqAt.notIn_listAt (eqU x) pl.isList (fun w hw => mem_eqAt rx fx r fs w (by simpa using hw)) ⟨.bl _, H, I, rfl, ?_⟩
    rw [show its.toArray.any (eqU x) = its.any (eqU x) by simp, any_eqU r fs]
    exact q
  · obtain ⟨its, r, pl, hz⟩ := I.tuple hq
    refine SeqAt.notIn_tupleAt (eqU x) pl (fun w hw => mem_eqAt rx fx r fs w (by simpa using hw)) ⟨.bl _, H, I, rfl, ?_⟩
    rw [show its.toArray.any (eqU x) = its.any (eqU x) by simp, any_eqU r fs]
    exact q

/-! ### len, list(x), tuple(x) of any list or tuple that is read -/
theorem call_len_seq : CallR X (.builtin "len") (fun xs H Q => ∃ p ys, xs = [.ref p] ∧ (SqL X.K H p ys ∨ SqT X.K H p ys) ∧ Q (.int ys.length) H) := by
  intro pins s σ H xs us Q I r h
  obtain ⟨p, ys, rfl, hq, q⟩ := h
  obtain ⟨u, rfl, rx⟩ := vals1 r
  cases rx
  have hn := line63
  rcases hq with hq | hq
  · obtain ⟨its, r', pl, hz⟩ := I.list hq
    have hlen := r'.length
    exact Calls.call_len_list pl.isList (by simp only [List.size_toArray] <;> omega) ⟨.int ys.length, H, I.tok _, ⟨s.toks + 1, by rw [List.size_toArray, hlen]⟩, q⟩
  · obtain ⟨its, r', pl, hz⟩ := I.tuple hq
    have hlen := r'.length
    exact len_tuple pl (by simp only [List.size_toArray] <;> omega) ⟨.int ys.length, H, I.tok _, ⟨s.toks + 1, by rw [List.size_toArray, hlen]⟩, q⟩
theorem CallR.or {f : Value} {r r' : List V → Hp → VK → Prop} (h : CallR X f r) (h' : CallR X f r') : CallR X f (fun xs H Q => r xs H Q ∨ r' xs H Q) := by
  intro pins s σ H xs us Q I rs q
  rcases q with q | q
  · exact h pins s σ H xs us Q I rs q
  · exact h' pins s σ H xs us Q I rs q
theorem call_list_of : CallR X (.type "list") (fun xs H Q => ∃ p ys, xs = [.ref p] ∧ (SqL X.K H p ys ∨ SqT X.K H p ys) ∧ ∀ l, H l = none → Q (.ref l) (upd H l (.lst ys))) := by
  intro pins s σ H xs us Q I r h
  obtain ⟨p, ys, rfl, hq, q⟩ := h
  obtain ⟨u, rfl, rx⟩ := vals1 r
  cases rx
  have fin : ∀ (its : List Value), Vals ys its → ys.length ≤ sizeLine → ∀ (h' : Heap) (c' : Nat), (∀ b o', s.heap.get? b = some o' → h'.get? b = some o') →
      h'.get? s.heap.objs.size = some { cls := .type "list", dict := none, data := .seq its.toArray c', slots := #[] } → EP X pins σ Q (.ref s.heap.objs.size) { s with heap := h' } := fun its r' hz h' c' kp e =>
    ⟨.ref s.heap.objs.size, _, I.laid (t' := s.toks) kp (Nat.le_refl _) (show ObjOk X.prog X.w _ h' _ (.lst ys) from ⟨hz, its, c', r', e⟩), rfl, q _ (I.hok.fresh (Nat.le_refl _))⟩
  rcases hq with hq | hq
  · obtain ⟨its, r', pl, hz⟩ := I.list hq
    have hlen := r'.length
    obtain ⟨o, ho, hc, n, hd⟩ := pl.isList
    exact call_list_seq p (.inl rfl) ho hc hd (fun h' c' kp e => fin its r' hz h' c' kp e) (by simp only [List.size_toArray] <;> omega)
  · obtain ⟨its, r', pl, hz⟩ := I.tuple hq
    have hlen := r'.length
    obtain ⟨o, ho, hc, n, hd⟩ := pl
    exact call_list_seq p (.inr rfl) ho hc hd (fun h' c' kp e => fin its r' hz h' c' kp e) (by simp only [List.size_toArray] <;> omega)
theorem call_tuple_of : CallR X (.type "tuple") (fun xs H Q => ∃ p ys, xs = [.ref p] ∧ ((SqL X.K H p ys ∧ ∀ l, H l = none → Q (.ref l) (upd H l (.tup ys))) ∨ (SqT X.K H p ys ∧ Q (.ref p) H))) := by
  intro pins s σ H xs us Q I r h
  obtain ⟨p, ys, rfl, h⟩ := h
  obtain ⟨u, rfl, rx⟩ := vals1 r
  cases rx
  rcases h with ⟨hq, q⟩ | ⟨hq, q⟩
  · obtain ⟨its, r', pl, hz⟩ := I.list hq
    have hlen := r'.length
    refine call_tuple_list pl.isList (fun h' kp => ?_) (by simp only [List.size_toArray] <;> omega)
    have I1 : Inv X pins σ H { s with heap := h' } := I.kept (t' := s.toks) kp
    have I2 : Inv X pins σ (upd H h'.objs.size (.tup ys)) { s with heap := h'.push { cls := .type "tuple", data := .seq its.toArray } } :=
      I1.laid (t' := s.toks) (fun b o e => Heap.get?_push_of_some _ e) (Nat.le_refl _) (show ObjOk X.prog X.w _ _ _ (.tup ys) from ⟨hz, its, r', TupN.new _ _⟩)
    exact ⟨.ref h'.objs.size, _, I2, rfl, q _ (I1.hok.fresh (Nat.le_refl _))⟩
  · obtain ⟨its, r', pl, hz⟩ := I.tuple hq
    exact call_tuple_same pl ⟨.ref p, H, I, rfl, q⟩

/-! ### the call of a builtin's method: o.m(..) -/
/-- the value is of that builtin type -/
def tyV (K : PySem.W.Frag) (T : String) (x : V) (H : Hp) : Prop := match x with
  | .str _ => T = "str"
  | .int _ => T = "int"
  | .ref p => (T = "list" ∧ ∃ xs, SqL K H p xs) ∨ (T = "tuple" ∧ ∃ o, K.lookup p = some o ∧ o.cls = .type "tuple" ∧ o.dict = none) ∨
      (T = "dict" ∧ ((∃ kvs, H p = some (.dK kvs)) ∨ ∃ kvs, H p = some (.dT kvs))) ∨ (T = "set" ∧ ∃ S n, H p = some (.set S n))
  | _ => False
theorem tyV_is {pins : List (Addr × Obj)} {σ : St} {H : Hp} {s : Shared} {T : String} {x : V} {v : Value} (I : Inv X pins σ H s) (r : RelV x v) (ty : tyV X.K T x H) :
    s.TypeIs v T ∧ ∀ a, v = .ref a → ∃ ob, s.heap.get? a = some ob ∧ ob.dict = none := by
  cases x with
  | str z =>
    obtain ⟨t, rfl⟩ := r
    cases (show T = "str" from ty)
    exact ⟨typeIs_str s z t, fun _ e => nomatch e⟩
  | int i =>
    obtain ⟨t, rfl⟩ := r
    cases (show T = "int" from ty)
    exact ⟨typeIs_int s i t, fun _ e => nomatch e⟩
  | ref p =>
    cases r
    rcases ty with ⟨rfl, xs, hq⟩ | ⟨rfl, o, hk, hc, hd⟩ | ⟨rfl, hk⟩ | ⟨rfl, S, n, hk⟩
    · obtain ⟨its, _, pl, _⟩ := I.list hq
      refine ⟨pl.isList.typeIs, fun a e => ?_⟩
      cases e
      obtain ⟨o, n, e, c, hd, _⟩ := pl
      exact ⟨o, e, hd⟩
    · refine ⟨⟨o, I.kIn p o hk, hc⟩, fun a e => ?_⟩
      cases e
      exact ⟨o, I.kIn _ o hk, hd⟩
    · have z : ∃ o, s.heap.get? p = some o ∧ o.ExactDict := by
        rcases hk with ⟨kvs, hk⟩ | ⟨kvs, hk⟩
        · obtain ⟨_, _, _, _, o, _, _, e, ex, _⟩ := I.hok p _ hk
          exact ⟨o, e, ex⟩
        · obtain ⟨_, _, _, _, o, _, _, e, ex, _⟩ := I.hok p _ hk
          exact ⟨o, e, ex⟩
      obtain ⟨o, e, ex⟩ := z
      refine ⟨⟨o, e, ex.1⟩, fun a e2 => ?_⟩
      cases e2
      exact ⟨o, e, ex.2.1⟩
    · obtain ⟨o, _, _, _, e, ex, _⟩ := I.hok p _ hk
      refine ⟨⟨o, e, ex.1⟩, fun a e2 => ?_⟩
      cases e2
      exact ⟨o, e, ex.2.1⟩
  | _ => exact False.elim ty
def tBM0 (K : PySem.W.Frag) (T : String) (r : V → List V → Hp → VK → Prop) (to : TE) : TE := fun σ H Q => to σ H fun x H1 => tyV K T x H1 ∧ r x [] H1 Q
def tBM (K : PySem.W.Frag) (T : String) (r : V → List V → Hp → VK → Prop) (to : TE) (t : TA) : TE := fun σ H Q => to σ H fun x H1 => tyV K T x H1 ∧ t σ H1 fun xs H2 => r x xs H2 Q
variable {o e : Expr} {es : List Expr} {to : TE} {t : TA} {name : Str} {apos cpos : Pos} {T id : String} {r : V → List V → Hp → VK → Prop}
theorem pe_bm0 (pa : PlainAttrs T) (slot : Slot T name id) (hty : typeOf (.builtin id) = pure (.type "method_descriptor")) (hm : MtR X id r) (ho : PE X o to)
    (hbase : attributeBase o name X.env (eval o X.env) = eval o X.env := by rfl) (hline : (apos.endLine == cpos.line) = true := by rfl) : PE X (.Call (.Attribute o name apos) [] [] cpos) (tBM0 X.K T r to) := by
  intro pins s σ H Q I h
  refine wpAny_Call_method0_late hbase hline (thn (ho pins s σ H _ I h) fun v s1 ⟨x, H1, I1, r1, ty, q1⟩ => ?_)
  obtain ⟨h1, h2⟩ := tyV_is I1 r1 ty
  exact ⟨T, id, pa, slot, hty, h1, h2, Calls.callWith_builtin rfl (PySem.evalArgs_none (hm pins s1 σ H1 x [] v [] Q I1 r1 .nil q1))⟩
theorem pe_bm (pa : PlainAttrs T) (slot : Slot T name id) (hty : typeOf (.builtin id) = pure (.type "method_descriptor")) (hm : MtR X id r) (ho : PE X o to) (ha : PA X (e :: es) t)
    (hbase : attributeBase o name X.env (eval o X.env) = eval o X.env := by rfl)
    (hfew : ((backTo cpos (starEach (e :: es) X.env)).all (fun x => !x.1) && (backToKw cpos (keywordEach [] X.env)).all (fun x => x.1.isSome)
      && decide ((e :: es).length + ([] : List Keyword).length + (if ([] : List Keyword).isEmpty then 0 else 1) < 30)) = true := by rfl)
    (hline : (apos.endLine == cpos.line) = true := by rfl) (hs : starEach (e :: es) X.env = (false, eval e X.env) :: starEach es X.env := by rfl) (hplain : (backTo cpos (starEach es X.env)).any (·.1) = false := by rfl) :
    PE X (.Call (.Attribute o name apos) (e :: es) [] cpos) (tBM X.K T r to t) := by
  intro pins s σ H Q I h
  refine wpAny_Call_method_late hbase hfew hline rfl (thn (ho pins s σ H _ I h) fun v s1 ⟨x, H1, I1, r1, ty, q1⟩ => ?_)
  obtain ⟨h1, h2⟩ := tyV_is I1 r1 ty
  refine ⟨T, id, pa, slot, hty, h1, h2, ?_⟩
  have hA := ha cpos pins s1 σ H1 _ I1 q1
  rw [hs] at hA ⊢
  refine Calls.callWith_builtin (by show (false || (backTo cpos (starEach es X.env)).any (·.1)) = false; rw [hplain] <;> rfl) (Calls.evalArgs_plain ?_)
  exact thn hA fun us s2 ⟨vs, H2, I2, r2, q2⟩ => hm pins s2 σ H2 x vs v us Q I2 r1 r2 q2
/- xs.append(e), list.index on a module's tuple .. are MtR facts of 06m -/
end
end L2

namespace L2
open PySem PySem.Spec PyProof.Rows

def MtM (X : Cx) (id : String) (r : V → List V → Hp → VK → Prop) : Prop :=
  ∀ (pins : List (Addr × Obj)) (s : Shared) (σ : St) (H : Hp) (x : V) (xs : List V) (v : Value) (us : List Value) (Q : VK), Inv X pins σ H s → RelV x v → Vals xs us → r x xs H Q →
    wpAny (model X.prog X.w) X.A (call (.builtin id) (v :: us)) (EP X pins σ Q) X.xe s

/-! ### lists of values -/
theorem Vals.one : ∀ {x : V} {us : List Value}, Vals [x] us → ∃ u, us = [u] ∧ RelV x u
  | _, _, .cons r .nil => ⟨_, rfl, r⟩
theorem Vals.two : ∀ {x y : V} {us : List Value}, Vals [x, y] us → ∃ u v, us = [u, v] ∧ RelV x u ∧ RelV y v
  | _, _, _, .cons r (.cons q .nil) => ⟨_, _, rfl, r, q⟩
theorem Vals.zero : ∀ {us : List Value}, Vals [] us → us = []
  | _, .nil => rfl
theorem Vals.dropLast {xs : List V} {us : List Value} (h : Vals xs us) : Vals xs.dropLast us.dropLast := by
  induction h with
  | nil => exact .nil
  | cons r t ih =>
    cases t with
    | nil => exact .nil
    | cons q t' => exact .cons r ih
theorem Vals.eraseIdx : ∀ {xs : List V} {us : List Value} (i : Nat), Vals xs us → Vals (xs.eraseIdx i) (us.eraseIdx i)
  | _, _, _, .nil => .nil
  | _, _, 0, .cons _ t => t
  | _, _, i + 1, .cons r t => .cons r (Vals.eraseIdx i t)
theorem Vals.reverse {xs : List V} {us : List Value} (h : Vals xs us) : Vals xs.reverse us.reverse := by
  induction h with
  | nil => exact .nil
  | cons r t ih => rw [List.reverse_cons, List.reverse_cons]; exact Vals.append ih (.cons r .nil)
theorem erase_last {α : Type} (l : List α) : l.eraseIdx (l.length - 1) = l.dropLast := by
  induction l with
  | nil => rfl
  | cons a r ih =>
    cases r with
    | nil => rfl
    | cons b r =>
      have e : (a :: b :: r).length - 1 = ((b :: r).length - 1) + 1 := by
        have h1 : (a :: b :: r).length = r.length + 2 := rfl
        have h2 : (b :: r).length = r.length + 1 := rfl
        omega
      rw [e, List.eraseIdx_cons_succ, ih]
      all_goals rfl

section
variable {X : Cx} {pins : List (Addr × Obj)} {σ : St} {H : Hp} {s : Shared} {l b : Addr} {xs ys zs : List V}

/-! ### the two steps: a tracked list is rewritten, a new list is laid -/
theorem Inv.lset {its its' : List Value} {n : Nat} {f : Array Value → Array Value} {t' : Nat} (I : Inv X pins σ H s) (hH : H l = some (.lst xs))
    (e : s.heap.get? l = some { cls := .type "list", data := .seq its.toArray n }) (hf : f its.toArray = its'.toArray) (hv : Vals ys its') (hz : ys.length ≤ sizeLine) :
    Inv X pins σ (upd H l (.lst ys)) { s with heap := s.heap.update l (Obj.mapSeq f), toks := t' } := by
  have q := PySem.IsL.update e f
  rw [hf] at q
  refine I.write (x := l) (e := l) (by rw [hH]; exact trivial) (.inl rfl) (fun b' u hb hu => (Heap.get?_update_other s.heap (Obj.mapSeq f) (Ne.symm hb)).trans hu) ⟨_, q⟩ ?_
  exact ⟨hz, its', _, hv, q⟩
theorem Inv.lnew {its : List Value} {t' : Nat} (I : Inv X pins σ H s) (hv : Vals ys its) (hz : ys.length ≤ sizeLine) :
    Inv X pins σ (upd H s.heap.objs.size (.lst ys)) { s with heap := s.heap.push { cls := .type "list", data := .seq its.toArray }, toks := t' } :=
  I.laid (fun _ _ q => Heap.get?_push_of_some _ q) (Nat.le_refl _) ⟨hz, its, 0, hv, Heap.get?_push_size _ rfl⟩
theorem Inv.fresh (I : Inv X pins σ H s) : H s.heap.objs.size = none := I.hok.fresh (Nat.le_refl _)
theorem Inv.lstM (I : Inv X pins σ H s) (hH : H l = some (.lst xs)) : xs.length ≤ sizeLine ∧ ∃ (its : List Value) (n : Nat), Vals xs its ∧ xs.length = its.length ∧ s.heap.get? l = some { cls := .type "list", data := .seq its.toArray n } := by
  obtain ⟨z, its, n, r, e⟩ := I.hok l _ hH
  exact ⟨z, its, n, r, r.length, e⟩

theorem notLongL {n : Nat} (h : n ≤ sizeLine) : Builtin.List.listTooLong n = false := by
  unfold Builtin.List.listTooLong
  exact decide_eq_false (by omega)
end

section
variable {X : Cx}

/-! ### methods -/
def rAppend : V → List V → Hp → VK → Prop := fun x vs H Q => ∃ l xs y, x = .ref l ∧ vs = [y] ∧ H l = some (.lst xs) ∧ xs.length < sizeLine ∧ Q .non (upd H l (.lst (xs ++ [y])))
theorem mt_append : MtM X "list.append" rAppend := by
  intro pins s σ H x vs v us Q I rx rv h
  obtain ⟨l, xs, y, rfl, rfl, hH, hz, q⟩ := h
  cases rx
  obtain ⟨u, rfl, ru⟩ := rv.one
  obtain ⟨z, its, n, r, hl, e⟩ := I.lstM hH
  refine call_meets F.slot_list_append ⟨_, e, rfl⟩ F.entry_list_append (F.args_list_append_2 _ _) (PySem.list_append l its.toArray n u (by rw [List.size_toArray]; omega)) ⟨e, ?_⟩
  refine ⟨.non, _, I.lset (its' := its ++ [u]) hH e (by simp) (r.append (.cons ru .nil)) ?_, rfl, q⟩
  rw [List.length_append, List.length_singleton]
  omega

def rExtend : V → List V → Hp → VK → Prop := fun x vs H Q => ∃ l b xs zs, x = .ref l ∧ vs = [.ref b] ∧ H l = some (.lst xs) ∧ H b = some (.lst zs) ∧ xs.length + zs.length ≤ sizeLine ∧ Q .non (upd H l (.lst (xs ++ zs)))
theorem mt_extend : MtM X "list.extend" rExtend := by
  intro pins s σ H x vs v us Q I rx rv h
  obtain ⟨l, b, xs, zs, rfl, rfl, hH, hB, hz, q⟩ := h
  cases rx
  obtain ⟨u, rfl, ru⟩ := rv.one
  cases ru
  obtain ⟨z, its, n, r, hl, e⟩ := I.lstM hH
  obtain ⟨z2, its2, n2, r2, hl2, e2⟩ := I.lstM hB
  have hsz : its.toArray.size + its2.toArray.size ≤ sizeLine := by rw [List.size_toArray, List.size_toArray]; omega
  have hlong : ¬ (!its.toArray.isEmpty && Builtin.List.listTooLong (its.toArray.size + its2.toArray.size)) = true := by
    rw [notLongL hsz, Bool.and_false]
    exact Bool.false_ne_true
  refine call_meets F.slot_list_extend ⟨_, e, rfl⟩ F.entry_list_extend (F.args_list_extend_2 _ _)
    (AutoSeq1.list_extend_list_list_0 l its.toArray n b its2.toArray n2 hlong (by rw [List.size_toArray]; omega) (by omega)) ⟨e, e2, ?_⟩
  refine ⟨.non, _, I.lset (its' := its ++ its2) hH e (by simp) (r.append r2) ?_, rfl, q⟩
  rw [List.length_append]
  omega

def rPop : V → List V → Hp → VK → Prop := fun x vs H Q => ∃ l xs y, x = .ref l ∧ vs = [] ∧ H l = some (.lst xs) ∧ xs[xs.length - 1]? = some y ∧ Q y (upd H l (.lst xs.dropLast))
theorem mt_pop : MtM X "list.pop" rPop := by
  intro pins s σ H x vs v us Q I rx rv h
  obtain ⟨l, xs, y, rfl, rfl, hH, hy, q⟩ := h
  cases rx
  have hus := rv.zero
  subst hus
  obtain ⟨z, its, n, r, hl, e⟩ := I.lstM hH
  obtain ⟨u, hu, ru⟩ := r.get hy
  have hy' : its.toArray[its.toArray.size - 1]? = some u := by
    show its.toArray[its.length - 1]? = some u
    rw [← Array.getElem?_toList, ← hl]
    exact hu
  refine call_meets F.slot_list_pop ⟨_, e, rfl⟩ F.entry_list_pop (F.args_list_pop_1 _) (MeetsSeq.list_pop_last l its.toArray n u hy' (by rw [List.size_toArray]; omega)) ⟨e, ?_⟩
  refine ⟨y, _, I.lset (its' := its.dropLast) hH e ?_ r.dropLast ?_, ru, q⟩
  · show its.toArray.eraseIdxIfInBounds (its.toArray.size - 1) = its.dropLast.toArray
    rw [List.size_toArray, List.eraseIdxIfInBounds_toArray, erase_last]
  · rw [List.length_dropLast]
    omega

def rPopAt : V → List V → Hp → VK → Prop := fun x vs H Q => ∃ l xs i k y, x = .ref l ∧ vs = [.int i] ∧ H l = some (.lst xs) ∧ -(2 ^ 63) ≤ i ∧ i < 2 ^ 63 ∧ seqIndex? i xs.length = some k ∧ xs[k]? = some y ∧ Q y (upd H l (.lst (xs.eraseIdx k)))

def rReverse : V → List V → Hp → VK → Prop := fun x vs H Q => ∃ l xs, x = .ref l ∧ vs = [] ∧ H l = some (.lst xs) ∧ Q .non (upd H l (.lst xs.reverse))

def rClear : V → List V → Hp → VK → Prop := fun x vs H Q => ∃ l xs, x = .ref l ∧ vs = [] ∧ H l = some (.lst xs) ∧ Q .non (upd H l (.lst []))

/-! ### list + list, list += list, list * int -/
def rCat : R2 := fun x y H Q => ∃ l b xs zs, x = .ref l ∧ y = .ref b ∧ H l = some (.lst xs) ∧ H b = some (.lst zs) ∧ xs.length + zs.length ≤ sizeLine ∧ ∀ p, H p = none → Q (.ref p) (upd H p (.lst (xs ++ zs)))
theorem op_cat : OpR X (binaryOp .Add) rCat := by
  intro pins s σ H x y v u Q I rx ry h
  obtain ⟨l, b, xs, zs, rfl, rfl, hH, hB, hz, q⟩ := h
  cases rx
  cases ry
  obtain ⟨z, its, n, r, hl, e⟩ := I.lstM hH
  obtain ⟨z2, its2, n2, r2, hl2, e2⟩ := I.lstM hB
  refine PySem.P.add_list e e2 ?_ (by rw [List.size_toArray, List.size_toArray]; omega)
  have ea : its.toArray ++ its2.toArray = (its ++ its2).toArray := by simp
  rw [ea]
  exact ⟨.ref _, _, I.lnew (t' := s.toks) (r.append r2) (by rw [List.length_append]; omega), rfl, q _ I.fresh⟩
/-- a list times an int (a negative one is nothing) -/
def rRep : R2 := fun x y H Q => ∃ l k xs, x = .ref l ∧ y = .int k ∧ H l = some (.lst xs) ∧ -(2 ^ 63) ≤ k ∧ k < 2 ^ 63 ∧ xs.length * k.toNat ≤ sizeLine ∧
  ∀ p, H p = none → Q (.ref p) (upd H p (.lst (List.replicate k.toNat xs).flatten))

/-! ### del xs[i] -/
end

/-! ### xs[a:b] = ys -/
section
variable {prog : Program} {w : World} {A : Around} {E : Value → Shared → Prop} {s : Shared}
end

section
variable {X : Cx}
end
end L2

namespace Att
open PySem PySem.W PySem.Calls PyProof.Rows

/-! ### the script -/
theorem ints_of_wellAll {P : Params} {h : Heap} : ∀ (ns : List Int) (vs : List Value), WellAll P h vs (ns.map WData.int) → IntsAre vs ns := by
  intro ns
  induction ns with
  | nil =>
    intro vs w
    rw [List.map_nil] at w
    cases w
    exact .nil
  | cons n ns ih =>
    intro vs w
    rw [List.map_cons] at w
    cases w with
    | cons a b =>
      cases a
      exact .cons _ _ (ih _ b)

theorem script_of {l : OpenLaw} {n : Nat} (hn : l.most = some n) {P : Params} {h : Heap} {args : List WData} {vals : List Value}
    (hpre : l.row.toRowW.claim.pre args = true) (hwl : WellAll P h vals args) :
    ∃ a vs ns, vals = [Value.ref a] ∧ args = [WData.list (ns.map WData.int)] ∧ h.get? a = some { cls := .type "list", data := .seq vs.toArray } ∧ IntsAre vs ns ∧ ns.length ≤ n := by
  have hsh : WShape.hasAll [] args [.list .int] = true := (pre_splitW hpre).1
  have hc : l.pre.holds [] { args := args } = true := (pre_splitW hpre).2
  obtain ⟨d, r, rfl, h1, h2⟩ := hasAllW_cons hsh
  obtain rfl := hasAllW_nil h2
  obtain ⟨xs, rfl, h3⟩ := hasW_list h1
  obtain ⟨ns, rfl⟩ := items_int h3
  have hlen : ns.length ≤ n := by
    unfold OpenLaw.pre at hc
    have h4 : (WTm.not (.lt (.lit (.int (n : Int))) (.len (.arg 0)))).holds [] { args := [.list (ns.map .int)] } = true := by
      have h4 := (holds_andW hc).1
      rw [hn] at h4
      exact h4
    have h5 := condW_of h4 (w_not (w_lt w_lit (w_len_list (w_arg rfl))))
    rw [List.length_map] at h5
    refine Nat.le_of_not_lt fun q => ?_
    have q' : (n : Int) < ((ns.length : Nat) : Int) := by omega
    first
      | (rw [decide_eq_true q'] at h5; exact absurd h5 (by decide))
      | (simp at h5; omega)
  cases hwl with
  | cons w1 w2 =>
    cases w2
    cases w1 with
    | list ho hall => exact ⟨_, _, ns, rfl, rfl, ho, ints_of_wellAll ns _ hall, hlen⟩

theorem post_true (l : OpenLaw) (args : List WData) : l.row.toRowW.claim.post args (.bool true) args = true :=
  postW_of (r := l.row.toRowW) (X := (true == true))
    (show WShape.has [] (.bool true) .bool = true by first | rfl | decide | simp [WShape.has, WShape.arms, WShape.armsAll])
    (show (WTm.eq .res (.lit (.bool true))).value [] { args := args, res := some (.bool true), after := args } = some (.bool (true == true)) from w_eq_bool (w_res rfl) w_lit) rfl

/-! ### the attachment: holds_open's last premise (the goal 'hc' behind k_head) from a wpAny of the law's body -/

/-- the same from a codeAny of the CALL (for a layer whose function contracts speak of calls) -/
theorem attach_call {l : OpenLaw} {n : Nat} {q : Program} {loose : List Str} {XP : (Str → Option Value) → Heap → Prop} {YP : World → Heap → Prop} {d : DefRec}
    (hn : l.most = some n) (hdf : d.params.defaults = [])
    (call : ∀ (w : World) (s₀ s₁ : Shared) (mg mb : Str → Option Value) (fa : Addr) (o : Obj) (pm cd doc : Value) (a : Addr) (vs : List Value) (ns : List Int),
      Ground q loose [] XP w s₀ mg mb s₁.heap → YP w s₁.heap →
      s₁.heap.get? fa = some o → o.data = .func (docDef d.name d.params d.body d.scope pm cd doc) → s₁.heap.CodeRec cd d.name → mg d.name = some (.ref fa) →
      s₁.heap.get? a = some { cls := .type "list", data := .seq vs.toArray } → IntsAre vs ns → ns.length ≤ n → s₁.gens = #[] →
      codeAny (model l.prog w) callerA (.call (.ref fa) ⟨[.ref a], []⟩) (fun r s' => r = .ok (.ret (.bool true)) ∧ OldK s₁.heap s'.heap ∧ s'.os = s₁.os ∧ AllBare s'.gens) s₁) :
    WalkO q loose XP YP l.row.toRowW d [] (fun f vs => PySem.call f vs) := by
  intro w s₀ s₁ mg mb G Y fa o pm cd doc dV kV ho hd hcd hD hmg hg args vals as hpre hlay hrd hwl hlo
  obtain rfl : dV = .none := Dflts.none hD hdf
  obtain rfl : kV = .none := Dflts.noKw hD
  obtain ⟨a, vs, ns, rfl, rfl, hobj, hints, hlen⟩ := script_of hn hpre hwl
  refine enter_call (codeAny_mono (call w s₀ s₁ mg mb fa o pm cd doc a vs ns G Y ho (fd_plain hd) hcd hmg hobj hints hlen hg) fun r s' hq => ?_)
  obtain ⟨rfl, h2, h3, h4⟩ := hq
  exact ⟨.inl ⟨.bool true, .bool true, [], rfl, fun _ => rfl, .bool true, post_true l _, fun _ => ⟨List.Pairwise.nil, fun _ hm => (nomatch hm)⟩⟩, h2, h3, h4⟩


/-! ### rules over ANY heap (no ledger) from facts about the written part K: the library's own take a ledger (News) for what they write -/
section
variable {prog : Program} {w : World} {A : Around} {E : Value → Shared → Prop} {s : Shared} {K : Frag}





/-! the whole heap as the ledger: makes every rule that writes through a ledger a rule over any heap -/
def noObjs (h : Heap) : Heap := { h with objs := #[] }
def ledger (h : Heap) (L d : Addr) : List (Addr × Obj) := (List.range h.objs.size).filterMap fun a => if a = L ∨ a = d then none else (h.get? a).map fun o => (a, o)

end
end Att

namespace L2
open PySem PySem.Spec PyProof.Rows

theorem vals_ints : ∀ {vs : List Value} {ns : List Int}, IntsAre vs ns → Vals (ns.map V.int) vs
  | _, _, .nil => .nil
  | _, _, .cons n t h => .cons ⟨t, rfl⟩ (vals_ints h)

/-- nothing is tracked but the script, known to the object (or it is an object of the module) -/
def Only (H : Hp) : Prop := ∀ b, H b = none ∨ ∃ o xs, H b = some (.frz o (.lst xs))

/-- THE HEAD: the law's promise, at the heap behind the top. F, the promise of the law's def, may use that base is part of the heap (so K.In base, base.Ns mainGlobals mg stand in Mod) -/
theorem law_call {P : Program} {w : World} {K : PySem.W.Frag} {mg mb : Str → Option Value} {CX : CXT} {k : Nat} {fa a : Addr} {fd : FuncData} {x : Str} {sp : Sp} {s₁ : Shared} {vs : List Value} {ns : List Int}
    (KX : K.In s₁.heap) (hns : s₁.heap.Ns mainGlobals mg) (hb : s₁.heap.Ns builtinsNs mb) (hbb : ∀ x : Str, x ≠ "__name__" → mb x = bootBuiltins x) (hlim : s₁.heap.NoLimit) (hg : s₁.gens = #[])
    (ha : s₁.heap.get? a = some { cls := .type "list", data := .seq vs.toArray }) (hi : IntsAre vs ns) (hl : ns.length ≤ sizeLine) (hr : Room k callerA)
    (F : ∀ base : Heap, K.In base → base.Ns mainGlobals mg → FnOk P w K mg base CX k fa fd [x] sp) (hbind : ∀ (s : Shared) (u : Value), BindsTo s fd ⟨[u], []⟩ [(x, u)])
    (hsp : ∀ H : Hp, Only H → SqL K H a (ns.map V.int) → sp [.ref a] H (fun v _ => v = .bl true) fun _ _ _ => False)
    (hCX : ∀ H e s', CX [] H s₁ (fun _ _ _ => False) e s' → False) :
    codeAny (model P w) callerA (.call (.ref fa) ⟨[.ref a], []⟩) (fun r s' => r = .ok (.ret (.bool true)) ∧ OldK s₁.heap s'.heap ∧ s'.os = s₁.os ∧ AllBare s'.gens) s₁ := by
  have rv := vals_ints hi
  have lenV := hi.length
  -- from an abstract heap in which nothing but the script may be tracked
  have core : ∀ H : Hp, Only H → SqL K H a (ns.map V.int) → HOk P w H s₁.heap → (∀ b, H b ≠ none → b = a) → (H a ≠ none → K.lookup a = none) →
      codeAny (model P w) callerA (.call (.ref fa) ⟨[.ref a], []⟩) (fun r s' => r = .ok (.ret (.bool true)) ∧ OldK s₁.heap s'.heap ∧ s'.os = s₁.os ∧ AllBare s'.gens) s₁ := by
    intro H hO hS hok hA hK
    have base_of : ∀ {b : Addr} {o : Obj}, s₁.heap.get? b = some o → H b = none → (hidT s₁.heap H).get? b = some o := fun e n => hidT_get e n
    have noA : ∀ {b : Addr} {o : Obj} {es : Array DictEntry} {ep : Nat}, s₁.heap.get? b = some o → o.data = .dict es ep → H b = none := fun {b o es ep} e d => by
      cases q : H b with
      | none => rfl
      | some u =>
        have e' : b = a := hA b (by rw [q]; simp)
        subst e'
        rw [ha] at e; cases e
        have d' : Data.seq vs.toArray _ = Data.dict es ep := d
        cases d'
    have nsK : ∀ {b : Addr} {m : Str → Option Value}, s₁.heap.Ns b m → (hidT s₁.heap H).Ns b m := fun {b m} ⟨o, es, ep, e, d, r⟩ => ⟨o, es, ep, base_of e (noA e d), d, r⟩
    have hKb : K.In (hidT s₁.heap H) := fun b o e => base_of (KX b o e) (by
      cases q : H b with
      | none => rfl
      | some u =>
        have e' : b = a := hA b (by rw [q]; simp)
        subst e'
        rw [hK (by rw [q]; simp)] at e; cases e)
    have hM : Mod K mg (hidT s₁.heap H) := ⟨hKb, nsK hns, ⟨mb, nsK hb, hbb⟩, let ⟨mc, h1, h2⟩ := hlim; ⟨mc, nsK h1, h2⟩⟩
    have e0 : Env0 P w K mg (hidT s₁.heap H) callerA [] s₁ H := ⟨rfl, hM, fun b o e => of_hidT e, Nat.le_of_eq (hidT_size _ _), trivial, fun b hb => absurd (show b ∈ ([] : List Addr) from hb) (by simp), hok, .of_eq hg⟩
    refine codeAny_mono ((F _ hKb (nsK hns)).run callerA [] s₁ H ⟨[.ref a], []⟩ [.ref a] [.ref a] _ _ hr e0 (hbind s₁ (.ref a)) (.cons rfl .nil) (hsp H hO hS)) fun r s' h => ?_
    cases r with
    | error e => exact (hCX H e s' h).elim
    | ok fl =>
      cases fl with
      | next => exact False.elim h
      | brk => exact False.elim h
      | cont => exact False.elim h
      | ret u =>
        obtain ⟨v, H', os, bare, un, hok', r', q⟩ := h
        have q' : v = .bl true := q
        subst q'
        obtain rfl : u = Value.bool true := r'
        refine ⟨rfl, OldK.of_keep fun b o e => ?_, os, bare⟩
        cases q : H b with
        | none => exact un.keep b o e q (by intro z; exact absurd (show b ∈ ([] : List Addr) from z) (by simp)) (by simp)
        | some u =>
          rcases hO b with z | ⟨ob, xs, z⟩
          · rw [q] at z; cases z
          · have z2 := un.frzs b ob _ z
            obtain ⟨e1, _⟩ := hok b _ z
            obtain ⟨e2, _⟩ := hok' b _ z2
            rw [e] at e1; cases e1
            exact e2
  cases hk : K.lookup a with
  | some o =>
    -- the script is one of the module's own objects
    have e := KX a o hk
    rw [ha] at e
    cases e
    refine core (fun _ => none) (fun _ => .inl rfl) (.inr ⟨_, vs.toArray, _, hk, rfl, rfl, rfl, by rw [List.size_toArray, lenV]; exact hl, by simpa using rv⟩) (fun b u z => by have z' : (none : Option HO) = some u := z; cases z') (fun b z => absurd rfl z) fun z => absurd rfl z
  | none =>
    refine core (fun b => if b = a then some (.frz { cls := .type "list", data := .seq vs.toArray } (.lst (ns.map V.int))) else none) (fun b => ?_) (.inl (.inr ⟨{ cls := .type "list", data := .seq vs.toArray }, if_pos rfl⟩)) (fun b u z => ?_) (fun b z => ?_) fun _ => hk
    · by_cases hb : b = a
      · exact .inr ⟨_, _, if_pos hb⟩
      · exact .inl (if_neg hb)
    · by_cases hb : b = a
      · have z' := (if_pos hb).symm.trans z
        cases z'
        subst hb
        exact ⟨ha, by rw [List.length_map]; exact hl, vs, _, rv, ha⟩
      · have z' := (if_neg hb).symm.trans z
        cases z'
    · by_cases hb : b = a
      · exact hb
      · exact absurd (if_neg hb) z
end L2

namespace L2
open PySem PySem.Spec PyProof.Rows

abbrev KOf {K : PySem.W.Frag} {h : Heap} (_ : K.In h) : PySem.W.Frag := K

/-- the goal that k_head leaves (case hc), from the law's promise. F gives the function object fd (K's own) once, then the promise over every base -/
theorem walk_of {l : PySem.W.OpenLaw} {n k : Nat} {q : Program} {loose : List Str} {XP : (Str → Option Value) → Heap → Prop} {YP : World → Heap → Prop} {d : DefRec} {K : Params → PySem.W.Frag} {CX : World → CXT} {sp : World → Sp} {x : Str}
    (hn : l.most = some n) (hn2 : n ≤ sizeLine) (hdf : d.params.defaults = []) (hr : Room k callerA)
    (hY : ∀ (w : World) (h : Heap), YP w h → (K w.params).In h)
    (F : ∀ (w : World) (mg : Str → Option Value) (fa : Addr) (h : Heap), (K w.params).In h → h.Ns mainGlobals mg → mg d.name = some (.ref fa) →
      ∃ fd : FuncData, (∀ (s : Shared) (u : Value), BindsTo s fd ⟨[u], []⟩ [(x, u)]) ∧
        ∀ base : Heap, (K w.params).In base → base.Ns mainGlobals mg → FnOk l.prog w (K w.params) mg base (CX w) k fa fd [x] (sp w))
    (hsp : ∀ (w : World) (H : Hp) (a : Addr) (ns : List Int), ns.length ≤ n → Only H → SqL (K w.params) H a (ns.map V.int) → sp w [.ref a] H (fun v _ => v = .bl true) fun _ _ _ => False)
    (hCX : ∀ (w : World) (H : Hp) (s : Shared) (e : Value) (s' : Shared), CX w [] H s (fun _ _ _ => False) e s' → False) :
    PySem.W.WalkO q loose XP YP l.row.toRowW d [] (fun f vs => PySem.call f vs) := by
  refine Att.attach_call hn hdf fun w s₀ s₁ mg mb fa o pm cd doc a vs ns G Y ho hd hcd hmg hobj hints hlen hg => ?_
  have KX := hY w _ Y
  obtain ⟨fd, hb, hF⟩ := F w mg fa _ KX G.T.g hmg
  exact law_call KX G.T.g G.T.b G.T.builtins G.T.nolimit hg hobj hints (Nat.le_trans hlen hn2) hr hF hb (fun H hO hS => hsp w H a ns hlen hO hS) fun H e s' => hCX w H s₁ e s'
end L2

/- THE LAST THEOREM (shape; LID, My.* are yours):
   My.Adr: a structure of the addresses that your layer names (classes, functions); My.Txt K t: a structure (Prop) of the equations over K;
   My.txt_mk : {K} {implicit addresses ..} (e1 : nsIn K mainGlobals "law" = some (some (.ref f))) (e2 : K.lookup f = some ⟨oc, od, .func (fnOf "law" "law" params body scope dV kV doc pm an cdv ct), sl⟩) (e3 : codeIn K cdv "law" = true) .. : ∃ t, My.Txt K t

set_option maxRecDepth 100000 in
set_option maxHeartbeats 0 in
theorem PySem.Challenge.cw_LID_holds : PySem.Challenge.rw_LID.Holds := by
  w_on; o_law; k_head; (case hw => w_witness2)
  k_fill
  refine L2.walk_of (l := PySem.Challenge.rw_LID) (n := 63) (k := 40) (x := "script") (CX := fun w => ..) (sp := fun _ => My.sp_law) rfl (by decide) rfl ⟨rfl, by decide, by decide⟩ (fun w h Y => PySem.W.kIn_of Y) ?F ?S ?C
  case F =>
    intro w mg fa h KX G hmg
    have T : ∃ t, My.Txt (L2.KOf KX) t := by
      dsimp only [L2.KOf]                          -- K must stand as «<heap const> w.params» for k_is
      refine' My.txt_mk ?e1 ?e2 ?e3 ..
      (case e1 => PySem.W.k_is)                    -- in the order: a name -> its address -> its object -> its parts
      (case e2 => PySem.W.k_is)
      ..
    obtain ⟨t, T⟩ := T
    have e0 := hmg.symm.trans (PySem.W.mg_of KX G T.law)
    cases e0                                       -- fa is the law's own address
    exact ⟨_, fun s u => .of_eq rfl, fun base kb nb => My.law_fn T kb nb⟩     -- if «.of_eq rfl» comes too early: refine' ⟨_, ?b, fun base kb nb => My.law_fn T kb nb⟩; exact fun s u => .of_eq rfl
  case S => exact fun w H a ns hl hO hS => ..
  case C => exact ..
(the tactic k_is has no namespace: write k_is) -/

/-! SHORT WORDS over the layer: a def of the text, its body, what a loop and a test want. -/
namespace L2
open PySem PySem.Spec PyProof.Rows

/-! ### the text by places -/
/-- the j-th statement of a class's body -/
def inClass (s : Stmt) (j : Nat) : Stmt := match s with
  | .ClassDef _ _ _ body _ _ _ _ _ _ _ => body.getD j (.Pass ⟨0, 0, 0, 0⟩)
  | _ => .Pass ⟨0, 0, 0, 0⟩
def defArgs (s : Stmt) : Arguments := match s with
  | .FunctionDef _ a _ _ _ _ _ _ _ _ => a
  | _ => { posonlyargs := [], args := [], vararg := none, kwonlyargs := [], kw_defaults := [], kwarg := none, defaults := [] }
def defBody (s : Stmt) : List Stmt := match s with
  | .FunctionDef _ _ b _ _ _ _ _ _ _ => b
  | _ => []
def defScope (s : Stmt) : Scope := match s with
  | .FunctionDef _ _ _ _ _ _ sc _ _ _ => sc
  | _ => { kind := .function, names := [], isGenerator := false, isCoroutine := false }

/-! ### no exception leaves a def -/
abbrev CX0 : CXT := fun _ _ _ _ _ _ => False
abbrev E0 : XK := fun _ _ _ => False
theorem pass0 {X : Cx} : Passes CX0 X E0 := fun _ _ _ _ _ _ _ h => h.elim

/-! ### a def (or method) of the text as it stands behind the top -/
structure Fun (K : PySem.W.Frag) (x qual : Str) (st : Stmt) (f : Addr) (fd : FuncData) : Prop where
  ex : ∃ (oc : Value) (od : Option Addr) (kV doc pm : Value) (an : Option Addr) (cdv ct : Value) (osl : Array (Option Value)),
    fd = PySem.W.fnOf x qual (defArgs st) (defBody st) (defScope st) .none kV doc pm an cdv ct ∧ K.lookup f = some ⟨oc, od, .func fd, osl⟩ ∧ PySem.W.codeIn K cdv qual = true
  kp : PySem.W.keepIn K (.ref f) = true
section
variable {P : Program} {w : World} {K : PySem.W.Frag} {mg : Str → Option Value} {base : Heap}
/-- THE RULE for a def: its body as a term of rules, and the reading of that term -/
theorem Fun.ok {x qual : Str} {st : Stmt} {f : Addr} {fd : FuncData} {N ps : List Str} {k : Nat} {sp : Sp} (F : Fun K x qual st f fd) (S : FnScope N ps (defScope st)) (len : ∀ vs H Q E, sp vs H Q E → vs.length = ps.length)
    (hbody : ∀ (cdv : Value) (A : Around) (outer : List Env) (s : Shared) (H : Hp) (vs : List V) (Q : VK) (E : XK), Room k (A.deeper (envOfC qual (defScope st) s.heap.objs.size f cdv)) → sp vs H Q E →
      ∃ t, PSs (cxOf CX0 P w K mg base N qual (defScope st) f cdv A outer s H E).nox (defBody st) t ∧ t { nx := fun _ H' => Q .non H', rt := Q } (start N vs) H) : FnOk P w K mg base CX0 (k + 1) f fd ps sp := by
  obtain ⟨oc, od, kV, doc, pm, an, cdv, ct, osl, rfl, lk, hcd⟩ := F.ex
  refine fn_of lk hcd S len fun A outer s H vs Q E hr hsp => ?_
  obtain ⟨t, h, q⟩ := hbody cdv A outer s H vs Q E hr hsp
  exact ⟨t, h.nox, q⟩
/-- how its arguments bind (no defaults): h is «fun _ _ _ _ _ _ us hl => match us, hl with | [_, _], _ => rfl», one _ a parameter -/
theorem Fun.binds {x qual : Str} {st : Stmt} {f : Addr} {fd : FuncData} {ps : List Str} (F : Fun K x qual st f fd)
    (h : ∀ (kV doc pm : Value) (an : Option Addr) (cdv ct : Value) (us : List Value), us.length = ps.length → bindArgs (PySem.W.fnOf x qual (defArgs st) (defBody st) (defScope st) .none kV doc pm an cdv ct) ⟨us, []⟩ = pure (ps.zip us)) : Binds K fd ps [] := by
  obtain ⟨oc, od, kV, doc, pm, an, cdv, ct, osl, rfl, lk, hcd⟩ := F.ex
  exact .all (h kV doc pm an cdv ct)
theorem fun_mk {x qual : Str} {st : Stmt} {f : Addr} {oc : Value} {od an : Option Addr} {osl : Array (Option Value)} {kV doc pm cdv ct : Value} (l : K.lookup f = some ⟨oc, od, .func (PySem.W.fnOf x qual (defArgs st) (defBody st) (defScope st) .none kV doc pm an cdv ct), osl⟩)
    (c : PySem.W.codeIn K cdv qual = true) (k : PySem.W.keepIn K (.ref f) = true) : Fun K x qual st f (PySem.W.fnOf x qual (defArgs st) (defBody st) (defScope st) .none kV doc pm an cdv ct) := ⟨⟨oc, od, kV, doc, pm, an, cdv, ct, osl, rfl, l, c⟩, k⟩
end
theorem hu_of {A : Around} {k : Nat} (hr : Room k A) : A.units + 1 < cLine := Nat.lt_of_le_of_lt (Nat.add_le_add_left (by decide : 1 ≤ 64) _) hr.units

/-! ### expressions in short: the name that stands in the i-th slot -/
section
variable {X : Cx}
theorem pv (i : Nat) {x : Str} {pos : Pos} (hN : X.N[i]? = some x := by rfl) (hv : Vis X.env.scope x := by first | exact Or.inl rfl | exact Or.inr (Or.inl rfl) | exact Or.inr (Or.inr rfl)) (hd : (x == ("__debug__" : Str)) = false := by decide)
    (hcd : (x == ("__classdict__" : Str)) = false := by decide) : PE X (.Name x pos) (tVar i) := pe_var hN hv hd hcd
end

/-! ### tests -/
theorem iteF {A B : Prop} (h : B) : if false = true then A else B := by
  rw [if_neg Bool.false_ne_true]
  exact h
theorem iteT {A B : Prop} (h : A) : if true = true then A else B := by
  rw [if_pos rfl]
  exact h
theorem ite2 {c A B : Prop} [Decidable c] (h1 : c → A) (h2 : ¬ c → B) : if c then A else B := by
  by_cases h : c
  · rw [if_pos h]
    exact h1 h
  · rw [if_neg h]
    exact h2 h

/-! ### heaps -/
/-- all that was tracked is as it was -/
def Same (H H' : Hp) : Prop := ∀ b o, H b = some o → H' b = some o
theorem Same.refl (H : Hp) : Same H H := fun _ _ h => h
theorem Same.trans {H H1 H2 : Hp} (a : Same H H1) (b : Same H1 H2) : Same H H2 := fun c o h => b c o (a c o h)
theorem Same.free {H H' : Hp} (e : Same H H') {l : Addr} (h : H' l = Option.none) : H l = Option.none := by
  cases q : H l with
  | none => rfl
  | some o =>
    rw [e l o q] at h
    cases h
theorem Same.seq {K : PySem.W.Frag} {H H' : Hp} {a : Addr} {xs : List V} (e : Same H H') (h : SqL K H a xs) : SqL K H' a xs := by
  rcases h with (h | ⟨o, h⟩) | h
  · exact .inl (.inl (e _ _ h))
  · exact .inl (.inr ⟨o, e _ _ h⟩)
  · exact .inr h

end L2

set_option maxHeartbeats 4000000

namespace L2
open PySem PySem.Spec PyProof.Rows
/-! ### lists of pairs as tables -/
section
variable {κ : Type} [DecidableEq κ]
def valV (kvs : List (κ × V)) (k : κ) : Option V := (kvs.find? fun kv => decide (kv.1 = k)).map (·.2)
/-- in its place, or at the end -/
def putK (kvs : List (κ × V)) (k : κ) (v : V) : List (κ × V) :=
  if (kvs.any fun kv => decide (kv.1 = k)) = true then kvs.map (fun kv => if kv.1 = k then (kv.1, v) else kv) else kvs ++ [(k, v)]
def dropK (kvs : List (κ × V)) (k : κ) : List (κ × V) := kvs.filter fun kv => decide (kv.1 ≠ k)

theorem valV_pos {p : κ × V} {r : List (κ × V)} {k : κ} (e : p.1 = k) : valV (p :: r) k = some p.2 := by simp [valV, List.find?_cons, e]
theorem valV_neg {p : κ × V} {r : List (κ × V)} {k : κ} (e : ¬ p.1 = k) : valV (p :: r) k = valV r k := by simp [valV, List.find?_cons, e]
theorem valV_any (k : κ) : ∀ kvs : List (κ × V), (kvs.any fun kv => decide (kv.1 = k)) = (valV kvs k).isSome
  | [] => rfl
  | p :: r => by
    rw [List.any_cons]
    by_cases e : p.1 = k
    · simp only [valV_pos e, decide_eq_true e, Bool.true_or, Option.isSome_some]
    · rw [valV_neg e, decide_eq_false e, Bool.false_or]; exact valV_any k r
theorem length_putK (kvs : List (κ × V)) (k : κ) (v : V) : (putK kvs k v).length ≤ kvs.length + 1 := by
  unfold putK
  split
  · rw [List.length_map]; omega
  · rw [List.length_append, List.length_cons, List.length_nil]; omega
theorem putK_new {kvs : List (κ × V)} {k : κ} (v : V) (h : valV kvs k = none) : putK kvs k v = kvs ++ [(k, v)] := by
  unfold putK
  rw [valV_any, h]
  exact if_neg (by decide)

theorem RelO.isSome_eq {o : Option V} {u : Option Value} (r : RelO o u) : o.isSome = u.isSome := by
  cases o with
  | none => cases u with
    | none => rfl
    | some _ => exact (show False from r).elim
  | some _ => cases u with
    | none => exact (show False from r).elim
    | some _ => rfl
theorem RelO.getD {o : Option V} {u : Option Value} {d : V} {d' : Value} (r : RelO o u) (rd : RelV d d') : RelV (o.getD d) (u.getD d') := by
  cases o with
  | none => cases u with
    | none => exact rd
    | some _ => exact (show False from r).elim
  | some _ => cases u with
    | none => exact (show False from r).elim
    | some _ => exact r

/-- raw tables of the same keys -/
theorem KV.val {kvs : List (κ × V)} {vs : List (κ × Value)} (r : KV kvs vs) (k : κ) : RelO (valV kvs k) (valueAt vs k) := by
  unfold KV at r
  induction r with
  | nil => exact True.intro
  | @cons p q ps qs h t ih =>
    obtain ⟨h1, h2⟩ := h
    by_cases e : p.1 = k
    · have e' : q.1 = k := h1.symm.trans e
      have b : valueAt (q :: qs) k = some q.2 := by simp [valueAt, List.find?_cons, e']
      rw [valV_pos e, b]; exact h2
    · have e' : ¬ q.1 = k := fun z => e (h1.trans z)
      have b : valueAt (q :: qs) k = valueAt qs k := by simp [valueAt, List.find?_cons, e']
      rw [valV_neg e, b]; exact ih
theorem KV.any {kvs : List (κ × V)} {vs : List (κ × Value)} (r : KV kvs vs) (k : κ) : (kvs.any fun kv => decide (kv.1 = k)) = vs.any fun kv => decide (kv.1 = k) := by
  unfold KV at r
  induction r with
  | nil => rfl
  | cons h t ih => rw [List.any_cons, List.any_cons, ih, h.1]
theorem KV.repl {kvs : List (κ × V)} {vs : List (κ × Value)} (r : KV kvs vs) (k : κ) {y : V} {u : Value} (ry : RelV y u) :
    KV (kvs.map fun kv => if kv.1 = k then (kv.1, y) else kv) (vs.map fun kv => if kv.1 = k then (kv.1, u) else kv) := by
  unfold KV at r ⊢
  induction r with
  | nil => exact .nil
  | @cons p q ps qs h t ih =>
    rw [List.map_cons, List.map_cons]
    refine .cons ?_ ih
    obtain ⟨h1, h2⟩ := h
    by_cases e : p.1 = k
    · rw [if_pos e, if_pos (h1.symm.trans e)]; exact ⟨h1, ry⟩
    · rw [if_neg e, if_neg (fun z => e (h1.trans z))]; exact ⟨h1, h2⟩
theorem KV.put {kvs : List (κ × V)} {vs : List (κ × Value)} (r : KV kvs vs) (k : κ) {y : V} {u : Value} (ry : RelV y u) : KV (putK kvs k y) (stored vs k u) := by
  unfold putK stored
  rw [r.any k]
  by_cases e : (vs.any fun kv => decide (kv.1 = k)) = true
  · rw [if_pos e, if_pos e]; exact r.repl k ry
  · rw [if_neg e, if_neg e]; exact Paired.snoc r ⟨rfl, ry⟩
theorem KV.drop {kvs : List (κ × V)} {vs : List (κ × Value)} (r : KV kvs vs) (k : κ) : KV (dropK kvs k) (without vs k) := by
  unfold KV at r ⊢
  unfold dropK without
  induction r with
  | nil => exact .nil
  | @cons p q ps qs h t ih =>
    obtain ⟨h1, h2⟩ := h
    rw [List.filter_cons, List.filter_cons]
    by_cases e : p.1 = k
    · have a : ¬ decide (p.1 ≠ k) = true := by simp [e]
      have b : ¬ decide (q.1 ≠ k) = true := by simp [h1.symm.trans e]
      rw [if_neg a, if_neg b]; exact ih
    · have e' : ¬ q.1 = k := fun z => e (h1.trans z)
      have a : decide (p.1 ≠ k) = true := by simp [e]
      have b : decide (q.1 ≠ k) = true := by simp [e']
      rw [if_pos a, if_pos b]; exact .cons ⟨h1, h2⟩ ih
theorem KV.keys {kvs : List (κ × V)} {vs : List (κ × Value)} (r : KV kvs vs) : kvs.map (·.1) = vs.map (·.1) := by
  unfold KV at r
  induction r with
  | nil => rfl
  | cons h t ih => rw [List.map_cons, List.map_cons, ih, h.1]
theorem KV.length {kvs : List (κ × V)} {vs : List (κ × Value)} (r : KV kvs vs) : kvs.length = vs.length := Paired.length r
end


/-! ### a tracked dict, its keys ints and texts or tuples of these -/
theorem kV_is {P : Program} {w : World} {k : Key} {u : Value} (r : RelV (kV k) u) : (mixKind P w).is k u = true := by
  cases k with
  | inl i => obtain ⟨t, e⟩ := (show ∃ t, u = Value.int i t from r); subst e; exact mixKind_int P w i t
  | inr x => obtain ⟨t, e⟩ := (show ∃ t, u = Value.str x t from r); subst e; exact mixKind_str P w x t
theorem items_are {P : Program} {w : World} : ∀ {ks : List Key} {us : List Value}, Vals (ks.map kV) us → ItemsAre (mixKind P w) ks us
  | [], _, r => by rw [List.map_nil] at r; cases r; exact .nil
  | k :: ks, _, r => by
    rw [List.map_cons] at r
    cases r with
    | cons h t => exact .cons (kV_is h) (items_are t)

/-- raw entries of a dict with tuple keys -/
abbrev KT (H : Hp) : List (List Key × V) → List (List Key × Addr × Value) → Prop := Paired fun p q => p.1 = q.1 ∧ H q.2.1 = some (.tup (p.1.map kV)) ∧ RelV p.2 q.2.2
theorem KT.val {H : Hp} {kvs : List (List Key × V)} {xs : List (List Key × Addr × Value)} (r : KT H kvs xs) (k : List Key) : RelO (valV kvs k) ((atKey xs k).map (·.2)) := by
  induction r with
  | nil => exact True.intro
  | @cons p q ps qs h t ih =>
    obtain ⟨h1, _, h2⟩ := h
    by_cases e : p.1 = k
    · have e' : q.1 = k := h1.symm.trans e
      have b : atKey (q :: qs) k = some q.2 := by simp [atKey, List.find?_cons, e']
      rw [valV_pos e, b]; exact h2
    · have e' : ¬ q.1 = k := fun z => e (h1.trans z)
      have b : atKey (q :: qs) k = atKey qs k := by simp [atKey, List.find?_cons, e']
      rw [valV_neg e, b]; exact ih
theorem KT.repl {H : Hp} {kvs : List (List Key × V)} {xs : List (List Key × Addr × Value)} (r : KT H kvs xs) (k : List Key) {y : V} {u : Value} (ry : RelV y u) :
    KT H (kvs.map fun kv => if kv.1 = k then (kv.1, y) else kv) (xs.map (putAt k u)) := by
  induction r with
  | nil => exact .nil
  | @cons p q ps qs h t ih =>
    rw [List.map_cons, List.map_cons]
    refine .cons ?_ ih
    obtain ⟨h1, h2, h3⟩ := h
    unfold putAt
    by_cases e : p.1 = k
    · rw [if_pos e, if_pos (h1.symm.trans e)]; exact ⟨h1, h2, ry⟩
    · rw [if_neg e, if_neg (fun z => e (h1.trans z))]; exact ⟨h1, h2, h3⟩
theorem KT.put {H : Hp} {kvs : List (List Key × V)} {xs : List (List Key × Addr × Value)} (r : KT H kvs xs) (k : List Key) {b : Addr} {y : V} {u : Value} (hb : H b = some (.tup (k.map kV))) (ry : RelV y u) :
    KT H (putK kvs k y) (storedH xs k b u) := by
  have e : (kvs.any fun kv => decide (kv.1 = k)) = (atKey xs k).isSome := by
    rw [valV_any, (r.val k).isSome_eq, Option.isSome_map]
  unfold putK storedH
  rw [e]
  by_cases q : (atKey xs k).isSome = true
  · rw [if_pos q, if_pos q]; exact r.repl k ry
  · rw [if_neg q, if_neg q]; exact Paired.snoc r ⟨rfl, hb, ry⟩
theorem KT.keeps {H H' : Hp} {kvs : List (List Key × V)} {xs : List (List Key × Addr × Value)} (r : KT H kvs xs) (ht : ∀ b ys, H b = some (.tup ys) → H' b = some (.tup ys)) : KT H' kvs xs :=
  Paired.mapP r fun _ _ z => ⟨z.1, ht _ _ z.2.1, z.2.2⟩

section
variable {P : Program} {w : World} {H : Hp} {h : Heap} {a : Addr}
theorem rd_of {u : HO} (ok : HOk P w H h) (e : Rd H a u) : ObjOk P w H h a u := e.ok ok
theorem dk_rd {kvs : List (Key × V)} (ok : HOk P w H h) (e : Rd H a (.dK kvs)) : kvs.length ≤ sizeLine ∧ (a == sysModules) = false ∧ ∃ vs, KV kvs vs ∧ h.DictOf (mixKind P w) a vs :=
  show ObjOk P w H h a (.dK kvs) from rd_of ok e
theorem dk_of {kvs : List (Key × V)} (ok : HOk P w H h) (e : H a = some (.dK kvs)) : kvs.length ≤ sizeLine ∧ (a == sysModules) = false ∧ ∃ vs, KV kvs vs ∧ h.DictOf (mixKind P w) a vs := dk_rd ok (.inl e)
/-- a tracked tuple of ints and texts is a key -/
theorem key_of {ks : List Key} (ok : HOk P w H h) (e : H a = some (.tup (ks.map kV))) : (tupleKind (mixKind P w)).is h ks a := by
  obtain ⟨_, its, r, o, h1, h2, n, h3⟩ := (show ObjOk P w H h a (.tup (ks.map kV)) from ok a _ e)
  exact ⟨o, its.toArray, n, h1, h2.1, h3, by simpa using items_are r⟩
theorem dt_rd {kvs : List (List Key × V)} (ok : HOk P w H h) (e : Rd H a (.dT kvs)) : kvs.length ≤ sizeLine ∧ (a == sysModules) = false ∧
    ∃ xs, KT H kvs xs ∧ h.DictOfH (tupleKind (mixKind P w)) a xs := by
  obtain ⟨z, y, xs, r, o, es, ep, h1, h2, h3, h4, h5⟩ := (show ObjOk P w H h a (.dT kvs) from rd_of ok e)
  refine ⟨z, y, xs, r, o, es, ep, h1, h2, h3, h4, fun x hx => ?_, h5⟩
  have all : ∀ {l : List (List Key × V)} {m : List (List Key × Addr × Value)}, KT H l m → ∀ x ∈ m, (tupleKind (mixKind P w)).is h x.1 x.2.1 := by
    intro l m q
    induction q with
    | nil => intro x hx; exact nomatch hx
    | @cons p q ps qs hq t ih =>
      intro x hx
      rcases List.mem_cons.mp hx with e | hx
      · subst e
        exact key_of ok (by rw [← hq.1]; exact hq.2.1)
      · exact ih x hx
  exact all r x hx
theorem dt_of {kvs : List (List Key × V)} (ok : HOk P w H h) (e : H a = some (.dT kvs)) : kvs.length ≤ sizeLine ∧ (a == sysModules) = false ∧
    ∃ xs, KT H kvs xs ∧ h.DictOfH (tupleKind (mixKind P w)) a xs := dt_rd ok (.inl e)
end

/-- what the dict at a holds at the key y -/
def DGet (H : Hp) (a : Addr) (y : V) (r : Option V) : Prop :=
  (∃ kvs k, Rd H a (.dK kvs) ∧ y = kV k ∧ r = valV kvs k) ∨ ∃ kvs k b, Rd H a (.dT kvs) ∧ y = .ref b ∧ H b = some (.tup (k.map kV)) ∧ r = valV kvs k
/-- the heap behind a[y] = v -/
def DPut (H : Hp) (a : Addr) (y v : V) (H' : Hp) : Prop :=
  (∃ kvs k, H a = some (.dK kvs) ∧ y = kV k ∧ kvs.length < sizeLine ∧ H' = upd H a (.dK (putK kvs k v))) ∨
  ∃ kvs k b, H a = some (.dT kvs) ∧ y = .ref b ∧ H b = some (.tup (k.map kV)) ∧ kvs.length < sizeLine ∧ H' = upd H a (.dT (putK kvs k v))
theorem DGet.k {H : Hp} {a : Addr} {kvs : List (Key × V)} {k : Key} (e : H a = some (.dK kvs)) : DGet H a (kV k) (valV kvs k) := .inl ⟨kvs, k, .inl e, rfl, rfl⟩
theorem DGet.t {H : Hp} {a b : Addr} {kvs : List (List Key × V)} {k : List Key} (e : H a = some (.dT kvs)) (eb : H b = some (.tup (k.map kV))) : DGet H a (.ref b) (valV kvs k) := .inr ⟨kvs, k, b, .inl e, rfl, eb, rfl⟩
theorem DPut.k {H : Hp} {a : Addr} {kvs : List (Key × V)} {k : Key} {v : V} (e : H a = some (.dK kvs)) (hl : kvs.length < sizeLine) : DPut H a (kV k) v (upd H a (.dK (putK kvs k v))) := .inl ⟨kvs, k, e, rfl, hl, rfl⟩
theorem DPut.t {H : Hp} {a b : Addr} {kvs : List (List Key × V)} {k : List Key} {v : V} (e : H a = some (.dT kvs)) (eb : H b = some (.tup (k.map kV))) (hl : kvs.length < sizeLine) :
    DPut H a (.ref b) v (upd H a (.dT (putK kvs k v))) := .inr ⟨kvs, k, b, e, rfl, eb, hl, rfl⟩


section
variable {X : Cx} {pins : List (Addr × Obj)} {σ : St} {H : Hp} {s : Shared} {a : Addr} {y v : V} {u r : Value} {o : Option V} {A : Around} {E : Value → Shared → Prop}

theorem Inv.big (I : Inv X pins σ H s) : sysModules < s.heap.objs.size := by
  have h : mainGlobals < s.heap.objs.size := (I.mod.glob.keeps I.bk).lt
  exact Nat.lt_trans (by decide) h

/-- d[y], there -/
theorem d_getItem {Q : Value → Shared → Prop} (hu : A.units + 1 < cLine) (I : Inv X pins σ H s) (g : DGet H a y (some v)) (ry : RelV y u) (h : ∀ w' s', Inv X pins σ H s' → RelV v w' → Q w' s') :
    wpAny (model X.prog X.w) A (getItem (.ref a) u) Q E s := by
  rcases g with ⟨kvs, k, e, ey, l⟩ | ⟨kvs, k, b, e, ey, eb, l⟩
  · subst ey
    obtain ⟨z, hd, vs, rel, dd⟩ := dk_rd I.hok e
    obtain ⟨w', hw, rw'⟩ := RelO.some_of (v := v) (o := valueAt vs k) (by rw [l]; exact rel.val k)
    exact wpAny_getItem_of (kV_is ry) dd.mapOf hw (h w' _ (I.tok _) rw')
  · subst ey
    cases (show u = Value.ref b from ry)
    obtain ⟨z, hd, xs, rel, dd⟩ := dt_rd I.hok e
    obtain ⟨w', hw, rw'⟩ := RelO.some_of (v := v) (o := (atKey xs k).map (·.2)) (by rw [l]; exact rel.val k)
    obtain ⟨p, hp, hp2⟩ := Option.map_eq_some_iff.mp hw
    refine wpAny_getItem_heap (tupleKind_room_in1 hu) (key_of I.hok eb) dd hp ?_
    rw [hp2]
    exact h w' _ (I.tok _) rw'
/-- a dict's object is replaced -/
theorem d_write {h' : Heap} {t' : Nat} {ob : HO} (I : Inv X pins σ H s) (mu : Mut (H a)) (hs : Heap.SameBut a s.heap h') (he : ∃ q, h'.get? a = some q) (new : ObjOk X.prog X.w (upd H a ob) h' a ob) :
    Inv X pins σ (upd H a ob) { s with heap := h', toks := t' } :=
  I.write (x := a) (e := a) mu (.inl rfl) (fun b q hb z => (hs.2 b hb).trans z) he new
theorem dk_new {P : Program} {w : World} {H' : Hp} {h' : Heap} {kvs : List (Key × V)} {vs : List (Key × Value)} (z : kvs.length ≤ sizeLine) (hd : (a == sysModules) = false) (rel : KV kvs vs) (dd : h'.DictOf (mixKind P w) a vs) :
    ObjOk P w H' h' a (.dK kvs) := ⟨z, hd, vs, rel, dd⟩
/-- d[y] = v -/
theorem d_setItem {H' : Hp} {Q : Unit → Shared → Prop} (hu : A.units + 1 < cLine) (I : Inv X pins σ H s) (g : DPut H a y v H') (ry : RelV y u) (rv : RelV v r) (h : ∀ s', Inv X pins σ H' s' → Q () s') :
    wpAny (model X.prog X.w) A (setItem (.ref a) u r) Q E s := by
  rcases g with ⟨kvs, k, e, ey, l, eH⟩ | ⟨kvs, k, b, e, ey, eb, l, eH⟩
  · subst ey eH
    obtain ⟨z, hd, vs, rel, dd⟩ := dk_of I.hok e
    have hz : vs.length ≤ sizeLine := by rw [← rel.length]; exact z
    have hl : (putK kvs k v).length ≤ sizeLine := by have := length_putK kvs k v; omega
    refine wpAny_setItem_pairs (hsz := hz) (kV_is ry) dd fun h' dd' hs => h _ ?_
    have he : ∃ q, h'.get? a = some q := let ⟨q, _, _, hq, _⟩ := dd'; ⟨q, hq⟩
    exact d_write I (by rw [e]; exact True.intro) hs he (dk_new hl hd (rel.put k rv) dd')
  · subst ey eH
    cases (show u = Value.ref b from ry)
    obtain ⟨z, hd, xs, rel, dd⟩ := dt_of I.hok e
    have hz : xs.length ≤ sizeLine := by rw [← Paired.length rel]; exact z
    have hl : (putK kvs k v).length ≤ sizeLine := by have := length_putK kvs k v; omega
    refine wpAny_setItem_heap (hsz := hz) (tupleKind_room_in1 hu) (key_of I.hok eb) dd fun h' dd' hs => h _ ?_
    obtain ⟨q, es, ep, hq, h2, h3, h4, _, h5⟩ := dd'
    refine d_write I (by rw [e]; exact True.intro) hs ⟨q, hq⟩ ⟨hl, hd, _, (rel.put k eb rv).keeps fun c ys ec => ?_, q, es, ep, hq, h2, h3, h4, h5⟩
    rw [upd_ne (ne_of ec e (fun z => nomatch z))]
    exact ec
end

section
variable {X : Cx} {pins : List (Addr × Obj)} {σ : St} {H : Hp} {s : Shared} {a : Addr} {kvs : List (Key × V)} {k : Key} {u : Value} {A : Around} {E : Value → Shared → Prop}
/-- len(d) -/
theorem d_len {Q : Value → Shared → Prop} (I : Inv X pins σ H s) (e : Rd H a (.dK kvs)) (h : ∀ t s', Inv X pins σ H s' → Q (.int kvs.length t) s') : wpAny (model X.prog X.w) A (call (.builtin "len") [.ref a]) Q E s := by
  obtain ⟨z, hd, vs, rel, dd⟩ := dk_rd I.hok e
  refine call_len_dict hd dd (by rw [← rel.length]; rw [sizeLine_eq] at z; omega) ?_
  rw [← rel.length]
  exact h _ _ (I.tok _)
end


/-! ### readings and rules -/
/-- the element of a subscription, not a slice -/
def NoSl (i : Expr) : Prop := ∀ ov iv, subscripted i false ov iv = operate [ov, iv] (getItem ov iv)
theorem subD_of {prog : Program} {w : World} {A : Around} {E : Value → Shared → Prop} {s : Shared} {env : Env} {value slice : Expr} {pos : Pos} {T id : String} {Q : Value → Shared → Prop}
    (hl : typeLookup (.type T) "__getitem__" = pure (some (.builtin id))) (hs : NoSl slice)
    (h : wpAny (model prog w) A (eval value env) (fun o s₁ => wpAny (model prog w) A (eval slice env) (fun i s₂ => s₂.TypeIs o T ∧ wpAny (model prog w) A (getItem o i) Q E s₂) E s₁) E s) :
    wpAny (model prog w) A (eval (.Subscript value slice pos) env) Q E s := by
  refine Subscript_ (wpAny_mono h (fun o s₁ h₁ => wpAny_mono h₁ (fun i s₂ h₂ => ?_) fun _ _ x => x) fun _ _ x => x)
  obtain ⟨hT, h₂⟩ := h₂
  unfold subscriptTail
  refine wpAny_bind ?_
  rw [getitemInPython_of_ne hT.not_modules]
  refine wpAny_bind (wpAny_specialOf hT hl ?_)
  have fin : wpAny (model prog w) A (subscripted slice false o i) (fun r s₃ => wpAny (model prog w) A (letTemporaryGo value o r >>= fun _ => pure r) Q E s₃) E s₂ := by
    rw [hs o i]
    exact wpAny_operating (wpAny_mono h₂ (fun r s₃ h₃ => wpAny_bind (wpAny_letTemporaryGo (wpAny_pure h₃))) fun _ _ x => x)
  first
    | exact wpAny_pure (wpAny_bind fin)
    | exact wpAny_bind (wpAny_pure (wpAny_bind fin))
    | exact wpAny_bind fin

theorem dict_typeIs {X : Cx} {pins : List (Addr × Obj)} {σ : St} {H : Hp} {s : Shared} {a : Addr} {y : V} {o : Option V} (I : Inv X pins σ H s) (g : DGet H a y o) : s.TypeIs (.ref a) "dict" := by
  rcases g with ⟨kvs, k, e, _, _⟩ | ⟨kvs, k, b, e, _, _, _⟩
  · obtain ⟨_, _, vs, _, dd⟩ := dk_rd I.hok e
    exact dd.typeIs
  · obtain ⟨_, _, xs, _, dd⟩ := dt_rd I.hok e
    exact dd.typeIs

/-- d[y] -/
def tDGet (td ty : TE) : TE := fun σ H Q => td σ H fun x H1 => ty σ H1 fun y H2 => ∃ a v, x = .ref a ∧ DGet H2 a y (some v) ∧ Q v H2
/-- y in d, y not in d -/
def tDIn (ty td : TE) : TE := fun σ H Q => ty σ H fun y H1 => td σ H1 fun x H2 => ∃ a o, x = .ref a ∧ DGet H2 a y o ∧ Q (.bl o.isSome) H2
def tDNotIn (ty td : TE) : TE := fun σ H Q => ty σ H fun y H1 => td σ H1 fun x H2 => ∃ a o, x = .ref a ∧ DGet H2 a y o ∧ Q (.bl (!o.isSome)) H2
/-- d[y] = v -/
def sDPut (td ty tv : TE) : TS := fun D σ H => tv σ H fun v H1 => td σ H1 fun x H2 => ty σ H2 fun y H3 => ∃ a H4, x = .ref a ∧ DPut H3 a y v H4 ∧ D.nx σ H4
/-- d[y] op= v -/
def sDAug (td ty tv : TE) (rd : V → V → Hp → VK → Prop) : TS := fun D σ H => td σ H fun x H1 => ty σ H1 fun y H2 => ∃ a v, x = .ref a ∧ DGet H2 a y (some v) ∧
  tv σ H2 fun y2 H3 => rd v y2 H3 fun z H4 => ∃ H5, DPut H4 a y z H5 ∧ D.nx σ H5
/-- del d[y] -/
def sDDel (td ty : TE) : TS := fun D σ H => td σ H fun x H1 => ty σ H1 fun y H2 => ∃ a kvs k, x = .ref a ∧ H2 a = some (.dK kvs) ∧ y = kV k ∧ (valV kvs k).isSome = true ∧ D.nx σ (upd H2 a (.dK (dropK kvs k)))

section
variable {X : Cx} {o i e value : Expr} {pos pos' tpos : Pos} {td ty tv : TE}
theorem pe_dget (hu : X.A.units + 1 < cLine) (ho : PE X o td) (hi : PE X i ty) (hs : NoSl i) : PE X (.Subscript o i pos) (tDGet td ty) := by
  intro pins s σ H Q I h
  refine subD_of PySem.F.slot_dict_getitem.lookup hs (thn (ho pins s σ H _ I h) fun u s1 ⟨x, H1, I1, rx, q1⟩ => thn (hi pins s1 σ H1 _ I1 q1) fun iv s2 ⟨y, H2, I2, ry, a, v, ex, g, q2⟩ => ?_)
  subst ex
  obtain rfl : u = Value.ref a := rx
  exact ⟨dict_typeIs I2 g, d_getItem hu I2 g ry fun w' s3 I3 rw' => ⟨v, H2, I3, rw', q2⟩⟩
theorem ps_dput (hu : X.A.units + 1 < cLine) (ho : PE X o td) (hi : PE X i ty) (hv : PE X value tv) (hs : swapsWith value (some (.Subscript o i pos')) pos.line X.env = pure false) :
    PS X (.Assign [.Subscript o i pos'] value pos) (sDPut td ty tv) := by
  intro pins s σ H D I h
  refine wpAny_Assign_Subscript (thn (hv pins s σ H _ I h) fun r s1 ⟨v, H1, I1, rv, q1⟩ => thn (ho pins s1 σ H1 _ I1 q1) fun u s2 ⟨x, H2, I2, rx, q2⟩ => thn (hi pins s2 σ H2 _ I2 q2) fun iv s3 ⟨y, H3, I3, ry, a, H4, ex, g, q3⟩ => ?_) hs
  subst ex
  obtain rfl : u = Value.ref a := rx
  exact d_setItem hu I3 g ry rv fun s4 I4 => ⟨σ, H4, I4, q3⟩
end


/-! ### displays -/
/-- {}, to be a dict of the kind that is wanted -/
def tDNewK : TE := fun _ H Q => ∀ p, H p = none → Q (.ref p) (upd H p (.dK []))
def tDNewT : TE := fun _ H Q => ∀ p, H p = none → Q (.ref p) (upd H p (.dT []))
section
variable {X : Cx} {pos : Pos}
end

/-- the pairs of a display, from the left -/
def tPairs : List (TE × TE) → St → Hp → (List (V × V) → Hp → Prop) → Prop
  | [], _, H, Q => Q [] H
  | (tk, tv) :: r, σ, H, Q => tk σ H fun x H1 => tv σ H1 fun y H2 => tPairs r σ H2 fun ps H3 => Q ((x, y) :: ps) H3
abbrev VV : List (V × V) → List (Value × Value) → Prop := Paired fun p q => RelV p.1 q.1 ∧ RelV p.2 q.2
def PPs (X : Cx) (pos : Pos) (keys : List (Option Expr)) (values : List Expr) (trs : List (TE × TE)) : Prop :=
  ∀ (pins : List (Addr × Obj)) (s : Shared) (σ : St) (H : Hp) (Q : List (V × V) → Hp → Prop), Inv X pins σ H s → tPairs trs σ H Q →
    wpAny (model X.prog X.w) X.A (evalPairs (pairTrees keys values X.env pos)) (fun vs s' => ∃ ps H', Inv X pins σ H' s' ∧ VV ps vs ∧ Q ps H') X.xe s

def mergeK (kvs more : List (Key × V)) : List (Key × V) := more.foldl (fun acc kv => putK acc kv.1 kv.2) kvs
theorem KV.merge : ∀ {more : List (Key × V)} {rs : List (Key × Value)} {kvs : List (Key × V)} {vs : List (Key × Value)}, KV more rs → KV kvs vs → KV (mergeK kvs more) (merged vs rs) := by
  intro more rs kvs vs r
  unfold KV at r
  induction r generalizing kvs vs with
  | nil => intro q; exact q
  | @cons p q ps qs h t ih =>
    intro r0
    have e : KV (putK kvs p.1 p.2) (stored vs q.1 q.2) := by
      have := r0.put p.1 h.2
      rw [← h.1]; exact this
    exact ih e
theorem length_mergeK : ∀ (more kvs : List (Key × V)), (mergeK kvs more).length ≤ kvs.length + more.length
  | [], kvs => by show kvs.length ≤ kvs.length + 0; omega
  | p :: r, kvs => by
    have h1 := length_mergeK r (putK kvs p.1 p.2)
    have h2 := length_putK kvs p.1 p.2
    show (mergeK (putK kvs p.1 p.2) r).length ≤ _
    rw [List.length_cons]; omega
/-- {k: v, ..} with keys ints and texts; the new dict stands empty while the pairs are made -/
def tDisp (trs : List (TE × TE)) : TE := fun σ H Q => ∀ p, H p = none → tPairs trs σ (upd H p (.dK [])) fun ps H2 => H2 p = some (.dK []) ∧ ∃ kvs : List (Key × V), ps = kvs.map (fun kv => (kV kv.1, kv.2)) ∧ kvs.length ≤ 15 ∧ Q (.ref p) (upd H2 p (.dK (mergeK [] kvs)))


/-! ### methods -/
/-- a method call o.m(e) of a built-in, with one argument: what must be seen of the text -/
structure M1 (X : Cx) (o : Expr) (m : Str) (apos : Pos) (e : Expr) (cpos : Pos) : Prop where
  base : attributeBase o m X.env (eval o X.env) = eval o X.env
  few : ((backTo cpos (starEach [e] X.env)).all (fun x => !x.1) && (backToKw cpos (keywordEach [] X.env)).all (fun x => x.1.isSome)
    && decide (([e] : List Expr).length + ([] : List Keyword).length + (if ([] : List Keyword).isEmpty then 0 else 1) < 30)) = true
  line : (apos.endLine == cpos.line) = true
  trees : backTo cpos (starEach [e] X.env) = [(false, eval e X.env)]
structure M2 (X : Cx) (o : Expr) (m : Str) (apos : Pos) (e f : Expr) (cpos : Pos) : Prop where
  base : attributeBase o m X.env (eval o X.env) = eval o X.env
  few : ((backTo cpos (starEach [e, f] X.env)).all (fun x => !x.1) && (backToKw cpos (keywordEach [] X.env)).all (fun x => x.1.isSome)
    && decide (([e, f] : List Expr).length + ([] : List Keyword).length + (if ([] : List Keyword).isEmpty then 0 else 1) < 30)) = true
  line : (apos.endLine == cpos.line) = true
  trees : backTo cpos (starEach [e, f] X.env) = [(false, eval e X.env), (false, eval f X.env)]

/-- a is a dict, whatever its keys -/
def IsD (H : Hp) (a : Addr) : Prop := (∃ kvs, Rd H a (.dK kvs)) ∨ ∃ kvs, Rd H a (.dT kvs)
theorem isD_at {X : Cx} {pins : List (Addr × Obj)} {σ : St} {H : Hp} {s : Shared} {a : Addr} (I : Inv X pins σ H s) (d : IsD H a) :
    s.TypeIs (.ref a) "dict" ∧ (∀ b, Value.ref a = .ref b → ∃ ob, s.heap.get? b = some ob ∧ ob.dict = none) ∧ (a == sysModules) = false := by
  rcases d with ⟨kvs, e⟩ | ⟨kvs, e⟩
  · obtain ⟨_, hd, vs, _, dd⟩ := dk_rd I.hok e
    refine ⟨dd.typeIs, fun b q => ?_, hd⟩
    cases q
    obtain ⟨ob, _, _, h1, h2, _⟩ := dd
    exact ⟨ob, h1, h2.2.1⟩
  · obtain ⟨_, hd, xs, _, dd⟩ := dt_rd I.hok e
    refine ⟨dd.typeIs, fun b q => ?_, hd⟩
    cases q
    obtain ⟨ob, _, _, h1, h2, _⟩ := dd
    exact ⟨ob, h1, h2.2.1⟩

section
variable {X : Cx} {pins : List (Addr × Obj)} {σ : St} {H : Hp} {s : Shared} {a : Addr} {y d : V} {u r : Value} {o : Option V} {A : Around} {E : Value → Shared → Prop}
/-- d.get(y, x) -/
theorem d_get2 {Q : Value → Shared → Prop} (hu : A.units + 1 < cLine) (I : Inv X pins σ H s) (g : DGet H a y o) (ry : RelV y u) (rd : RelV d r) (h : ∀ w' s', Inv X pins σ H s' → RelV (o.getD d) w' → Q w' s') :
    wpAny (model X.prog X.w) A (call (.builtin "dict.get") [.ref a, u, r]) Q E s := by
  rcases g with ⟨kvs, k, e, ey, l⟩ | ⟨kvs, k, b, e, ey, eb, l⟩
  · subst ey
    obtain ⟨z, hd, vs, rel, dd⟩ := dk_rd I.hok e
    refine call_meetsIn PySem.F.slot_dict_get dd.typeIs PySem.F.entry_dict_get (PySem.F.args_dict_get_3 _ _ _) (meets_dict_get_default (mixKind X.prog X.w) a (kV_is ry) hd r) ⟨_, dd.mapOf, h _ _ (I.tok _) ?_⟩
    rw [l]
    exact (rel.val k).getD rd
  · subst ey
    cases (show u = Value.ref b from ry)
    obtain ⟨z, hd, xs, rel, dd⟩ := dt_rd I.hok e
    refine call_meetsIn PySem.F.slot_dict_get dd.typeIs PySem.F.entry_dict_get (PySem.F.args_dict_get_3 _ _ _) (meetsH_dict_get_default (tupleKind (mixKind X.prog X.w)) a b hd r) ⟨tupleKind_room_in1 hu, k, xs, key_of I.hok eb, dd, h _ _ (I.tok _) ?_⟩
    rw [l]
    exact (rel.val k).getD rd
end

def tDGet1 (td ty : TE) : TE := fun σ H Q => td σ H fun x H1 => ∃ a, x = .ref a ∧ IsD H1 a ∧ ty σ H1 fun y H2 => ∃ o, DGet H2 a y o ∧ Q (o.getD .non) H2
def tDGet2 (td ty tx : TE) : TE := fun σ H Q => td σ H fun x H1 => ∃ a, x = .ref a ∧ IsD H1 a ∧ ty σ H1 fun y H2 => tx σ H2 fun z H3 => ∃ o, DGet H3 a y o ∧ Q (o.getD z) H3
/-- d.pop(k): there; d.pop(k, x): there or not -/
def tDPop1 (td ty : TE) : TE := fun σ H Q => td σ H fun x H1 => ∃ a, x = .ref a ∧ IsD H1 a ∧ ty σ H1 fun y H2 => ∃ kvs k v, H2 a = some (.dK kvs) ∧ y = kV k ∧ valV kvs k = some v ∧ Q v (upd H2 a (.dK (dropK kvs k)))
def tDPop2 (td ty tx : TE) : TE := fun σ H Q => td σ H fun x H1 => ∃ a, x = .ref a ∧ IsD H1 a ∧ ty σ H1 fun y H2 => tx σ H2 fun z H3 => ∃ kvs k, H3 a = some (.dK kvs) ∧ y = kV k ∧
  (∀ v, valV kvs k = some v → Q v (upd H3 a (.dK (dropK kvs k)))) ∧ (valV kvs k = none → Q z H3)
section
variable {X : Cx} {o e f : Expr} {apos cpos : Pos} {td ty tx : TE}
theorem pe_dget2 (hu : X.A.units + 1 < cLine) (ho : PE X o td) (he : PE X e ty) (hf : PE X f tx) (m : M2 X o "get" apos e f cpos) : PE X (.Call (.Attribute o "get" apos) [e, f] [] cpos) (tDGet2 td ty tx) := by
  intro pins s σ H Q I h
  refine wpAny_Call_method m.base m.few m.line PySem.F.plainAttrs_dict PySem.F.slot_dict_get PySem.F.type_dict_get (thn (ho pins s σ H _ I h) fun u s1 ⟨x, H1, I1, rx, a, ex, d, q1⟩ => ?_)
  subst ex
  obtain rfl : u = Value.ref a := rx
  obtain ⟨t1, t2, _⟩ := isD_at I1 d
  refine ⟨t1, t2, ?_⟩
  rw [m.trees]
  refine Calls.callWith_builtin rfl (Calls.evalArgs_plain (Calls.spliced_cons (thn (he pins s1 σ H1 _ I1 q1) fun iv s2 ⟨y, H2, I2, ry, q2⟩ =>
    Calls.spliced_cons (thn (hf pins s2 σ H2 _ I2 q2) fun fv s3 ⟨z, H3, I3, rz, ov, g, q3⟩ => Calls.spliced_nil ?_))))
  exact d_get2 hu I3 g ry rz fun w' s4 I4 rw' => ⟨_, H3, I4, rw', q3⟩
end

/-! ### dict(d): a copy -/
section
variable {X : Cx} {pins : List (Addr × Obj)} {σ : St} {H : Hp} {s : Shared} {a : Addr} {kvs : List (Key × V)} {A : Around} {E : Value → Shared → Prop}
end


section
variable {X : Cx} {pins : List (Addr × Obj)} {σ : St} {H : Hp} {s : Shared} {a : Addr} {y : V} {u : Value} {A : Around} {E : Value → Shared → Prop}
end
section
variable {X : Cx}
theorem call_lenD : CallR X (.builtin "len") (fun xs H Q => ∃ a kvs, xs = [V.ref a] ∧ H a = some (.dK kvs) ∧ Q (.int kvs.length) H) := by
  intro pins s σ H xs us Q I r h
  obtain ⟨a, kvs, rfl, ha, q⟩ := h
  obtain ⟨u, rfl, ru⟩ := vals1 r
  cases ru
  exact d_len I (.inl ha) fun t s' I' => ⟨.int kvs.length, H, I', ⟨t, rfl⟩, q⟩
end
/-! ### a dict's pairs: keys that differ -/
section
variable {κ : Type} [DecidableEq κ]
theorem valV_in {kvs : List (κ × V)} {k : κ} {v : V} (h : valV kvs k = some v) : k ∈ kvs.map (·.1) := by
  have q : (kvs.any fun kv => decide (kv.1 = k)) = true := by
    rw [valV_any, h]
    all_goals rfl
  obtain ⟨p, hp, e⟩ := List.any_eq_true.mp q
  exact List.mem_map.mpr ⟨p, hp, of_decide_eq_true e⟩
end
end L2

namespace L2
open PySem PySem.Spec PyProof.Rows

/-! ### the cells that a block closes over -/
theorem forIn_pure {α β : Type} {f : α → β → Sem (ForInStep β)} {g : β → α → β} : ∀ (l : List α) (c : β), (∀ x ∈ l, ∀ c, f x c = pure (.yield (g c x))) → forIn l c f = pure (l.foldl g c)
  | [], _, _ => rfl
  | x :: l, c, h => by
    rw [List.forIn_cons, h x List.mem_cons_self, pure_bind]
    exact forIn_pure l (g c x) fun y hy => h y (List.mem_cons_of_mem _ hy)
def closStep (env : Env) (acc : List (Str × Addr)) (x : Str × NameKind) : List (Str × Addr) := if x.2 == .free then (x.1, (env.cells.lookup x.1).getD 0) :: acc else acc
def closL (env : Env) (names : List (Str × NameKind)) : List (Str × Addr) := names.foldl (closStep env) []
theorem closureFor_eq {scope : Scope} {env : Env} (h : ∀ x ∈ scope.names, x.2 = .free → ∃ c, env.cells.lookup x.1 = some c) : closureFor scope env = pure (closL env scope.names) := by
  simp only [closureFor]
  rw [forIn_pure (g := closStep env) scope.names [] (fun x hx c => by
    obtain ⟨n, kind⟩ := x
    by_cases hk : kind = .free
    · subst hk
      obtain ⟨a, ha⟩ := h _ hx rfl
      have ha' : env.cells.lookup n = some a := ha
      simp [closStep, cellOf, ha']
    · have hb : (kind == NameKind.free) = false := by simpa using hk
      simp [closStep, hb])]
  rfl
theorem closL_mem {env : Env} : ∀ (names : List (Str × NameKind)) (acc : List (Str × Addr)), (∀ x ∈ names, x.2 = .free → ∃ c, env.cells.lookup x.1 = some c) → (∀ p ∈ acc, env.cells.lookup p.1 = some p.2) →
    ∀ p ∈ names.foldl (closStep env) acc, env.cells.lookup p.1 = some p.2
  | [], _, _, h => h
  | x :: r, acc, hn, h => by
    refine closL_mem r _ (fun y hy => hn y (List.mem_cons_of_mem _ hy)) ?_
    intro p hp
    unfold closStep at hp
    split at hp
    · rename_i hk
      rcases List.mem_cons.mp hp with e | e
      · subst e
        obtain ⟨c, hc⟩ := hn x List.mem_cons_self (by simpa using hk)
        show env.cells.lookup x.1 = some ((env.cells.lookup x.1).getD 0)
        rw [hc]
        rfl
      · exact h p e
    · exact h p hp
theorem closL_sub {env : Env} : ∀ (names : List (Str × NameKind)) (acc : List (Str × Addr)) (p : Str × Addr), p ∈ acc → p ∈ names.foldl (closStep env) acc
  | [], _, _, h => h
  | x :: r, acc, p, h => by
    refine closL_sub r _ p ?_
    unfold closStep
    split
    · exact List.mem_cons_of_mem _ h
    · exact h
theorem closL_has {env : Env} : ∀ (names : List (Str × NameKind)) (acc : List (Str × Addr)) (x : Str), (x, NameKind.free) ∈ names → ∃ c, (x, c) ∈ names.foldl (closStep env) acc
  | y :: r, acc, x, h => by
    rcases List.mem_cons.mp h with e | e
    · subst e
      exact ⟨_, closL_sub r _ _ (by unfold closStep; rw [if_pos (by rfl)]; exact List.mem_cons_self)⟩
    · exact closL_has r _ x e
theorem lookup_of_mem {α : Type} : ∀ {l : List (Str × α)} {x : Str} {c : α}, (x, c) ∈ l → ∃ d, l.lookup x = some d
  | (y, d) :: r, x, c, h => by
    rw [List.lookup_cons]
    cases e : x == y with
    | true => exact ⟨d, rfl⟩
    | false =>
      rcases List.mem_cons.mp h with q | q
      · cases q
        rw [beq_self_eq_true] at e
        cases e
      · exact lookup_of_mem q
theorem lookup_relabel (env : Env) : ∀ (names : List (Str × NameKind)) (x : Str), (names.map fun (n, k) => if (k == NameKind.free && env.scope.kind == .function && env.kindOf n == some .cell) then (n, NameKind.cell) else (n, k)).lookup x =
    (names.lookup x).map fun k => if (k == NameKind.free && env.scope.kind == .function && env.kindOf x == some .cell) then NameKind.cell else k
  | [], _ => rfl
  | (n, k) :: r, x => by
    have ih := lookup_relabel env r x
    show List.lookup x ((if (k == NameKind.free && env.scope.kind == .function && env.kindOf n == some .cell) = true then (n, NameKind.cell) else (n, k)) :: _) = _
    have hr : ((n, k) :: r).lookup x = (match x == n with | true => some k | false => r.lookup x) := List.lookup_cons ..
    rw [hr]
    by_cases hc : (k == NameKind.free && env.scope.kind == .function && env.kindOf n == some .cell) = true
    · rw [if_pos hc, List.lookup_cons]
      cases hx : x == n with
      | true =>
        have e : x = n := eq_of_beq hx
        subst e
        show some NameKind.cell = some (if (k == NameKind.free && env.scope.kind == .function && env.kindOf x == some .cell) = true then NameKind.cell else k)
        rw [if_pos hc]
      | false => exact ih
    · rw [if_neg hc, List.lookup_cons]
      cases hx : x == n with
      | true =>
        have e : x = n := eq_of_beq hx
        subst e
        show some k = some (if (k == NameKind.free && env.scope.kind == .function && env.kindOf x == some .cell) = true then NameKind.cell else k)
        rw [if_neg hc]
      | false => exact ih

/-! ### the context of a comprehension's block -/
def cxC (X : Cx) (own : List Str) (scope : Scope) (cl : List (Str × Addr)) (C : Addr) (s : Shared) (H : Hp) (fp : List Addr) : Cx :=
  { X with N := own ++ X.N, s₀ := s, H₀ := H, env := compEnvC scope cl C X.env, outer := X.stack, stack := X.stack, ex := fp, fn := fun _ => false, xe := fun _ _ => False }
/-- the tests of a clause, one after another -/
def PTs (X : Cx) (ifs : List Expr) (t : TT) : Prop :=
  ∀ (pins : List (Addr × Obj)) (s : Shared) (σ : St) (H : Hp) (Q : Bool → Hp → Prop), Inv X pins σ H s → t σ H Q →
    wpAny (model X.prog X.w) X.A (forIn ifs true fun c r => if r = true then do let ok ← isTrue c X.env (eval c X.env); pure (ForInStep.yield ok) else pure (ForInStep.yield r)) (TP X pins σ Q) X.xe s
def tAll : TT := fun _ H Q => Q true H
theorem pts_nil {X : Cx} : PTs X [] tAll := fun _ _ _ H _ I h => wpAny_tests_nil ⟨H, I, h⟩
theorem pts_one {X : Cx} {c : Expr} {t : TT} (h : PT X c t) : PTs X [c] t := fun pins s σ H Q I q => wpAny_tests_one (h pins s σ H Q I q)
/-- the slots of the one are those of the other, or forgotten there -/
def Wk : St → St → Prop
  | [], [] => True
  | _ :: r, none :: t => Wk r t
  | a :: r, some v :: t => a = some v ∧ Wk r t
  | _, _ => False
theorem Wk.len : ∀ {a b : St}, Wk a b → b.length = a.length
  | [], [], _ => rfl
  | _ :: r, none :: t, h => congrArg (· + 1) (Wk.len (a := r) (b := t) h)
  | _ :: r, some _ :: t, h => congrArg (· + 1) (Wk.len (a := r) (b := t) h.2)
  | [], none :: _, h => h.elim
  | [], some _ :: _, h => h.elim
  | _ :: _, [], h => h.elim
theorem Wk.get : ∀ {a b : St} (i : Nat) (v : V), Wk a b → b[i]? = some (some v) → a[i]? = some (some v)
  | _ :: _, none :: _, 0, v, _, e => by simp at e
  | _ :: _, some _ :: _, 0, v, h, e => by simp at e ⊢; rw [h.1, e]
  | _ :: r, none :: t, i + 1, v, h, e => by simp at e ⊢; exact Wk.get (a := r) (b := t) i v h e
  | _ :: r, some _ :: t, i + 1, v, h, e => by simp at e ⊢; exact Wk.get (a := r) (b := t) i v h.2 e
  | [], [], i, v, h, e => by simp at e
  | [], none :: _, _, _, h, _ => h.elim
  | [], some _ :: _, _, _, h, _ => h.elim
  | _ :: _, [], _, _, h, _ => h.elim
theorem Wk.refl : ∀ (a : St), Wk a a
  | [] => trivial
  | none :: r => Wk.refl r
  | some _ :: r => ⟨rfl, Wk.refl r⟩
/-- what a comprehension does with the iterator J: W is what holds ahead of turn i, with a measure and what has been made -/
def CompR (J : It) (H : Hp) (k : Nat) (g : TG) (tt : TT) (te : TE) (σ : St) (Q : VK) : Prop := ∃ W : Nat → Nat → List V → Hp → Prop, (∃ m, W 0 m [] H) ∧ ∀ i m ys H, W i m ys H →
  (J.stop i H ∧ ys.length ≤ sizeLine ∧ ∀ p, H p = none → Q (.ref p) (upd H p (.lst ys))) ∨
  (J.go i H ∧ ys.length < sizeLine ∧ ∀ x H', J.yld i H x H' → g x (List.replicate k none ++ σ) H' fun σ2 H2 => Wk σ2 (List.replicate k none ++ σ) ∧ tt σ2 H2 fun ok H3 =>
    if ok = true then te σ2 H3 fun y H4 => ∃ m', m' < m ∧ W (i + 1) m' (ys ++ [y]) H4 else ∃ m', m' < m ∧ W (i + 1) m' ys H3)
/-- [elt for tg in iter if ..] -/
def tComp (wi : TI) (g : TG) (tt : TT) (te : TE) (k : Nat) : TE := fun σ H Q => wi σ H fun J H1 => CompR J H1 k g tt te σ Q

theorem compLoop_go {prog : Program} {w : World} {A : Around} {R : Result → Shared → Prop} {s : Shared} {elt target iter : Expr} {ifs : List Expr} {scope : Scope} {pos : Pos} {it acc : Value} {env : Env} (I : Nat → Shared → Prop)
    (turn : ∀ n s, I n s → wpAny (model prog w) A (pyNext it) (fun r s₁ => match r with
      | none => R (.ok .next) s₁
      | some v => wpAny (model prog w) A (letOwnedTupleGo target it v) (fun _ s₁' => wpAny (model prog w) A (assign target env v) (fun _ s₂ =>
          wpAny (model prog w) A (forIn ifs true fun c r => if r = true then do let ok ← isTrue c env (eval c env); pure (ForInStep.yield ok) else pure (ForInStep.yield r)) (fun ok s₃ =>
            if ok = true then wpAny (model prog w) A (eval elt env) (fun x s₄ =>
              wpAny (model prog w) A (call (.builtin "list.append") [acc, x]) (fun _ s₅ => ∃ m, m < n ∧ I m s₅) (fun _ _ => False) s₄) (fun _ _ => False) s₃
            else ∃ m, m < n ∧ I m s₃) (fun _ _ => False) s₂) (fun _ _ => False) s₁') (fun _ _ => False) s₁) (fun _ _ => False) s)
    (n : Nat) (h : I n s) :
    codeAny (model prog w) A (.compLoop (.ListComp elt [⟨target, iter, ifs, 0⟩] scope pos) 0 it acc env) R s := by
  refine codeAny_loop rfl I (fun n s hI => ?_) n h
  show wpAny _ A ((compTurn (.ListComp elt [⟨target, iter, ifs, 0⟩] scope pos) 0 it acc env).onRaise (fun x => do noteFrame x env; theTreesLotGoes x)) _ _ s
  refine wpAny_noted ?_
  rw [compTurn_list]
  refine wpAny_bind (wpAny_standAt (wpAny_bind (wpAny_mono (turn n s hI) (fun r s₁ h₁ => ?_) fun _ _ h' => h'.elim)))
  cases r with
  | none => exact wpAny_pure h₁
  | some v =>
    refine wpAny_bind (wpAny_mono h₁ (fun _ s₁' h₁' => ?_) fun _ _ h' => h'.elim)
    refine wpAny_bind (wpAny_mono h₁' (fun _ s₂ h₂ => wpAny_bind (wpAny_mono h₂ (fun ok s₃ h₃ => ?_) fun _ _ h' => h'.elim)) fun _ _ h' => h'.elim)
    cases ok with
    | false => exact wpAny_pure ⟨rfl, h₃⟩
    | true =>
      exact wpAny_bind (wpAny_bind (wpAny_mono h₃ (fun x s₄ h₄ => wpAny_bind (wpAny_mono h₄ (fun _ s₅ h₅ => wpAny_pure (wpAny_pure ⟨rfl, h₅⟩)) fun _ _ h' => h'.elim)) fun _ _ h' => h'.elim))

/-- the list that is being made -/
abbrev lo (its : List Value) (n : Nat) : Obj := { cls := .type "list", data := .seq its.toArray n }

structure CompOk (X : Cx) (own : List Str) (scope : Scope) : Prop where
  calm : X.calm = true
  cell : ∀ y ∈ scope.names, y.2 ≠ .cell
  kind : scope.kind = .function
  names : ∀ y ∈ scope.names, y.2 = .local → scope.names.lookup y.1 = some .local
  fr : ∀ y ∈ scope.names, y.2 = .free → X.env.scope.names.lookup y.1 = some .cell ∨ X.env.scope.names.lookup y.1 = some .free
  loc : ∀ y ∈ X.N, scope.names.lookup y ≠ some .local

/-- the same as tests, for closed texts -/
def compT1 (names : List (Str × NameKind)) : Bool := names.all fun y => (y.2 != .cell) && (y.2 != .local || names.lookup y.1 == some .local)
def compT2 (outer names : List (Str × NameKind)) : Bool := names.all fun y => y.2 != .free || outer.lookup y.1 == some .cell || outer.lookup y.1 == some .free
def compT3 (N : List Str) (names : List (Str × NameKind)) : Bool := N.all fun y => names.lookup y != some .local
theorem CompOk.of {X : Cx} {own : List Str} {scope : Scope} (hc : X.calm = true) (hk : scope.kind = .function) (h1 : compT1 scope.names = true) (h2 : compT2 X.env.scope.names scope.names = true) (h3 : compT3 X.N scope.names = true) : CompOk X own scope := by
  unfold compT1 at h1
  unfold compT2 at h2
  unfold compT3 at h3
  rw [List.all_eq_true] at h1 h2 h3
  refine ⟨hc, fun y hy => ?_, hk, fun y hy hl => ?_, fun y hy hf => ?_, fun y hy => ?_⟩
  · have := h1 y hy
    rw [Bool.and_eq_true] at this
    exact bne_iff_ne.mp this.1
  · have := h1 y hy
    rw [Bool.and_eq_true, hl] at this
    simpa using this.2
  · have := h2 y hy
    rw [hf] at this
    simpa using this
  · exact bne_iff_ne.mp (h3 y hy)
section
variable {X : Cx} {own : List Str} {scope : Scope} {pins : List (Addr × Obj)} {σ : St} {H : Hp} {s : Shared} {fp : List Addr}

theorem CompOk.cells (O : CompOk X own scope) (ok : X.Ok) : ∀ x ∈ scope.names, x.2 = .free → ∃ c, X.env.cells.lookup x.1 = some c := fun x hx hk => ok.has x.1 (O.fr x hx hk)
theorem CompOk.sub (O : CompOk X own scope) (ok : X.Ok) : ∀ x c, (closL X.env scope.names).lookup x = some c → X.env.cells.lookup x = some c := fun x c e =>
  closL_mem scope.names [] (O.cells ok) (fun _ h => nomatch h) (x, c) (PySem.mem_of_lookup e)
theorem CompOk.free_of (O : CompOk X own scope) {cl : List (Str × Addr)} {C : Addr} {x : Str} (h : (compEnvC scope cl C X.env).kindOf x = some .cell ∨ (compEnvC scope cl C X.env).kindOf x = some .free) : scope.names.lookup x = some .free := by
  have e : (compEnvC scope cl C X.env).kindOf x = (scope.names.lookup x).map fun k => if (k == NameKind.free && X.env.scope.kind == .function && X.env.kindOf x == some .cell) then NameKind.cell else k := lookup_relabel X.env scope.names x
  rw [e] at h
  cases q : scope.names.lookup x with
  | none => rw [q] at h; simp at h
  | some k =>
    rw [q] at h
    by_cases hk : k = .free
    · rw [hk]
    · have hc : k ≠ .cell := O.cell (x, k) (PySem.mem_of_lookup q)
      have hb : (k == NameKind.free) = false := by simpa using hk
      have hr : ¬ ((k == NameKind.free && X.env.scope.kind == .function && X.env.kindOf x == some .cell) = true) := by rw [hb]; exact Bool.false_ne_true
      have h : some (if (k == NameKind.free && X.env.scope.kind == .function && X.env.kindOf x == some .cell) = true then NameKind.cell else k) = some NameKind.cell ∨ some (if (k == NameKind.free && X.env.scope.kind == .function && X.env.kindOf x == some .cell) = true then NameKind.cell else k) = some NameKind.free := h
      rw [if_neg hr] at h
      rcases h with h | h
      · exact absurd (Option.some.inj h) hc
      · exact absurd (Option.some.inj h) hk
theorem CompOk.look (O : CompOk X own scope) (ok : X.Ok) {x : Str} (h : scope.names.lookup x = some .free) : ∃ c, (closL X.env scope.names).lookup x = some c ∧ X.env.cells.lookup x = some c := by
  obtain ⟨c, hc⟩ := closL_has scope.names [] (env := X.env) x (PySem.mem_of_lookup h)
  obtain ⟨d, hd⟩ := lookup_of_mem hc
  exact ⟨d, hd, O.sub ok x d hd⟩
theorem stk_of (I : Inv X pins σ H s) {b : Addr} (h1 : b ≠ X.env.locals) (h2 : b ∉ X.fs) : b ∉ frs X.stack := fun z => (List.mem_cons.mp (I.stkSub b z)).elim h1 h2

theorem comp_inv (O : CompOk X own scope) (I : Inv X pins σ H s) (hf : ∀ b ∈ fp, FpOk X pins H b) (ho : ∀ b ∈ fp, ∃ o, s.heap.get? b = some o) {h₁ : Heap} {C : Addr} {tk : Nat} {m : Str → Option Value}
    (hC : s.heap.objs.size < C) (hD : h₁.get? s.heap.objs.size = some (lo [] 0)) (old : ∀ b o, s.heap.get? b = some o → h₁.get? b = some o) (hns : h₁.Ns C m) :
    Inv (cxC X own scope (closL X.env scope.names) C s H fp) (pins ++ [(s.heap.objs.size, lo [] 0)]) (List.replicate own.length none ++ σ) H { s with heap := h₁, toks := tk } := by
  have ltD : ∀ {b : Addr} {o : Obj}, s.heap.get? b = some o → b < s.heap.objs.size := fun e => Heap.lt_size e
  have nC : ∀ {b : Addr} {o : Obj}, s.heap.get? b = some o → b ≠ C := fun e => Nat.ne_of_lt (Nat.lt_trans (ltD e) hC)
  have hsub := O.sub I.ok
  refine ⟨⟨I.ok.mod, by show (relabel scope X.env).kind = _; exact O.kind, I.ok.glob, I.ok.blt, Nat.le_of_lt hC, fun x y c h1 h2 => I.ok.inj x y c (hsub x c h1) (hsub y c h2), fun x hx => ?_, fun x c hx _ => absurd (show false = true from hx) Bool.false_ne_true, I.ok.hd, I.ok.frames, .inl rfl, fun b hb => ⟨?_, fun x c e => ?_⟩, I.bs, Nat.le_trans I.ok.bsz I.sz, fun b o e hb => ?_, fun b hb => stk_of I (hf b hb).2.1 (hf b hb).2.2.1, I.stack, I.stkFree⟩,
    rfl, I.bare, Un.kept old, ⟨m, hns, fun i x v e1 e2 e3 => ?_⟩, fun x c e => ?_, I.hok.fresh (Nat.le_of_lt hC), fun x c e => I.freeC x c (hsub x c e), fun p hp => ?_, I.hok.kept old, ?_⟩
  · obtain ⟨c, hc, _⟩ := O.look I.ok (O.free_of hx)
    exact ⟨c, hc⟩
  · obtain ⟨o, e⟩ := ho b hb
    exact nC e
  · exact (hf b hb).2.2.2.2.1 x c (hsub x c e)
  · rcases (hf b hb).2.2.2.1 with z | z
    · exact I.ok.noex b o e z
    · exact absurd (Nat.lt_of_lt_of_le (Heap.lt_size e) (Nat.le_trans I.ok.bsz z)) (Nat.lt_irrefl _)
  · have e1 : (own ++ X.N)[i]? = some x := e1
    by_cases hi : i < own.length
    · rw [List.getElem?_append_left (by simpa using hi), List.getElem?_replicate, if_pos hi] at e2
      cases e2
    · rw [List.getElem?_append_right (by simpa using hi), List.length_replicate] at e2
      rw [List.getElem?_append_right (by simpa using hi)] at e1
      have nl : (compEnvC scope (closL X.env scope.names) C X.env).kindOf x ≠ some .local := by
        have e : (compEnvC scope (closL X.env scope.names) C X.env).kindOf x = (scope.names.lookup x).map fun k => if (k == NameKind.free && X.env.scope.kind == .function && X.env.kindOf x == some .cell) then NameKind.cell else k := lookup_relabel X.env scope.names x
        rw [e]
        intro z
        cases q : scope.names.lookup x with
        | none => rw [q] at z; simp at z
        | some k =>
          rw [q] at z
          by_cases hk : k = .local
          · exact O.loc x (List.mem_of_getElem? e1) (by rw [q, hk])
          · have z : some (if (k == NameKind.free && X.env.scope.kind == .function && X.env.kindOf x == some .cell) = true then NameKind.cell else k) = some NameKind.local := z
            by_cases hc : (k == NameKind.free && X.env.scope.kind == .function && X.env.kindOf x == some .cell) = true
            · rw [if_pos hc] at z
              cases z
            · rw [if_neg hc] at z
              exact hk (Option.some.inj z)
      have hv : (compEnvC scope (closL X.env scope.names) C X.env).kindOf x = some .cell ∨ (compEnvC scope (closL X.env scope.names) C X.env).kindOf x = some .free := by
        rcases e3 with z | z | z
        · exact absurd z nl
        · exact .inl z
        · exact .inr z
      have hfree := O.free_of hv
      have hout := O.fr (x, .free) (PySem.mem_of_lookup hfree) rfl
      obtain ⟨m0, hn0, hl0⟩ := I.loc
      obtain ⟨u, r, l⟩ := hl0 _ x v e1 e2 (hout.elim (fun z => .inr (.inl z)) fun z => .inr (.inr z))
      refine ⟨u, r, .inr ⟨hv, ?_⟩⟩
      rcases l with ⟨k, _⟩ | ⟨_, c, ec, z⟩
      · have k' : X.env.scope.names.lookup x = some .local := k
        rcases hout with q | q
        · rw [q] at k'; cases k'
        · rw [q] at k'; cases k'
      · obtain ⟨d, hd1, hd2⟩ := O.look I.ok hfree
        rw [ec] at hd2
        cases hd2
        obtain ⟨oc, hoc, hdc⟩ := z
        exact ⟨c, hd1, oc, old _ _ hoc, hdc⟩
  · obtain ⟨v, o, hoc, hdc⟩ := I.cell x c (hsub x c e)
    exact ⟨v, o, old _ _ hoc, hdc⟩
  · have hp : p ∈ X.pn ++ (pins ++ [(s.heap.objs.size, lo [] 0)]) := hp
    rw [← List.append_assoc] at hp
    rcases List.mem_append.mp hp with hp | hp
    · obtain ⟨e, n, ne, nf, d⟩ := I.pin p hp
      exact ⟨old _ _ e, n, nC e, stk_of I ne nf, d⟩
    · cases List.mem_singleton.mp hp
      refine ⟨hD, I.hok.fresh (Nat.le_refl _), Nat.ne_of_lt hC, fun z => ?_, fun v z => by cases z⟩
      have z := I.stkSub _ z
      rcases List.mem_cons.mp z with z | z
      · exact absurd z (Nat.ne_of_gt I.lt)
      · exact I.nofs (Nat.le_refl _) z
  · show (List.replicate own.length none ++ σ).length = (own ++ X.N).length
    rw [List.length_append, List.length_append, List.length_replicate, I.len]

theorem comp_exit {cl : List (Str × Addr)} {C : Addr} {its : List Value} {n : Nat} {σ' : St} {H' : Hp} {s' : Shared} {ys : List V} {h' : Heap} (I : Inv X pins σ H s) (hf : ∀ b ∈ fp, FpOk X pins H b) (hC : s.heap.objs.size < C)
    (I' : Inv (cxC X own scope cl C s H fp) (pins ++ [(s.heap.objs.size, lo its n)]) σ' H' s') (hv : Vals ys its) (hz : ys.length ≤ sizeLine) (hs : Heap.SameBut C s'.heap h') :
    Inv X pins σ (upd H' s.heap.objs.size (.lst ys)) { s' with heap := h' } := by
  obtain ⟨eD, nD, neD, _, _⟩ := I'.pin (s.heap.objs.size, lo its n) (List.mem_append_right _ (List.mem_append_right _ List.mem_cons_self))
  have nC : ∀ {b : Addr} {o : Obj}, s.heap.get? b = some o → b ≠ C := fun e => Nat.ne_of_lt (Nat.lt_trans (Heap.lt_size e) hC)
  have nDD : ∀ {b : Addr} {o : Obj}, s.heap.get? b = some o → b ≠ s.heap.objs.size := fun e => Nat.ne_of_lt (Heap.lt_size e)
  have same : ∀ {b : Addr} {o : Obj}, b ≠ C → s'.heap.get? b = some o → h'.get? b = some o := fun hb e => (hs.2 _ hb).trans e
  have fC : H' C = none := I'.free
  have hb : Un (frs X.stack) fp H H' s.heap s'.heap := I'.base
  have hot : ∀ {b : Addr} {u : HO}, H b = some u → b ≠ s.heap.objs.size := fun e => Nat.ne_of_lt (I.hok.lt e)
  refine I.call' (s' := { s' with heap := h' }) (ch := fp) I'.os ⟨fun b o e q n1 n2 => same (nC e) (hb.keep b o e q n1 n2), fun b o e q n1 n2 => ?_, fun b o e q n2 => ?_, fun b o e n2 => ?_, fun b xs e => ?_, fun b o u e => ?_, fun b ps e => ?_⟩ ?_ I'.bare fun b hb' => ?_
  · obtain ⟨sl, q2⟩ := hb.slot b o e q n1 n2
    exact ⟨sl, same (nC e) q2⟩
  · rw [upd_ne (nDD e)]
    exact hb.free b o e q n2
  · obtain ⟨o', q2⟩ := hb.there b o e n2
    exact ⟨o', same (nC e) q2⟩
  · rw [upd_ne (hot e)]
    exact hb.tups b xs e
  · rw [upd_ne (hot e)]
    exact hb.frzs b o u e
  · obtain ⟨more, q2⟩ := hb.tbls b ps e
    exact ⟨more, by rw [upd_ne (hot e)]; exact q2⟩
  · intro b u e
    by_cases hbD : b = s.heap.objs.size
    · subst hbD
      rw [upd_same] at e
      cases e
      exact ⟨hz, its, n, hv, same neD eD⟩
    · rw [upd_ne hbD] at e
      have nD' : ∀ {c : Addr} {w : HO}, H' c = some w → c ≠ s.heap.objs.size := fun q z => by
        rw [z] at q
        have z2 : H' s.heap.objs.size = none := nD
        rw [z2] at q
        cases q
      refine (I'.hok b u e).stay (fun c v hc q => same ?_ q) (fun c q => by rw [upd_ne (nD' q)]; exact q) fun c xs q => by rw [upd_ne (nD' q)]; exact q
      rintro rfl
      rcases hc with z | z
      · rw [← z, fC] at e; cases e
      · rw [fC] at z; cases z
  · obtain ⟨_, f1, _, f3, f4, f5⟩ := hf b hb'
    exact ⟨f3, f1, f4, f5⟩

theorem append_at' {prog : Program} {w : World} {A : Around} {E : Value → Shared → Prop} {s : Shared} {l : Addr} {its : List Value} {n : Nat} {u : Value} {Q : Value → Shared → Prop} (e : s.heap.get? l = some (lo its n)) (hz : its.length ≤ sizeLine)
    (h : Q .none { s with heap := s.heap.update l (Obj.mapSeq (·.push u)) }) : wpAny (model prog w) A (call (.builtin "list.append") [.ref l, u]) Q E s :=
  call_meets F.slot_list_append ⟨_, e, rfl⟩ F.entry_list_append (F.args_list_append_2 _ _) (PySem.list_append l its.toArray n u (by rw [List.size_toArray]; omega)) ⟨e, h⟩

/-- what a comprehension comes to, used at once (use) or handed on -/
theorem comp_core {tg iter elt : Expr} {ifs : List Expr} {pos pos0 : Pos} {wi : TI} {g : TG} {tt : TT} {te : TE} {use : Option (Value → Sem Unit)} {Qp : Value → Shared → Prop} (O : CompOk X own scope) (hi : PI X tg iter wi)
    (hg : ∀ cl C s H fp, PG (cxC X own scope cl C s H fp) tg g) (ht : ∀ cl C s H fp, PTs (cxC X own scope cl C s H fp) ifs tt) (he : ∀ cl C s H fp, PE (cxC X own scope cl C s H fp) elt te)
    (hs : ∀ x, foldedSetIterable iter X.env x = pure x) {pins : List (Addr × Obj)} {s : Shared} {σ : St} {H : Hp} {Q : VK} (I : Inv X pins σ H s) (h : tComp wi g tt te own.length σ H Q)
    (fin : ∀ (s2 : Shared) (H2 : Hp) (fp : List Addr) (C : Addr) (cl : List (Str × Addr)) (its : List Value) (nn : Nat) (σ' : St) (H' : Hp) (s5 : Shared) (ys : List V), Inv X pins σ H2 s2 → (∀ b ∈ fp, FpOk X pins H2 b) → s2.heap.objs.size < C →
      Inv (cxC X own scope cl C s2 H2 fp) (pins ++ [(s2.heap.objs.size, lo its nn)]) σ' H' s5 → Vals ys its → ys.length ≤ sizeLine → (∀ p, H' p = none → Q (.ref p) (upd H' p (.lst ys))) →
      compPost (model X.prog X.w) X.A X.xe use Qp (.ref s2.heap.objs.size) C (.ok .next) s5) :
    wpAny (model X.prog X.w) X.A (comprehension (.ListComp elt [⟨tg, iter, ifs, 0⟩] scope pos) scope X.env pos0 (newList []) false (eval iter X.env) use) Qp X.xe s := by
  refine wpAny_comprehension_free (use := use) rfl hs (closureFor_eq (O.cells I.ok)) O.kind O.names (thn (hi pins s σ H _ I h) fun v s1 h1 => thn h1 fun itv s2 h2 => ?_)
  obtain ⟨it, fp, tn, J, H2, rfl, I2, T, st2, f2, W, ⟨m0, w0⟩, turn⟩ := h2
  refine wpAny_newObj_type (wpAny_newFunctionEnv O.cell (by intro y hy; simp at hy) (fun h₁ hns₁ hsb₁ => ?_) O.kind)
  dsimp only at hns₁ hsb₁ ⊢
  generalize hH2 : s2.heap.push { cls := .type "list", dict := none, data := .seq ([] : List Value).toArray } = Hh at hns₁ hsb₁ ⊢
  have hCs : Hh.objs.size = s2.heap.objs.size + 1 := by rw [← hH2, Heap.size_push]
  have hC : s2.heap.objs.size < Hh.objs.size := by rw [hCs]; exact Nat.lt_succ_self _
  have old : ∀ b o, s2.heap.get? b = some o → h₁.get? b = some o := fun b o e => hsb₁.extBut b o (Nat.ne_of_lt (Nat.lt_trans (Heap.lt_size e) hC)) (Heap.get?_push_of_some _ (hH2 ▸ Heap.get?_push_of_some _ e))
  have hacc : h₁.get? s2.heap.objs.size = some (lo [] 0) := hsb₁.extBut _ _ (Nat.ne_of_lt hC) (Heap.get?_push_of_some _ (hH2 ▸ Heap.get?_push_size _ rfl))
  have hob : ∀ b ∈ fp, ∃ o, s2.heap.get? b = some o := fun b hb => let ⟨o, e, _⟩ := T.obj _ _ st2 b hb; ⟨o, e⟩
  have st3 : tn 0 h₁ := T.keep _ _ _ st2 fun b _ o e => old b o e
  have pinlt : ∀ p ∈ X.pn ++ pins, p.1 < s2.heap.objs.size := fun p hp => Heap.lt_size (I2.pin p hp).1
  have loop : ∀ s₃ : Shared, s₃ = { s2 with heap := h₁, toks := s2.toks + ([] : List (Str × Value)).length } →
      codeAny (model X.prog X.w) X.A (.compLoop (.ListComp elt [⟨tg, iter, ifs, 0⟩] scope pos) 0 (.ref it) (.ref s2.heap.objs.size) (compEnvC scope (closL X.env scope.names) Hh.objs.size X.env))
        (compPost (model X.prog X.w) X.A X.xe use Qp (.ref s2.heap.objs.size) Hh.objs.size) s₃ := by
    rintro s₃ rfl
    have I3 := comp_inv (tk := s2.toks + ([] : List (Str × Value)).length) O I2 f2 hob hC hacc old hns₁
    have stat : ∀ {o : Obj} {H' : Hp}, (∀ b ∈ fp, H' b = none) → ∀ b ∈ fp, FpOk (cxC X own scope (closL X.env scope.names) Hh.objs.size s2 H2 fp) (pins ++ [(s2.heap.objs.size, o)]) H' b := fun {o H'} hn b hb => by
      obtain ⟨o', eo⟩ := hob b hb
      refine ⟨hn b hb, Nat.ne_of_lt (Nat.lt_trans (Heap.lt_size eo) hC), stk_of I2 (f2 b hb).2.1 (f2 b hb).2.2.1, .inl hb, fun x c e => (f2 b hb).2.2.2.2.1 x c (O.sub I2.ok x c e), fun p hp => ?_⟩
      have hp : p ∈ X.pn ++ (pins ++ [(s2.heap.objs.size, o)]) := hp
      rw [← List.append_assoc] at hp
      rcases List.mem_append.mp hp with hp | hp
      · exact (f2 b hb).2.2.2.2.2 p hp
      · cases List.mem_singleton.mp hp
        exact Nat.ne_of_gt (Heap.lt_size eo)
    refine compLoop_go (fun n s' => ∃ i ys its nn σ' H', Inv (cxC X own scope (closL X.env scope.names) Hh.objs.size s2 H2 fp) (pins ++ [(s2.heap.objs.size, lo its nn)]) σ' H' s' ∧ Wk σ' (List.replicate own.length none ++ σ) ∧ tn i s'.heap ∧ (∀ b ∈ fp, H' b = none) ∧ Vals ys its ∧ W i n ys H')
      ?_ m0 ⟨0, [], [], 0, _, H2, I3, Wk.refl _, st3, fun b hb => (f2 b hb).1, .nil, w0⟩
    rintro n s4 ⟨i, ys, its, nn, σ4, H4, I4', wk4, st4, fr4, vs4, w4⟩
    have I4 := I4'.weak (σ' := List.replicate own.length none ++ σ) wk4.len (fun i v => wk4.get i v)
    rcases turn i n ys H4 w4 with ⟨stop, hz, qn⟩ | ⟨go, hz, step⟩
    · refine thn (T.done (cxC X own scope (closL X.env scope.names) Hh.objs.size s2 H2 fp) rfl rfl rfl O.calm i _ s4 _ H4 (fun _ _ => False) I4 (stat fr4) st4 stop) fun r s5 ⟨hr, I5⟩ => ?_
      subst hr
      exact fin s2 H2 fp Hh.objs.size _ its nn _ H4 s5 ys I2 f2 hC I5 vs4 hz qn
    · refine thn (T.item (cxC X own scope (closL X.env scope.names) Hh.objs.size s2 H2 fp) rfl rfl rfl O.calm i _ s4 _ H4 (fun _ _ => False) I4 (stat fr4) st4 go) fun r s5 ⟨u, hr, h5⟩ => ?_
      subst hr
      refine thn h5 fun _ s6 ⟨x, H6, I6, r6, y6, st6, fr6⟩ => ?_
      have I6' := I6.pinned (stat fr6) (T.obj _ _ st6)
      refine thn (hg _ _ _ _ _ _ s6 _ H6 x u _ I6' r6 (step x H6 y6)) fun _ s7 ⟨σ7, H7, I7, wk7, q7⟩ => ?_
      refine thn (ht _ _ _ _ _ _ s7 σ7 H7 _ I7 q7) fun ok s8 ⟨H8, I8, q8⟩ => ?_
      have again : ∀ {σ9 : St} {H9 : Hp} {s9 : Shared}, Inv (cxC X own scope (closL X.env scope.names) Hh.objs.size s2 H2 fp) ((pins ++ [(s2.heap.objs.size, lo its nn)]) ++ pinsAt fp s6.heap) σ9 H9 s9 → tn (i + 1) s9.heap ∧ ∀ b ∈ fp, H9 b = none := fun {σ9 H9 s9} I9 =>
        ⟨T.keep _ _ _ st6 fun b hb o e => (I9.pin (b, o) (List.mem_append_right _ (List.mem_append_right _ (mem_pinsAt hb e)))).1, fun b hb => by
          obtain ⟨o, e, d⟩ := T.obj _ _ st6 b hb
          exact (I9.pin (b, o) (List.mem_append_right _ (List.mem_append_right _ (mem_pinsAt hb e)))).2.1⟩
      cases ok with
      | false =>
        rw [if_neg Bool.false_ne_true] at q8 ⊢
        obtain ⟨m', hm, w8⟩ := q8
        obtain ⟨a1, a2⟩ := again I8
        exact ⟨m', hm, i + 1, ys, its, nn, σ7, H8, I8.unpinned, wk7, a1, a2, vs4, w8⟩
      | true =>
        rw [if_pos rfl] at q8 ⊢
        refine thn (he _ _ _ _ _ _ s8 σ7 H8 _ I8 q8) fun yv s9 ⟨y, H9, I9, r9, m', hm, w9⟩ => ?_
        obtain ⟨a1, a2⟩ := again I9
        obtain ⟨eD, nD, neD, nfD, _⟩ := I9.pin (s2.heap.objs.size, lo its nn) (List.mem_append_right _ (List.mem_append_left _ (List.mem_append_right _ List.mem_cons_self)))
        have hlen := vs4.length
        refine append_at' eD (by omega) ?_
        have upd9 := PySem.IsL.update (l := s2.heap.objs.size) eD (·.push yv)
        have uother : ∀ b o, b ≠ s2.heap.objs.size → s9.heap.get? b = some o → (s9.heap.update s2.heap.objs.size (Obj.mapSeq (·.push yv))).get? b = some o := fun b o hb e => (Heap.get?_update_other s9.heap (Obj.mapSeq (·.push yv)) (Ne.symm hb)).trans e
        have I9a : Inv (cxC X own scope (closL X.env scope.names) Hh.objs.size s2 H2 fp) pins σ7 H9 s9 := I9.unpinned.unpinned
        have I9b : Inv (cxC X own scope (closL X.env scope.names) Hh.objs.size s2 H2 fp) pins σ7 H9 { s9 with heap := s9.heap.update s2.heap.objs.size (Obj.mapSeq (·.push yv)) } :=
          I9a.turned (t' := s9.toks) uother nD neD (.inr (Nat.le_refl _)) (fun x c e z => by
            obtain ⟨v, o, hoc, _⟩ := I2.cell x c (O.sub I2.ok x c e)
            exact absurd z (Nat.ne_of_lt (Heap.lt_size hoc))) fun p hp => Nat.ne_of_lt (pinlt p hp)
        have e2 : (its.toArray.push yv) = (its ++ [yv]).toArray := by simp
        have upd9' : ∃ n2, (s9.heap.update s2.heap.objs.size (Obj.mapSeq (·.push yv))).get? s2.heap.objs.size = some (lo (its ++ [yv]) n2) := ⟨_, by rw [upd9, e2]⟩
        obtain ⟨n2, upd9'⟩ := upd9'
        have I9c := I9b.pins_of (pins' := pins ++ [(s2.heap.objs.size, lo (its ++ [yv]) n2)]) fun p hp => by
          rcases List.mem_append.mp hp with hp | hp
          · exact I9b.pin p (List.mem_append_right _ hp)
          · cases List.mem_singleton.mp hp
            exact ⟨upd9', nD, neD, nfD, fun v z => by cases z⟩
        refine ⟨m', hm, i + 1, ys ++ [y], its ++ [yv], n2, σ7, H9, I9c, wk7, T.keep _ _ _ a1 fun b hb o e => uother b o ?_ e, a2, vs4.append (.cons r9 .nil), w9⟩
        obtain ⟨o', eo⟩ := hob b hb
        exact Nat.ne_of_lt (Heap.lt_size eo)
  exact codeAny_compStart_list (loop _ rfl) (T.self _ 0 _ _ _ st3 (loop _ rfl))
theorem pe_comp {tg iter elt : Expr} {ifs : List Expr} {pos : Pos} {wi : TI} {g : TG} {tt : TT} {te : TE} (O : CompOk X own scope) (hi : PI X tg iter wi)
    (hg : ∀ cl C s H fp, PG (cxC X own scope cl C s H fp) tg g) (ht : ∀ cl C s H fp, PTs (cxC X own scope cl C s H fp) ifs tt) (he : ∀ cl C s H fp, PE (cxC X own scope cl C s H fp) elt te)
    (hs : ∀ x, foldedSetIterable iter X.env x = pure x := by intro _; rfl) :
    PE X (.ListComp elt [⟨tg, iter, ifs, 0⟩] scope pos) (tComp wi g tt te own.length) := by
  intro pins s σ H Q I h
  rw [eval_ListComp]
  refine comp_core O hi hg ht he hs I h fun s2 H2 fp C cl its nn σ' H' s5 ys I2 f2 hC I5 vs hz qn => ?_
  obtain ⟨mm, hnm, _⟩ := I5.loc
  exact ⟨mm, hnm, fun h' hs' => ⟨.ref s2.heap.objs.size, _, comp_exit I2 f2 hC I5 vs hz hs', rfl, qn _ (I5.pin (s2.heap.objs.size, lo its nn) (List.mem_append_right _ (List.mem_append_right _ List.mem_cons_self))).2.1⟩⟩
/-- x = [elt for ..], x a plain local name -/
theorem ps_setC {i : Nat} {x : Str} {tg iter elt : Expr} {ifs : List Expr} {pos pos' cpos : Pos} {wi : TI} {g : TG} {tt : TT} {te : TE} (hN : X.N.Nodup) (hix : X.N[i]? = some x) (hl : X.env.scope.names.lookup x = some .local) (O : CompOk X own scope) (hi : PI X tg iter wi)
    (hg : ∀ cl C s H fp, PG (cxC X own scope cl C s H fp) tg g) (ht : ∀ cl C s H fp, PTs (cxC X own scope cl C s H fp) ifs tt) (he : ∀ cl C s H fp, PE (cxC X own scope cl C s H fp) elt te)
    (hs : ∀ x, foldedSetIterable iter X.env x = pure x := by intro _; rfl) (hsw : swapsWith (.ListComp elt [⟨tg, iter, ifs, 0⟩] scope cpos) (some (.Name x pos')) pos.line X.env = pure true := by rfl) :
    PS X (.Assign [.Name x pos'] (.ListComp elt [⟨tg, iter, ifs, 0⟩] scope cpos) pos) (tAsg (tComp wi g tt te own.length) (gName i)) := by
  intro pins s σ H D I h
  rw [exec_Assign_Name_used _ _ _ _ hsw]
  refine wpAny_bind (wpAny_standAt (wpAny_bind (m := evalThenUse _ X.env _) ?_))
  show wpAny _ _ (comprehension (.ListComp elt [⟨tg, iter, ifs, 0⟩] scope cpos) scope X.env _ (newList []) false (eval iter X.env) (some (assign (.Name x pos') X.env)) >>= fun _ => _) _ _ s
  refine wpAny_bind (thn (comp_core (Qp := fun _ s' => SP X pins D .next s') O hi hg ht he hs I h fun s2 H2 fp C cl its nn σ' H' s5 ys I2 f2 hC I5 vs hz qn => ?_) fun _ s' hq => wpAny_pure (wpAny_pure hq))
  have Ix : Inv X pins σ (upd H' s2.heap.objs.size (.lst ys)) s5 := comp_exit I2 f2 hC I5 vs hz (Heap.SameBut.refl _ _)
  obtain ⟨mm, hnm, _⟩ := I5.loc
  have fC : H' C = none := I5.free
  have nCD : C ≠ s2.heap.objs.size := Nat.ne_of_gt hC
  refine wpAny_assign_Name (store_ok2 (v := .ref s2.heap.objs.size) Ix hN hix (.inl hl) rfl (fun s6 I6 sb => ?_) (.inr hl))
  obtain ⟨a, sb, ha⟩ := sb
  have nLC : X.env.locals ≠ C := Nat.ne_of_lt (Nat.lt_trans I2.lt hC)
  have cC : ∀ y c, X.env.cells.lookup y = some c → c ≠ C := fun y c e => by
    obtain ⟨v, o, ho, _⟩ := I2.cell y c e
    exact Nat.ne_of_lt (Nat.lt_trans (Heap.lt_size ho) hC)
  have naC : C ≠ a := by
    rcases ha with rfl | ha
    · exact Ne.symm nLC
    · exact Ne.symm (cC x a ha)
  refine ⟨mm, hnm.sameBut sb naC, fun h' hs' => ⟨_, _, I6.turned (t' := s6.toks) (fun b o hb e => (hs'.2 b hb).trans e) (by rw [upd_ne nCD]; exact fC) (Ne.symm nLC) (.inr (Nat.le_trans I2.sz (Nat.le_of_lt hC))) cC (fun p hp => Nat.ne_of_lt (Nat.lt_trans (Heap.lt_size (I2.pin p hp).1) hC)), qn _ (I5.pin (s2.heap.objs.size, lo its nn) (List.mem_append_right _ (List.mem_append_right _ List.mem_cons_self))).2.1⟩⟩
end
/-! ### rules with the module's part named, for a comprehension's block -/
section
variable {X : Cx} {pos : Pos}
theorem pg_tupK (K : PySem.W.Frag) (n : Nat) {es : List Expr} {k : Nat} {t : TGs} (hK : X.K = K) (hc : X.calm = true) (h : PGs X es t)
    (hn : (assignEach es X.env).length = n := by rfl) (hst : (assignEach es X.env).findIdx? (·.1) = none := by rfl) : PG X (.Tuple es k pos) (gTup K n t) := by
  subst hK
  exact pg_tup hc h hn hst
theorem ix_tupK (K : PySem.W.Frag) (hK : X.K = K) : IxR X (rIxT K) := by subst hK; exact ix_tup
end
end L2

namespace L2
open PySem PySem.Spec PyProof.Rows

/-! ### data in the abstract heap -/
mutual
inductive DV (H : Hp) : V → PyData → Prop
  | non : DV H .non .none
  | bl (b : Bool) : DV H (.bl b) (.bool b)
  | int (i : Int) : DV H (.int i) (.int i)
  | str (x : Str) : DV H (.str x) (.str x)
  | lst {a : Addr} {xs : List V} {ds : List PyData} : H a = some (.lst xs) → DVs H xs ds → DV H (.ref a) (.list ds)
  | tup {a : Addr} {xs : List V} {ds : List PyData} : H a = some (.tup xs) → DVs H xs ds → DV H (.ref a) (.tuple ds)
inductive DVs (H : Hp) : List V → List PyData → Prop
  | nil : DVs H [] []
  | cons {v : V} {vs : List V} {d : PyData} {ds : List PyData} : DV H v d → DVs H vs ds → DVs H (v :: vs) (d :: ds)
end
mutual
theorem DV.mono {H H' : Hp} (g : Same H H') : ∀ {v : V} {d : PyData}, DV H v d → DV H' v d
  | _, _, .non => .non
  | _, _, .bl b => .bl b
  | _, _, .int i => .int i
  | _, _, .str x => .str x
  | _, _, .lst e r => .lst (g _ _ e) (DVs.mono g r)
  | _, _, .tup e r => .tup (g _ _ e) (DVs.mono g r)
theorem DVs.mono {H H' : Hp} (g : Same H H') : ∀ {vs : List V} {ds : List PyData}, DVs H vs ds → DVs H' vs ds
  | _, _, .nil => .nil
  | _, _, .cons h r => .cons (DV.mono g h) (DVs.mono g r)
end
theorem DVs.length {H : Hp} : ∀ {vs : List V} {ds : List PyData}, DVs H vs ds → vs.length = ds.length
  | _, _, .nil => rfl
  | _, _, .cons _ r => congrArg (· + 1) r.length
theorem DVs.append {H : Hp} : ∀ {vs ws : List V} {ds es : List PyData}, DVs H vs ds → DVs H ws es → DVs H (vs ++ ws) (ds ++ es)
  | _, _, _, _, .nil, s => s
  | _, _, _, _, .cons h r, s => .cons h (DVs.append r s)
theorem DVs.get {H : Hp} : ∀ {vs : List V} {ds : List PyData} {i : Nat} {d : PyData}, DVs H vs ds → ds[i]? = some d → ∃ v, vs[i]? = some v ∧ DV H v d
  | _, _, _, _, .nil, e => by simp at e
  | _, _, 0, _, .cons h _, e => by simp at e; subst e; exact ⟨_, rfl, h⟩
  | _, _, i + 1, d, .cons _ r, e => by
    obtain ⟨v, h1, h2⟩ := DVs.get (i := i) (d := d) r (by simpa using e)
    exact ⟨v, by simpa using h1, h2⟩
theorem DVs.getV {H : Hp} : ∀ {vs : List V} {ds : List PyData} {i : Nat} {v : V}, DVs H vs ds → vs[i]? = some v → ∃ d, ds[i]? = some d ∧ DV H v d
  | _, _, _, _, .nil, e => by simp at e
  | _, _, 0, _, .cons h _, e => by simp at e; subst e; exact ⟨_, rfl, h⟩
  | _, _, i + 1, d, .cons _ r, e => by
    obtain ⟨v, h1, h2⟩ := DVs.getV (i := i) (v := d) r (by simpa using e)
    exact ⟨v, by simpa using h1, h2⟩
section
variable {X : Cx} {pins : List (Addr × Obj)} {σ : St} {H : Hp} {s : Shared}
mutual
theorem DV.reads (I : Inv X pins σ H s) : ∀ {v : V} {d : PyData} {u : Value}, DV H v d → RelV v u → ∃ as, Reads s.heap u d as
  | _, _, _, .non, r => by cases r; exact ⟨_, Reads.none⟩
  | _, _, _, .bl b, r => by cases r; exact ⟨_, Reads.bool b⟩
  | _, _, _, .int i, r => by obtain ⟨t, rfl⟩ := r; exact ⟨_, Reads.int i t⟩
  | _, _, _, .str x, r => by obtain ⟨t, rfl⟩ := r; exact ⟨_, Reads.str x t⟩
  | _, _, _, .lst e q, r => by
    cases r
    obtain ⟨its, n, rv, ho, _⟩ := I.lst e
    obtain ⟨as, p⟩ := DVs.reads I q rv
    exact ⟨_, reads_list_at ho rfl rfl (by simpa using p)⟩
  | _, _, _, .tup e q, r => by
    cases r
    obtain ⟨its, rv, ⟨o, ho, hc, n, hd⟩, _⟩ := I.tuple (SqT.of e)
    obtain ⟨as, p⟩ := DVs.reads I q rv
    exact ⟨_, reads_tuple_at ho hc hd (by simpa using p)⟩
theorem DVs.reads (I : Inv X pins σ H s) : ∀ {vs : List V} {ds : List PyData} {us : List Value}, DVs H vs ds → Vals vs us → ∃ as, ReadsAll s.heap us ds as
  | _, _, _, .nil, r => by cases r; exact ⟨_, ReadsAll.nil⟩
  | _, _, _, .cons h t, r => by
    cases r with
    | cons r1 r2 =>
      obtain ⟨as, p⟩ := DV.reads I h r1
      obtain ⟨bs, q⟩ := DVs.reads I t r2
      exact ⟨_, ReadsAll.cons p q⟩
end
end
/-- == and != of data -/
def rEqD : R2 := fun x y H Q => ∃ d e, DV H x d ∧ DV H y e ∧ SeqAt.shaped d = true ∧ SeqAt.shaped e = true ∧ Q (.bl (PyData.eqv d e)) H
def rNeD : R2 := fun x y H Q => ∃ d e, DV H x d ∧ DV H y e ∧ SeqAt.shaped d = true ∧ SeqAt.shaped e = true ∧ Q (.bl (!PyData.eqv d e)) H
section
variable {X : Cx}
theorem op_neD (hu : X.A.units + 64 < cLine) : OpR X (compareOp .NotEq) rNeD := by
  intro pins s σ H x y v u Q I rx ry h
  obtain ⟨d, e, h1, h2, s1, s2, q⟩ := h
  obtain ⟨as, p1⟩ := h1.reads I rx
  obtain ⟨bs, p2⟩ := h2.reads I ry
  exact ne_dataH p1 p2 s1 s2 hu ⟨.bl _, H, I, rfl, q⟩

/-! ### isinstance(x, T), T a built-in type's name -/
def rIs (K : PySem.W.Frag) : List V → Hp → VK → Prop := fun xs H Q => ∃ x t T b, xs = [x, .ty T] ∧ TyOf K H x t ∧ PySem.W.kitOne K t (.type T) = some b ∧ Q (.bl b) H
theorem call_is : CallR X (.builtin "isinstance") (rIs X.K) := by
  intro pins s σ H xs us Q I r h
  obtain ⟨x, t, T, b, rfl, ty, e, q⟩ := h
  obtain ⟨u, w', rfl, ru, rt⟩ := vals2 r
  cases (show w' = Value.type T from rt)
  exact isinst_ok I ru ty e fun tk => ⟨.bl b, H, I.tok _, rfl, q⟩


/-! ### x.split(y) -/
def rSplit : V → List V → Hp → VK → Prop := fun x vs H Q => ∃ z y ps, x = .str z ∧ vs = [.str y] ∧ (decide (z.length < y.length) || decide (Builtin.Str.strKind z < Builtin.Str.strKind y)) = false ∧ (y.length == 0) = false ∧
  (Builtin.Str.occurrences z y 0 z.length (z.length + 1)).isEmpty = false ∧ z.length ≤ sizeLine ∧ Builtin.Str.partsBetween z (Builtin.Str.occurrences z y 0 z.length (z.length + 1)) y.length = ps ∧ ps.length ≤ sizeLine ∧ ∀ l, H l = none → Q (.ref l) (upd H l (.lst (ps.map V.str)))
theorem strs_vals : ∀ (ps : List Str) (k : Nat), Vals (ps.map V.str) (strsFrom k ps)
  | [], _ => .nil
  | p :: ps, k => .cons ⟨_, rfl⟩ (strs_vals ps _)
theorem mt_split : MtR X "str.split" rSplit := by
  intro pins s σ H x vs v us Q I rx rv h
  obtain ⟨z, y, ps, rfl, rfl, h1, h2, h3, h4, rfl, h5, q⟩ := h
  obtain ⟨t, rfl⟩ := rx
  obtain ⟨u, rfl, t', rfl⟩ := vals1 rv
  refine call_meets F.slot_str_split (typeIs_str s z t) F.entry_str_split (F.args_str_split_2 _ _) (meets_str_split_sep z y t t' h1 h2 h3 h4 h5) ?_
  refine ⟨.ref s.heap.objs.size, _, I.laid (o := .lst (_ : List V)) (fun b ob q => Heap.get?_push_of_some _ q) (Nat.le_refl _) ⟨?_, _, 0, strs_vals _ _, Heap.get?_push_size _ rfl⟩, rfl, q _ (I.hok.fresh (Nat.le_refl _))⟩
  rw [List.length_map]
  exact h5
end
end L2

namespace L2
open PySem PySem.Spec PyProof.Rows

/-! ### a def of the module that keeps its promise, by its name -/
structure Has (P : Program) (w : World) (K : PySem.W.Frag) (mg : Str → Option Value) (base : Heap) (x : Str) (k : Nat) (ps : List Str) (sp : Sp) : Prop where
  ex : ∃ f fd, FnOk P w K mg base CX0 k f fd ps sp ∧ Binds K fd ps [] ∧ PySem.W.keepIn K (.ref f) = true ∧ mg x = some (.ref f)
theorem Has.mono {P : Program} {w : World} {K : PySem.W.Frag} {mg : Str → Option Value} {base : Heap} {x : Str} {j k : Nat} {ps : List Str} {sp : Sp} (h : Has P w K mg base x j ps sp) (hj : j ≤ k) : Has P w K mg base x k ps sp := by
  obtain ⟨f, fd, F, b, q, m⟩ := h.ex
  exact ⟨f, fd, F.mono hj, b, q, m⟩
section
variable {X : Cx} {j k : Nat} {ps : List Str} {sp : Sp} {x : Str} {p pos : Pos} {e : Expr} {es : List Expr} {t : TA}
theorem pe_callH (h : Has X.prog X.w X.K X.mg X.base x j ps sp) (hr : Room k X.A) (ha : PA X (e :: es) t) (hg : Gl X x := by rfl) (hj : j ≤ k := by first | decide | omega)
    (hdb : (x == ("__debug__" : Str)) = false := by decide) (he : starEach (e :: es) X.env = (false, eval e X.env) :: starEach es X.env := by rfl) (hpl : (backTo pos (starEach es X.env)).any (·.1) = false := by rfl) :
    PE X (.Call (.Name x p) (e :: es) [] pos) (tCall sp [] E0 t) := by
  intro pins s σ H Q I q
  obtain ⟨f, fd, F, b, kp, m⟩ := h.ex
  refine pe_call (CX := CX0) (E := E0) (dvs := []) (F.mono hj) hr hg m kp b .nil ?_ ha hdb he hpl pins s σ H Q I q
  exact fun _ _ _ _ _ _ _ z => z.elim
end

/-! ### heaps without one address; what is laid anew -/
def hide (a : Addr) (H : Hp) : Hp := fun b => if b = a then none else H b
theorem hide_self {a : Addr} {H : Hp} : hide a H a = none := by unfold hide; rw [if_pos rfl]
theorem hide_ne {a b : Addr} {H : Hp} (h : b ≠ a) : hide a H b = H b := by unfold hide; rw [if_neg h]
theorem hide_some {a b : Addr} {H : Hp} {o : HO} (h : hide a H b = some o) : b ≠ a ∧ H b = some o := by
  unfold hide at h
  by_cases e : b = a
  · rw [if_pos e] at h; cases h
  · rw [if_neg e] at h; exact ⟨e, h⟩
theorem hide_sub {a : Addr} {H : Hp} : Same (hide a H) H := fun _ _ h => (hide_some h).2
theorem same_laid {H : Hp} {p : Addr} (h : H p = none) (o : HO) : Same H (upd H p o) := fun b u q => by rw [upd_ne (ne_of_none q h)]; exact q
/-- all but what stands at a is as it was -/
abbrev Grw (a : Addr) (H H' : Hp) : Prop := Same (hide a H) (hide a H')
theorem grw_same {a : Addr} {H H' : Hp} {o : HO} (ha : H a = some o) (g : Same H H') : Grw a H H' := fun b u q => by
  obtain ⟨h1, h2⟩ := hide_some q
  rw [hide_ne h1]; exact g b u h2
theorem grw_upd {a : Addr} {H : Hp} {o : HO} : Grw a H (upd H a o) := fun b u q => by
  obtain ⟨h1, h2⟩ := hide_some q
  rw [hide_ne h1, upd_ne h1]; exact h2
theorem grw_laid {a p : Addr} {H : Hp} {o : HO} (h : H p = none) : Grw a H (upd H p o) := fun b u q => by
  obtain ⟨h1, h2⟩ := hide_some q
  rw [hide_ne h1, upd_ne (ne_of_none h2 h)]; exact h2

/-! ### a pen: three ints, as the draws leave it -/
def PenAt (H : Hp) (a : Addr) : Prop := ∃ p q r : Int, H a = some (.lst [.int p, .int q, .int r])
theorem PenAt.same {H H' : Hp} {a : Addr} (h : PenAt H a) (g : Same H H') : PenAt H' a := by
  obtain ⟨p, q, r, e⟩ := h
  exact ⟨p, q, r, g _ _ e⟩
theorem PenAt.laid {H : Hp} {a p : Addr} {o : HO} (h : PenAt H a) (hp : H p = none) : PenAt (upd H p o) a := h.same (same_laid hp o)
theorem PenAt.ne {H : Hp} {a p : Addr} (h : PenAt H a) (hp : H p = none) : p ≠ a := by
  obtain ⟨x, y, z, e⟩ := h
  exact fun q => by rw [q, e] at hp; cases hp
end L2

namespace L2
open PySem PySem.Spec PyProof.Rows
/-! ### small facts -/
theorem posI {j : Int} (h : decide (0 < j) = true) : 0 < j := of_decide_eq_true h
theorem ltI {i j : Int} (h : decide (i < j) = true) : i < j := of_decide_eq_true h
theorem leI {i j : Int} (h : decide (i ≤ j) = true) : i ≤ j := of_decide_eq_true h
theorem leN {i j : Nat} (h : decide (i ≤ j) = true) : i ≤ j := of_decide_eq_true h
theorem cdivI {i j : Int} (h1 : decide (0 < j) = true) (h2 : decide (j < 1073741824) = true) : CDiv i j := ⟨of_decide_eq_true h1, of_decide_eq_true h2⟩
theorem powI {i j : Int} (h1 : decide (0 ≤ j) = true) (h2 : decide (j ≤ 1000000) = true) (h3 : decide (i.natAbs < 2 ^ 64) = true) : CPow i j := ⟨of_decide_eq_true h1, of_decide_eq_true h2, of_decide_eq_true h3⟩
theorem mulL {i j : Int} (h1 : decide (-(2 ^ 64) < i) = true) (h2 : decide (i < 2 ^ 64) = true) : CMul i j := Or.inl ⟨of_decide_eq_true h1, of_decide_eq_true h2⟩
theorem mulR {i j : Int} (h1 : decide (-(2 ^ 64) < j) = true) (h2 : decide (j < 2 ^ 64) = true) : CMul i j := Or.inr ⟨of_decide_eq_true h1, of_decide_eq_true h2⟩
theorem mulM (x m y : Int) (h0 : decide (0 < m) = true) (h1 : decide (m < 4294967296) = true) : CMul (x % m) y := by
  have h0 := of_decide_eq_true h0
  have h1 := of_decide_eq_true h1
  exact Or.inl ⟨by have := Int.emod_nonneg x (show m ≠ 0 by omega); omega, by have := Int.emod_lt_of_pos x h0; omega⟩
theorem at3_0 (a b c : V) : atI [a, b, c] 0 = some a := rfl
theorem at3_1 (a b c : V) : atI [a, b, c] 1 = some b := rfl
theorem at3_2 (a b c : V) : atI [a, b, c] 2 = some c := rfl
theorem atI_in {α : Type} {xs : List α} {i : Int} (h0 : 0 ≤ i) (h1 : i < xs.length) : ∃ v, atI xs i = some v ∧ v ∈ xs := by
  have hi : i.toNat < xs.length := by omega
  have e : ((i.toNat : Nat) : Int) = i := by omega
  refine ⟨xs[i.toNat], ?_, List.getElem_mem hi⟩
  have q := atI_nat (xs := xs) (j := i.toNat) (v := xs[i.toNat]) (List.getElem?_eq_getElem hi)
  rw [e] at q
  exact q
theorem at3 {x y z : V} {d : Int} (h0 : 0 ≤ d) (h1 : d < 3) : ∃ v, atI [x, y, z] d = some v ∧ (v = x ∨ v = y ∨ v = z) := by
  obtain ⟨v, h, m⟩ := atI_in (xs := [x, y, z]) h0 h1
  exact ⟨v, h, by simpa using m⟩
theorem grw_get {a b : Addr} {H H' : Hp} {o : HO} (g : Grw a H H') (hb : b ≠ a) (h : H b = some o) : H' b = some o := by
  have q := g b o (by rw [hide_ne hb]; exact h)
  exact (hide_some q).2
theorem small_le {n : Nat} (h : n ≤ 1000000) : n ≤ sizeLine := Nat.le_trans h (by decide)
theorem small_lt {n : Nat} (h : n < 1000000) : n < sizeLine := Nat.lt_of_lt_of_le h (by decide)

/-! ### comprehensions over a range, over a list -/
theorem comp_range {lo : Int} {n k : Nat} {g : TG} {tt : TT} {te : TE} {σ : St} {H : Hp} {Q : VK} (Pv : Nat → List V → Hp → Prop) (h0 : Pv 0 [] H)
    (hs : ∀ i ys H (C : List V → Hp → Prop), i < n → Pv i ys H → (∀ ys' H', Pv (i + 1) ys' H' → C ys' H') → ys.length < sizeLine ∧ g (.int (lo + i)) (List.replicate k none ++ σ) H fun σ2 H2 => Wk σ2 (List.replicate k none ++ σ) ∧ tt σ2 H2 fun ok H3 =>
      if ok = true then te σ2 H3 fun y H4 => C (ys ++ [y]) H4 else C ys H3)
    (hd : ∀ ys H, Pv n ys H → ys.length ≤ sizeLine ∧ ∀ p, H p = none → Q (.ref p) (upd H p (.lst ys))) :
    CompR (Itr lo n) H k g tt te σ Q := by
  refine ⟨fun i m ys H => m = n - i ∧ i ≤ n ∧ Pv i ys H, ⟨n, by simp, Nat.zero_le _, h0⟩, ?_⟩
  rintro i m ys H ⟨rfl, hi, p⟩
  by_cases hlt : i < n
  · have q := hs i ys H (fun ys' H' => ∃ m', m' < n - i ∧ m' = n - (i + 1) ∧ i + 1 ≤ n ∧ Pv (i + 1) ys' H') hlt p fun ys' H' p' => ⟨_, by omega, rfl, hlt, p'⟩
    refine .inr ⟨hlt, q.1, fun x H' y => ?_⟩
    obtain ⟨e, y⟩ := y
    subst e y
    exact q.2
  · have e : i = n := by omega
    subst e
    exact .inl ⟨Nat.le_refl _, hd ys H p⟩
theorem comp_list {K : PySem.W.Frag} {a : Addr} {xs : List V} {k : Nat} {g : TG} {tt : TT} {te : TE} {σ : St} {H : Hp} {Q : VK} (Pv : Nat → List V → Hp → Prop) (h0 : Pv 0 [] H) (hl : ∀ i ys H, i ≤ xs.length → Pv i ys H → SqL K H a xs)
    (hs : ∀ i x ys H (C : List V → Hp → Prop), xs[i]? = some x → Pv i ys H → (∀ ys' H', Pv (i + 1) ys' H' → C ys' H') → ys.length < sizeLine ∧ g x (List.replicate k none ++ σ) H fun σ2 H2 => Wk σ2 (List.replicate k none ++ σ) ∧ tt σ2 H2 fun ok H3 =>
      if ok = true then te σ2 H3 fun y H4 => C (ys ++ [y]) H4 else C ys H3)
    (hd : ∀ ys H, Pv xs.length ys H → ys.length ≤ sizeLine ∧ ∀ p, H p = none → Q (.ref p) (upd H p (.lst ys))) :
    CompR (Itl K a) H k g tt te σ Q := by
  refine ⟨fun i m ys H => m = xs.length - i ∧ i ≤ xs.length ∧ Pv i ys H, ⟨xs.length, by simp, Nat.zero_le _, h0⟩, ?_⟩
  rintro i m ys H ⟨rfl, hi, p⟩
  have q := hl i ys H hi p
  by_cases hlt : i < xs.length
  · have r := hs i xs[i] ys H (fun ys' H' => ∃ m', m' < xs.length - i ∧ m' = xs.length - (i + 1) ∧ i + 1 ≤ xs.length ∧ Pv (i + 1) ys' H') (by simp [hlt]) p fun ys' H' p' => ⟨_, by omega, rfl, hlt, p'⟩
    refine .inr ⟨⟨xs, xs[i], q, by simp [hlt]⟩, r.1, fun x H' y => ?_⟩
    obtain ⟨e, y⟩ := y
    subst e
    have ex : xs[i]? = some x := y xs q
    have ex2 : xs[i] = x := by simpa [hlt] using ex
    rw [← ex2]
    exact r.2
  · have e : i = xs.length := by omega
    subst e
    exact .inl ⟨⟨xs, q, Nat.le_refl _⟩, hd ys H p⟩

/-! ### the words -/
def wordA : Str := "q abcdefgh aq qa abcdefgi ea zz eaq abd abc e bcdefgh za "
def wordB : Str := "qae acb ae abcdefg z qq aea az abcd xabcd eae abce eq"
def words : List Str := ["q", "abcdefgh", "aq", "qa", "abcdefgi", "ea", "zz", "eaq", "abd", "abc", "e", "bcdefgh", "za", "qae", "acb", "ae", "abcdefg", "z", "qq", "aea", "az", "abcd", "xabcd", "eae", "abce", "eq"]
theorem word_parts : Builtin.Str.partsBetween (wordA ++ wordB) (Builtin.Str.occurrences (wordA ++ wordB) " " 0 (wordA ++ wordB).length ((wordA ++ wordB).length + 1)) (" " : Str).length = words := by decide +kernel
theorem word_k : (decide ((wordA ++ wordB).length < (" " : Str).length) || decide (Builtin.Str.strKind (wordA ++ wordB) < Builtin.Str.strKind " ")) = false := by decide +kernel
theorem word_e : (((" " : Str).length == 0) = false) := by decide +kernel
theorem word_o : (Builtin.Str.occurrences (wordA ++ wordB) " " 0 (wordA ++ wordB).length ((wordA ++ wordB).length + 1)).isEmpty = false := by decide +kernel
theorem word_l : (wordA ++ wordB).length ≤ sizeLine := by decide +kernel
theorem word_ab : wordA.length + wordB.length ≤ sizeLine := by decide +kernel
/-! ### things -/
structure Th where
  day : Int
  word : Str
  num : Int
  many : Int
def Th.D (t : Th) : PyData := .tuple [.int t.day, .str t.word, .int t.num, .int t.many]
def Th.vs (t : Th) : List V := [.int t.day, .str t.word, .int t.num, .int t.many]
structure Th.Ok (t : Th) : Prop where
  day : 0 ≤ t.day
  word : t.word ∈ words
  num : 0 ≤ t.num
  many : 1 ≤ t.many
  numU : t.num < 1073741824
  manyU : t.many ≤ 1000000000
theorem Th.dv {H : Hp} {r : Addr} {t : Th} (h : H r = some (.tup t.vs)) : DV H (.ref r) t.D := .tup h (.cons (.int _) (.cons (.str _) (.cons (.int _) (.cons (.int _) .nil))))
end L2

namespace L2
open PySem PySem.Spec PyProof.Rows
/-! ### trees of streams -/
inductive Tr where
  | leaf (ts : List Th)
  | node (l r : Tr)
abbrev strD (ts : List Th) : PyData := .list (ts.map Th.D)
def Tr.D : Tr → PyData
  | .leaf ts => strD ts
  | .node l r => .tuple [.str "merged", l.D, r.D]
def Tr.streams : Tr → List (List Th)
  | .leaf ts => [ts]
  | .node l r => l.streams ++ r.streams
def Tr.size : Tr → Nat
  | .leaf _ => 1
  | .node l r => l.size + r.size + 1
def Tr.ht : Tr → Nat
  | .leaf _ => 0
  | .node l r => max l.ht r.ht + 1
def Tr.all : Tr → List Th
  | .leaf ts => ts
  | .node l r => l.all ++ r.all
def Tr.Ok : Tr → Prop
  | .leaf ts => ∀ t ∈ ts, t.Ok
  | .node l r => l.Ok ∧ r.Ok
theorem Tr.size_pos : ∀ t : Tr, 0 < t.size
  | .leaf _ => Nat.zero_lt_one
  | .node _ _ => Nat.succ_pos _
theorem Tr.all_eq : ∀ t : Tr, t.all = t.streams.flatten
  | .leaf ts => by simp [Tr.all, Tr.streams]
  | .node l r => by
    show l.all ++ r.all = (l.streams ++ r.streams).flatten
    rw [List.flatten_append, all_eq l, all_eq r]
theorem Tr.streams_ok : ∀ {t : Tr}, t.Ok → ∀ s ∈ t.streams, ∀ x ∈ s, x.Ok
  | .leaf ts, h, s, hs, x, hx => by
    have e : s = ts := by simpa [Tr.streams] using hs
    subst e
    exact h x hx
  | .node l r, h, s, hs, x, hx => by
    have hs : s ∈ l.streams ++ r.streams := hs
    rcases List.mem_append.mp hs with q | q
    · exact streams_ok h.1 s q x hx
    · exact streams_ok h.2 s q x hx
/-! ### their data are of a shape that is compared -/
/-! ### what a datum's value is -/
theorem DV.list_inv {H : Hp} {v : V} {ds : List PyData} (h : DV H v (.list ds)) : ∃ a xs, v = .ref a ∧ H a = some (.lst xs) ∧ DVs H xs ds := by
  cases h with
  | lst e r => exact ⟨_, _, rfl, e, r⟩
theorem DV.tup_inv {H : Hp} {v : V} {ds : List PyData} (h : DV H v (.tuple ds)) : ∃ a xs, v = .ref a ∧ H a = some (.tup xs) ∧ DVs H xs ds := by
  cases h with
  | tup e r => exact ⟨_, _, rfl, e, r⟩
theorem DVs.cons_inv {H : Hp} {vs : List V} {d : PyData} {ds : List PyData} (h : DVs H vs (d :: ds)) : ∃ x r, vs = x :: r ∧ DV H x d ∧ DVs H r ds := by
  cases h with
  | cons a b => exact ⟨_, _, rfl, a, b⟩
theorem DVs.nil_inv {H : Hp} {vs : List V} (h : DVs H vs []) : vs = [] := by
  cases h with
  | nil => rfl
theorem DV.node_inv {H : Hp} {v : V} {l r : Tr} (h : DV H v (Tr.node l r).D) : ∃ a m x y, v = .ref a ∧ H a = some (.tup [m, x, y]) ∧ DV H x l.D ∧ DV H y r.D := by
  obtain ⟨a, xs, rfl, e, q⟩ := DV.tup_inv h
  obtain ⟨m, r1, rfl, _, q1⟩ := q.cons_inv
  obtain ⟨x, r2, rfl, hx, q2⟩ := q1.cons_inv
  obtain ⟨y, r3, rfl, hy, q3⟩ := q2.cons_inv
  have := q3.nil_inv
  subst this
  exact ⟨a, m, x, y, rfl, e, hx, hy⟩
/-! ### two lists that are being made are left out -/
abbrev hide2 (a b : Addr) (H : Hp) : Hp := hide a (hide b H)
/-- what was not there may be changed -/
theorem same_fresh {H H' : Hp} {a : Addr} {o : HO} (g : Same H H') (h : H a = none) : Same H (upd H' a o) := fun b u q => by rw [upd_ne (ne_of_none q h)]; exact g b u q
end L2

namespace L2
open PySem PySem.Spec PyProof.Rows
theorem Has.of {P : Program} {w : World} {K : PySem.W.Frag} {mg : Str → Option Value} {base : Heap} {x : Str} {k : Nat} {ps : List Str} {sp : Sp} {f : Addr} {fd : FuncData} (F : FnOk P w K mg base CX0 k f fd ps sp) (b : Binds K fd ps []) (kp : PySem.W.keepIn K (.ref f) = true) (m : mg x = some (.ref f)) :
    Has P w K mg base x k ps sp := ⟨f, fd, F, b, kp, m⟩
theorem no_call {P : Program} {w : World} {K : PySem.W.Frag} {mg : Str → Option Value} {base : Heap} {k : Nat} {ps : List Str} {sp : Sp} {f : Addr} {fd : FuncData} (no : ∀ vs H Q E, ¬ sp vs H Q E) : FnOk P w K mg base CX0 k f fd ps sp :=
  ⟨fun vs H Q E h => absurd h (no vs H Q E), fun A outer s H args us vs Q E _ _ _ _ h => absurd h (no vs H Q E)⟩
/-- is the built-in type t under T? -/
def kitT (t T : String) : Option Bool := if (Value.type t == Value.type T) = true then some true else if PySem.W.kitMeta T = true then (PySem.fastBuiltinMro t).map (·.contains (.type T)) else none
theorem kit_t {K : PySem.W.Frag} {t T : String} {b : Bool} (h : kitT t T = some b) : PySem.W.kitOne K (.type t) (.type T) = some b := h
theorem kit_ll {K : PySem.W.Frag} : PySem.W.kitOne K (.type "list") (.type "list") = some true := kit_t (by decide +kernel)
theorem kit_tl {K : PySem.W.Frag} : PySem.W.kitOne K (.type "tuple") (.type "list") = some false := kit_t (by decide +kernel)
end L2

namespace L2
open PySem PySem.Spec PyProof.Rows
section
variable {X : Cx}
theorem ints_at {ns : List Int} {us : List Value} (r : Vals (ns.map V.int) us) {i : Nat} {u : Value} (h : us[i]? = some u) : ∃ t, u = .int (ns.getD i 0) t := IntsAre.int_at (intsAre_of r) i u h
/-- sum(xs) of a list of ints -/
theorem call_sum (hc : X.calm = true) : CallR X (.builtin "sum") (fun xs H Q => ∃ (p : Addr) (ns : List Int), xs = [.ref p] ∧ SqL X.K H p (ns.map V.int) ∧ Q (.int ns.sum) H) := by
  intro pins s σ H xs us Q I r h
  obtain ⟨p, ns, rfl, hq, q⟩ := h
  obtain ⟨u, rfl, ru⟩ := vals1 r
  cases ru
  obtain ⟨its, rv, pl, hz⟩ := I.list hq
  have hl := rv.length
  rw [List.length_map] at hl
  have hlt : p < s.heap.objs.size := by
    obtain ⟨o, n, e, _⟩ := pl
    exact Heap.lt_size e
  refine call_sum_walkG (wpAny_pyIter_list pl.isList ?_)
  have hh : X.A.in1.handled = none := by simpa using I.ok.hd hc
  refine ⟨s.heap.objs.size, _, _, _, _, _, fun i => ns.getD i 0, rfl, Walks.list hh _ p (Nat.ne_of_lt hlt) its.toArray, ⟨⟨_, Heap.get?_push_size _ rfl, rfl, rfl⟩, pl.isList.push _⟩, fun b hb => ?_, fun i v hv => ?_, fun h' tk t' kp => ?_⟩
  · rw [Heap.size_push]
    rcases List.mem_cons.mp hb with e | e
    · rw [e]; exact Nat.lt_succ_self _
    · rw [List.mem_singleton.mp e]; exact Nat.lt_succ_of_lt hlt
  · exact ints_at rv (by simpa using hv)
  · have e : preSum (fun i => ns.getD i 0) its.toArray.size = ns.sum := by
      rw [PyProof.Rows.preSum_getD, List.size_toArray, ← hl, List.take_length]
    rw [e]
    refine ⟨.int ns.sum, H, I.kept fun b o eb => kp b o ?_ (Heap.get?_push_of_some _ eb), ⟨_, rfl⟩, q⟩
    intro hb
    rw [List.mem_singleton.mp hb] at eb
    exact absurd (Heap.lt_size eb) (Nat.lt_irrefl _)
end

/-! ### set(xs) of a list of texts: how many unlike ones there are -/
def dd : List Str → List Str → List Str
  | acc, [] => acc
  | acc, z :: r => dd (if z ∈ acc then acc else acc ++ [z]) r
def inF (l : List Str) (k : Key) : Bool := l.any fun z => decide (k = (Sum.inr z : Key))
section
variable {prog : Program} {w : World} {A : Around} {R : Result → Shared → Prop} {I : Addr} {fp wr : List Addr} {n : Nat} {P : Nat → Value → Prop} {St : Nat → Heap → Prop}
end
end L2

namespace L2
open PySem PySem.Spec PyProof.Rows
section
variable {prog : Program} {w : World} {A : Around} {E : Value → Shared → Prop} {s : Shared}
abbrev bareSet (led : Bool) : Obj := { cls := .type "set", dict := none, data := .set #[] 0 (.fresh 0 0 led) }
end
/-- a set of texts that nothing changes -/
def txtSet (prog : Program) (w : World) (a : Addr) (n : Nat) : HO := .ext fun h => ∃ F, h.SetOf (mixKind prog w) a F n
section
variable {X : Cx}
end
end L2

namespace L2
open PySem PySem.Spec PyProof.Rows
/-- a thing's tuple -/
theorem DV.th_inv {H : Hp} {v : V} {t : Th} (h : DV H v t.D) : ∃ c, v = .ref c ∧ H c = some (.tup t.vs) := by
  obtain ⟨c, xs, rfl, e, q⟩ := DV.tup_inv h
  obtain ⟨_, _, rfl, k1, q⟩ := q.cons_inv
  obtain ⟨_, _, rfl, k2, q⟩ := q.cons_inv
  obtain ⟨_, _, rfl, k3, q⟩ := q.cons_inv
  obtain ⟨_, _, rfl, k4, q⟩ := q.cons_inv
  have := q.nil_inv
  subst this
  cases k1
  cases k2
  cases k3
  cases k4
  exact ⟨c, rfl, e⟩
theorem DVs.th_at {H : Hp} {xs : List V} {ts : List Th} {i : Nat} {x : V} (h : DVs H xs (ts.map Th.D)) (hx : xs[i]? = some x) : ∃ t c, ts[i]? = some t ∧ x = .ref c ∧ H c = some (.tup t.vs) ∧ t ∈ ts := by
  obtain ⟨d, hd, dv⟩ := DVs.getV h hx
  rw [List.getElem?_map] at hd
  obtain ⟨t, ht, rfl⟩ := Option.map_eq_some_iff.mp hd
  obtain ⟨c, rfl, e⟩ := DV.th_inv dv
  exact ⟨t, c, ht, rfl, e, List.mem_of_getElem? ht⟩
theorem take_one {α : Type} {l : List α} {i : Nat} {x : α} (h : l[i]? = some x) : l.take (i + 1) = l.take i ++ [x] := by rw [List.take_add_one, h]; rfl
/-- a comprehension over a stream whose elements are plain values -/
theorem comp_stream {K : PySem.W.Frag} {a : Addr} {xs : List V} {ts : List Th} {k : Nat} {g : TG} {tt : TT} {te : TE} {σ : St} {H : Hp} {Q : VK} (p : Th → Bool) (f : Th → V) (e : H a = some (.lst xs)) (dv : DVs H xs (ts.map Th.D)) (hl : ts.length ≤ 100000)
    (hs : ∀ (t : Th) (c : Addr) (ys : List V) (C : List V → Hp → Prop), t ∈ ts → H c = some (.tup t.vs) → (p t = true → C (ys ++ [f t]) H) → (p t = false → C ys H) → g (.ref c) (List.replicate k none ++ σ) H fun σ2 H2 => Wk σ2 (List.replicate k none ++ σ) ∧ tt σ2 H2 fun ok H3 =>
      if ok = true then te σ2 H3 fun y H4 => C (ys ++ [y]) H4 else C ys H3)
    (hd : ∀ q, H q = none → Q (.ref q) (upd H q (.lst ((ts.filter p).map f)))) :
    CompR (Itl K a) H k g tt te σ Q := by
  have dl := dv.length
  rw [List.length_map] at dl
  have le : ∀ i, (((ts.take i).filter p).map f).length ≤ 100000 := fun i => by
    rw [List.length_map]
    have h1 := List.length_filter_le p (ts.take i)
    rw [List.length_take] at h1
    omega
  refine comp_list (xs := xs) (fun i ys H' => H' = H ∧ ys = ((ts.take i).filter p).map f) ⟨rfl, rfl⟩ ?_ ?_ ?_
  · rintro i ys H' _ ⟨rfl, _⟩
    exact SqL.of e
  · rintro i x ys H' C hx ⟨rfl, rfl⟩ hC
    obtain ⟨t, c, ht, rfl, ec, hm⟩ := DVs.th_at dv hx
    refine ⟨small_lt (by have := le i; omega), hs t c _ C hm ec (fun hp => hC _ _ ⟨rfl, ?_⟩) (fun hp => hC _ _ ⟨rfl, ?_⟩)⟩
    · rw [take_one ht, List.filter_append, List.map_append, List.filter_cons, hp]
      rfl
    · rw [take_one ht, List.filter_append, List.filter_cons, hp]
      simp
  · rintro ys H' ⟨rfl, rfl⟩
    rw [dl, List.take_length]
    refine ⟨small_le (by have := le ts.length; rw [List.take_length] at this; omega), hd⟩
end L2

namespace L2
open PySem PySem.Spec PyProof.Rows
/-! ### a text, sign by sign -/
def Its (x : Str) : It := ⟨fun i _ => i < x.cps.size, fun i H v H' => H' = H ∧ ∃ c, x.cps[i]? = some c ∧ v = .str ⟨#[c]⟩, fun i _ => x.cps.size ≤ i⟩
def iStr (tl : TE) : TI := fun σ H R => tl σ H fun v H1 => ∃ x, v = .str x ∧ R (Its x) H1
section
variable {X : Cx} {tg : Expr}
/-! ### all(xs) of a list of bools -/
/-! ### "".join(xs) of a list of texts -/
def rJoin (K : PySem.W.Frag) : V → List V → Hp → VK → Prop := fun x vs H Q => ∃ (z : Str) (p : Addr) (ys : List Str), x = .str z ∧ vs = [.ref p] ∧ SqL K H p (ys.map V.str) ∧ (ys.map (·.length)).sum + ys.length * z.length ≤ 16777216 ∧ Q (.str (Txt.join z ys)) H
/-! ### two lists with the very same items -/
def okV : V → Bool
  | .flt _ => false
  | .byt _ => false
  | .ty _ => false
  | _ => true
end
end L2

namespace L2
open PySem PySem.Spec PyProof.Rows
/-! ### != of two lists with the very same items -/
section
variable {X : Cx}
def rNeSame (K : PySem.W.Frag) : R2 := fun x y H Q => ∃ a b xs, x = .ref a ∧ y = .ref b ∧ SqL K H a xs ∧ SqL K H b xs ∧ xs.all okV = true ∧ Q (.bl false) H
end
section
variable {prog : Program} {w : World} {A : Around} {E : Value → Shared → Prop} {s : Shared}
end
section
variable {X : Cx} {o e : Expr} {to te : TE} {lo hi : Option Expr} {tl th : TO} {pos p2 : Pos}
/-- o[lo:hi] = a list -/
def gSlc (to : TE) (tl th : TO) : TG := fun v σ H Q => to σ H fun ov H1 => tl σ H1 fun l H2 => th σ H2 fun u H3 => ∃ (p b : Addr) (xs ys : List V) (a c : Nat), ov = .ref p ∧ v = .ref b ∧ l = some (a : Int) ∧ u = some (c : Int) ∧ H3 p = some (.lst xs) ∧ H3 b = some (.lst ys) ∧ p ≠ b ∧ a ≤ c ∧ a ≤ xs.length ∧
  xs.length + ys.length ≤ sizeLine ∧ Q σ (upd H3 p (.lst (xs.take a ++ ys ++ xs.drop (min c xs.length))))
end

/-! ### a tuple times an int -/
section
open PySem.AutoSeq1 (wpAny_loadPart')
open PySem.MeetsSeq PySem.MeetsSeq2 PySem.MeetsSeq3
end
section
variable {X : Cx}
/-- t * 4, t not empty -/
def rRepT (K : PySem.W.Frag) : R2 := fun x y H Q => ∃ (a : Addr) (xs : List V), x = .ref a ∧ y = .int 4 ∧ SqT K H a xs ∧ xs ≠ [] ∧ xs.length ≤ 10 ∧ ∀ p, H p = none → Q (.ref p) (upd H p (.tup (xs ++ xs ++ xs ++ xs)))
end
end L2

namespace L2
open PySem PySem.Spec PyProof.Rows
/-! ### what is laid anew -/
theorem laid_same {H H1 : Hp} {p : Addr} {o : HO} (h : upd H p o = H1) (n : H p = none) : Same H H1 := h ▸ same_laid n o
theorem laid_at {H H1 : Hp} {p : Addr} {o : HO} (h : upd H p o = H1) : H1 p = some o := h ▸ upd_same
theorem laid_pen {H H1 : Hp} {p a : Addr} {o : HO} (h : upd H p o = H1) (n : H p = none) (hp : PenAt H a) : PenAt H1 a ∧ Grw a H H1 ∧ p ≠ a ∧ hide a H1 p = some o := by
  subst h
  exact ⟨hp.laid n, grw_laid n, hp.ne n, by rw [hide_ne (hp.ne n)]; exact upd_same⟩
theorem PenAt.grw {H H' : Hp} {a : Addr} (h : PenAt H a) (g : Same H H') : Grw a H H' := by
  obtain ⟨p, q, r, e⟩ := h
  exact grw_same e g
/-! ### what kind a value is -/
inductive Kd (H : Hp) : V → String → Prop
  | non : Kd H .non "NoneType"
  | bl (b : Bool) : Kd H (.bl b) "bool"
  | int (i : Int) : Kd H (.int i) "int"
  | str (z : Str) : Kd H (.str z) "str"
  | lst {a : Addr} {xs : List V} (e : H a = some (.lst xs)) : Kd H (.ref a) "list"
  | tup {a : Addr} {xs : List V} (e : H a = some (.tup xs)) : Kd H (.ref a) "tuple"
  | dK {a : Addr} {kvs : List (Key × V)} (e : H a = some (.dK kvs)) : Kd H (.ref a) "dict"
theorem Kd.mono {H H' : Hp} (g : Same H H') {x : V} {T : String} (h : Kd H x T) : Kd H' x T := by
  cases h with
  | non => exact .non
  | bl b => exact .bl b
  | int i => exact .int i
  | str z => exact .str z
  | lst e => exact .lst (g _ _ e)
  | tup e => exact .tup (g _ _ e)
  | dK e => exact .dK (g _ _ e)
theorem Kd.ty {K : PySem.W.Frag} {H : Hp} {x : V} {T : String} (h : Kd H x T) : TyOf K H x (.type T) := by
  cases h with
  | non => exact .non
  | bl b => exact .bl b
  | int i => exact .int i
  | str z => exact .str z
  | lst e => exact .lst e
  | tup e => exact .tup e
  | dK e => exact .dK e
theorem Kd.okV {H : Hp} {x : V} {T : String} (h : Kd H x T) : okV x = true := by cases h <;> rfl
def kds : List String := ["NoneType", "bool", "int", "str", "list", "tuple", "dict"]
def kus : List String := ["int", "bool", "str", "list", "tuple"]
def isKd (T U : String) : Bool := (T == U) || (T == "bool" && U == "int")
theorem Kd.mem {H : Hp} {x : V} {T : String} (h : Kd H x T) : T ∈ kds := by cases h <;> decide
def whV : V → Bool
  | .int _ => true
  | _ => false
def wF : V → Int → Bool
  | .int i, l => decide (l ≤ i)
  | _, _ => false
theorem Kd.wh {H : Hp} {x : V} {T : String} (h : Kd H x T) : (isKd T "int" && !isKd T "bool") = whV x := by
  cases h <;> (first | rfl | (simp [isKd, whV]))
/-! ### a module's constant -/
theorem pe_globE {X : Cx} {x : Str} {v : V} {pos : Pos} (hg : Gl X x) (h : ∃ u, X.mg x = some u ∧ RelV v u) (hd : (x == ("__debug__" : Str)) = false := by decide) : PE X (.Name x pos) (tC v) := by
  obtain ⟨u, hm, r⟩ := h
  exact pe_glob hg hm r hd
/-! ### marks -/
def letters : Str := "abcdefghijklmnopqrstuvwxyz"
def sgB (c : Nat) : Bool := !(Builtin.Str.occurrences letters ⟨#[c]⟩ 0 letters.length 1).isEmpty
def mkS (z : Str) : Bool := decide (1 ≤ z.length) && decide (z.length ≤ 8) && z.cps.toList.all sgB
def mkB : V → Bool
  | .str z => mkS z
  | _ => false
/-! ### things and streams, of whatever kind -/
inductive ThB (H : Hp) : V → Bool → Prop
  | no {x : V} {T : String} (h : Kd H x T) (e : isKd T "tuple" = false) : ThB H x false
  | len {a : Addr} {xs : List V} (h : H a = some (.tup xs)) (e : xs.length ≠ 4) : ThB H (.ref a) false
  | four {a : Addr} {d m n k : V} {T1 T2 T3 T4 : String} {b : Bool} (h : H a = some (.tup [d, m, n, k])) (h1 : Kd H d T1) (h2 : Kd H m T2) (h3 : Kd H n T3) (h4 : Kd H k T4) (hm : ∀ z, m = .str z → z.length ≤ 1000)
      (e : (wF d 0 && (mkB m && (wF n 0 && wF k 1))) = b) : ThB H (.ref a) b
theorem ThB.mono {H H' : Hp} (g : Same H H') {x : V} {b : Bool} (h : ThB H x b) : ThB H' x b := by
  cases h with
  | no h e => exact .no (h.mono g) e
  | len h e => exact .len (g _ _ h) e
  | four h h1 h2 h3 h4 hm e => exact .four (g _ _ h) (h1.mono g) (h2.mono g) (h3.mono g) (h4.mono g) hm e
theorem ThB.okV {H : Hp} {x : V} {b : Bool} (h : ThB H x b) : okV x = true := by
  cases h with
  | no h e => exact h.okV
  | len h e => rfl
  | four h => rfl
inductive ThBs (H : Hp) : List V → List Bool → Prop
  | nil : ThBs H [] []
  | cons {x : V} {xs : List V} {b : Bool} {bs : List Bool} : ThB H x b → ThBs H xs bs → ThBs H (x :: xs) (b :: bs)
theorem ThBs.mono {H H' : Hp} (g : Same H H') : ∀ {xs : List V} {bs : List Bool}, ThBs H xs bs → ThBs H' xs bs
  | _, _, .nil => .nil
  | _, _, .cons h r => .cons (h.mono g) (r.mono g)
theorem ThBs.length {H : Hp} : ∀ {xs : List V} {bs : List Bool}, ThBs H xs bs → xs.length = bs.length
  | _, _, .nil => rfl
  | _, _, .cons _ r => congrArg (· + 1) r.length
theorem ThBs.append {H : Hp} : ∀ {xs ys : List V} {bs cs : List Bool}, ThBs H xs bs → ThBs H ys cs → ThBs H (xs ++ ys) (bs ++ cs)
  | _, _, _, _, .nil, s => s
  | _, _, _, _, .cons h r, s => .cons h (r.append s)
theorem ThBs.take {H : Hp} : ∀ {xs : List V} {bs : List Bool} (n : Nat), ThBs H xs bs → ThBs H (xs.take n) (bs.take n)
  | _, _, 0, _ => .nil
  | _, _, _ + 1, .nil => .nil
  | _, _, n + 1, .cons h r => .cons h (r.take n)
theorem ThBs.drop {H : Hp} : ∀ {xs : List V} {bs : List Bool} (n : Nat), ThBs H xs bs → ThBs H (xs.drop n) (bs.drop n)
  | _, _, 0, r => r
  | _, _, _ + 1, .nil => .nil
  | _, _, n + 1, .cons _ r => r.drop n
theorem ThBs.get {H : Hp} : ∀ {xs : List V} {bs : List Bool} {i : Nat} {x : V}, ThBs H xs bs → xs[i]? = some x → ∃ b, bs[i]? = some b ∧ ThB H x b
  | _, _, _, _, .nil, e => by simp at e
  | _, _, 0, _, .cons h _, e => by simp at e; subst e; exact ⟨_, rfl, h⟩
  | _, _, i + 1, x, .cons _ r, e => by
    obtain ⟨b, h1, h2⟩ := ThBs.get (i := i) (x := x) r (by simpa using e)
    exact ⟨b, by simpa using h1, h2⟩
theorem ThBs.okV {H : Hp} : ∀ {xs : List V} {bs : List Bool}, ThBs H xs bs → xs.all L2.okV = true
  | _, _, .nil => rfl
  | _, _, .cons h r => by rw [List.all_cons, h.okV, r.okV]; rfl
inductive StB (H : Hp) : V → Bool → Prop
  | no {x : V} {T : String} (h : Kd H x T) (e : isKd T "list" = false) : StB H x false
  | lst {a : Addr} {xs : List V} {bs : List Bool} {b : Bool} (h : H a = some (.lst xs)) (t : ThBs H xs bs) (l : xs.length ≤ 1000) (e : bs.all id = b) : StB H (.ref a) b
theorem StB.mono {H H' : Hp} (g : Same H H') {x : V} {b : Bool} (h : StB H x b) : StB H' x b := by
  cases h with
  | no h e => exact .no (h.mono g) e
  | lst h t l e => exact .lst (g _ _ h) (t.mono g) l e
theorem pick {H : Hp} {p : Addr} {xs : List V} {d : Int} (e : H p = some (.lst xs)) (h0 : 0 ≤ d) (h1 : d < xs.length) : ∃ v, atI xs d = some v ∧ v ∈ xs := atI_in h0 h1
theorem hSqL {K : PySem.W.Frag} {H : Hp} {a c : Addr} {xs : List V} (h : hide a H c = some (.lst xs)) : SqL K H c xs := SqL.of (hide_some h).2
end L2

namespace L2
open PySem PySem.Spec PyProof.Rows
/-! ### a built-in function called with keywords -/
def CallKR (X : Cx) (f : Value) (ks : List Str) (r : List V → List V → Hp → VK → Prop) : Prop :=
  ∀ (pins : List (Addr × Obj)) (s : Shared) (σ : St) (H : Hp) (xs zs : List V) (us ws : List Value) (Q : VK), Inv X pins σ H s → Vals xs us → Vals zs ws → r xs zs H Q →
    wpAny (model X.prog X.w) X.A (call f us (ks.zip ws)) (EP X pins σ Q) X.xe s
def tCBK (r : List V → List V → Hp → VK → Prop) (t tk : TA) : TE := fun σ H Q => t σ H fun vs H1 => tk σ H1 fun zs H2 => r vs zs H2 Q
section
variable {X : Cx} {x : Str} {p pos : Pos} {e : Expr} {es : List Expr} {kws : List Keyword} {ks : List Str} {t tk : TA} {id : String} {r : List V → List V → Hp → VK → Prop}
theorem pe_callBK (hc : CallKR X (.builtin id) ks r) (hg : Gl X x) (hm : X.mg x = none) (hv : bootBuiltins x = some (.builtin id)) (ha : PA X (e :: es) t) (hk : PK X kws tk) (hks : (backToKw pos (keywordEach kws X.env)).filterMap (·.1) = ks := by rfl)
    (hn : x ≠ "__name__" := by decide) (hdb : (x == ("__debug__" : Str)) = false := by decide) (he : backTo pos (starEach (e :: es) X.env) = (false, eval e X.env) :: backTo pos (starEach es X.env) := by rfl)
    (hpl : (backTo pos (starEach (e :: es) X.env)).any (·.1) = false := by rfl) (hall : (backToKw pos (keywordEach kws X.env)).all (·.1.isSome) = true := by rfl) (hkn : (backToKw pos (keywordEach kws X.env)).any (·.1.isNone) = false := by rfl) :
    PE X (.Call (.Name x p) (e :: es) kws pos) (tCBK r t tk) := by
  intro pins s σ H Q I h
  refine wpAny_Call_Name_kw (ld_blt I hg hm hv ?_ hn hdb)
  refine callWith_kw (thn (ha pos pins s σ H _ I h) fun us s1 ⟨vs, H1, I1, r1, q1⟩ => thn (hk pos pins s1 σ H1 _ I1 q1) fun ws s2 ⟨zs, H2, I2, r2, q2⟩ => ?_) he hpl hall hkn
  rw [hks]
  exact hc pins s2 σ H2 vs zs us ws Q I2 r1 r2 q2
end
/-! ### what an iterable gives, collected -/
section
variable {prog : Program} {w : World} {A : Around} {E : Value → Shared → Prop} {s : Shared} {T : String} {r d : Addr} {n : Nat} {P : Nat → Value → Prop} {OK : Heap → Prop}
/-- how the collecting ends -/
def ColEnd (s : Shared) (P : Nat → Value → Prop) (n : Nat) (q : Result) (s' : Shared) : Prop :=
  ∃ (g : Heap) (tk c : Nat) (xs : Array Value), q = .ok (.ret (.ref s.heap.objs.size)) ∧ s' = { s with heap := g, toks := tk } ∧ (∀ b o, s.heap.get? b = some o → g.get? b = some o) ∧ g.get? s.heap.objs.size = some { cls := .type "list", dict := none, data := .seq xs c, slots := #[] } ∧ ItemsOf P xs n
theorem collect_src {R : List Value → Shared → Prop} (K : PySem.W.KdlSrc prog w T r d n P OK) (hh : A.handled = none) (hok : OK s.heap) (hn : n ≤ sizeLine)
    (h : ∀ (g : Heap) (tk : Nat) (xs : Array Value), (∀ b o, s.heap.get? b = some o → g.get? b = some o) → s.heap.objs.size < g.objs.size → ItemsOf P xs n → R xs.toList { s with heap := g, toks := tk }) : wpAny (model prog w) A (collect (.ref r)) R E s := by
  obtain ⟨lt1, lt2⟩ := K.there _ hok
  unfold collect
  refine wpAny_bind (wpAny_runValue (codeAny_builtin entry_proto_collect' ?_)); rw [Around.under_plainId PySem.F.plain_proto_collect _]
  refine wpAny_bind (m := newList []) (wpAny_newObj_type (wpAny_pure ⟨plainId_quiet PySem.F.plain_list_iadd _, codeAny_builtin entry_list_iadd' ?_⟩)); rw [Around.under_plainId PySem.F.plain_list_iadd _]
  have own : (s.heap.push { cls := .type "list", data := .seq ([] : List Value).toArray }).get? s.heap.objs.size = some { cls := .type "list", data := .seq #[] } := Heap.get?_push_size _ rfl
  have run := PySem.W.kdl_extend (A := A) (s := { s with heap := s.heap.push { cls := .type "list", data := .seq ([] : List Value).toArray } }) (R := ColEnd s P n) K hh (K.keep _ _ hok fun _ _ _ e => Heap.get?_push_of_some _ e) s.heap.objs.size (Nat.ne_of_gt lt1) (Nat.ne_of_gt lt2) (.ref s.heap.objs.size) 0 own
    (fun g tk xs c hk hS hx => ⟨g, tk, c, xs, rfl, rfl, fun b o e => hk b o (Nat.ne_of_lt (Heap.lt_size e)) (Heap.get?_push_of_some _ e), hS, hx⟩) hn
  refine wpAny_mono run (fun fin s' y => ?_) (fun _ _ y => by obtain ⟨_, _, _, _, e, _⟩ := y; cases e)
  cases fin with
  | done f =>
    obtain ⟨g, tk, c, xs, e, rfl, hk, hS, hx⟩ := y
    cases e
    exact wpAny_bind (m := load s.heap.objs.size) (wpAny_load hS (wpAny_pure (h g tk xs hk (Heap.lt_size hS) hx)))
  | again c1 =>
    refine ⟨y.1, codeAny_mono y.2 fun q s2 z => ?_⟩
    obtain ⟨g, tk, c, xs, rfl, rfl, hk, hS, hx⟩ := z
    exact wpAny_bind (m := load s.heap.objs.size) (wpAny_load hS (wpAny_pure (h g tk xs hk (Heap.lt_size hS) hx)))
end
/-! ### d.values(), d.items(): views -/
def vView (a d : Addr) : HO := .ext fun h => h.IsValuesView a d
def iView (a d : Addr) : HO := .ext fun h => h.IsItemsView a d
section
variable {X : Cx} {pins : List (Addr × Obj)} {σ : St} {H : Hp} {s : Shared}
theorem tyV_dict {K : PySem.W.Frag} {d : Addr} {kvs : List (Key × V)} (h : H d = some (.dK kvs)) : tyV K "dict" (.ref d) H := .inr (.inr (.inl ⟨rfl, .inl ⟨kvs, h⟩⟩))
def rView (w : Addr → Addr → HO) : V → List V → Hp → VK → Prop := fun x vs H Q => ∃ d kvs, x = .ref d ∧ vs = [] ∧ H d = some (.dK kvs) ∧ ∀ a, H a = none → Q (.ref a) (upd H a (w a d))
theorem mt_values : MtR X "dict.values" (rView vView) := by
  intro pins s σ H x vs v us Q I rx rv h
  obtain ⟨d, kvs, rfl, rfl, hd, q⟩ := h
  cases rx
  cases rv
  obtain ⟨_, lo, ws, _, hD⟩ := dk_of I.hok hd
  refine call_meetsIn PySem.F.slot_dict_values hD.typeIs PySem.F.entry_dict_values (PySem.F.args_dict_values_1 _) (meets_dict_values (mixKind X.prog X.w) d lo) ⟨⟨ws, hD⟩, ?_⟩
  refine ⟨.ref s.heap.objs.size, _, I.laid (t' := s.toks) (o := vView s.heap.objs.size d) (fun b o e => Heap.get?_push_of_some _ e) (Nat.le_refl _) ?_, rfl, q _ (I.hok.fresh (Nat.le_refl _))⟩
  exact ⟨⟨_, Heap.get?_push_size _ rfl, rfl, rfl⟩, ⟨_, Heap.get?_push_size _ rfl⟩, fun h1 h2 ⟨o, ho, r⟩ k => ⟨o, k o ho, r⟩⟩
theorem vals_of_kv : ∀ {kvs : List (Key × V)} {ws : List (Key × Value)}, KV kvs ws → Vals (kvs.map (·.2)) (ws.map (·.2))
  | _, _, .nil => .nil
  | _, _, .cons a r => .cons a.2 (vals_of_kv r)
/-! ### sorted(d.values(), reverse=True), whole numbers -/
def rSortRV : List V → List V → Hp → VK → Prop := fun xs zs H Q => ∃ (v d : Addr) (kvs : List (Key × V)) (ns : List Int), xs = [.ref v] ∧ zs = [.bl true] ∧ H v = some (vView v d) ∧ H d = some (.dK kvs) ∧ kvs.map (·.2) = ns.map V.int ∧ ns.length < 64 ∧
  ∀ (p : Addr) (ms : List Int), H p = none → ms.Perm ns → ms.Pairwise (· ≥ ·) → Q (.ref p) (upd H p (.lst (ms.map V.int)))
theorem call_sortRV (hc : X.calm = true) : CallKR X (.builtin "sorted") [Str.ofString "reverse"] rSortRV := by
  intro pins s σ H xs zs us ws Q I rx rz h
  obtain ⟨v, d, kvs, ns, rfl, rfl, hv, hd, hns, h64, q⟩ := h
  obtain ⟨u, rfl, ru⟩ := vals1 rx
  cases ru
  obtain ⟨u, rfl, ru⟩ := vals1 rz
  cases ru
  obtain ⟨_, lo, es, kv, hD⟩ := dk_of I.hok hd
  obtain ⟨view, _⟩ := (show ObjOk X.prog X.w H s.heap v (vView v d) from I.hok v _ hv)
  obtain ⟨ep, hat⟩ := hD.dictAt
  have hI : IntsAre (es.map (·.2)) ns := intsAre_of (by rw [← hns]; exact vals_of_kv kv)
  have hl : es.length = ns.length := by
    have e1 := hI.length
    rw [List.length_map] at e1
    exact e1
  have hh : X.A.in1.handled = none := by simpa using I.ok.hd hc
  show wpAny _ _ (call (.builtin "sorted") [.ref v] [(Str.ofString "reverse", .bool true)]) _ _ _
  refine call_function_entry_kw kind_sorted plain_sorted entry_sorted (args_sorted_rev _ _) ?_
  unfold Builtin.«sorted»
  refine wpAny_bind (m := checkCount "sorted" 1 1 _) (wpAny_pure ?_)
  refine wpAny_bind (collect_src (A := X.A.in1) (PySem.W.kdl_values (knd := mixKind X.prog X.w) (r := v) (kvs := es) (ep := ep)) hh ⟨view, hat⟩ (small_le (by omega)) fun h' tk acc hk hsz hacc => ?_)
  have ea : acc.toList = es.map (·.2) := PySem.W.kdl_vals_eq acc.toList (by rw [Array.length_toList]; exact hacc.1) fun j u e => hacc.2 j u (by rw [← Array.getElem?_toList]; exact e)
  rw [ea]
  have hlen : (es.map (·.2)).length < 64 := by rw [List.length_map]; omega
  refine wpAny_bind (wpAny_newList ?_ (by exact small_le (by omega)))
  have hoL : (h'.push (seqObj "list" (es.map (·.2)).toArray 0)).get? h'.objs.size = some (seqObj "list" (es.map (·.2)).toArray 0) := Heap.get?_push_size _ rfl
  refine wpAny_bind (wpAny_holding (wpAny_call_entry_kw slot_list_sort ⟨_, hoL, rfl⟩ entry_list_sort (list_sort_tree_rev hoL hI hlen fun out ns' a1 a2 a3 => ⟨_, rfl, ?_⟩) (args_list_sort_rev _ _)))
  refine wpAny_pure ⟨_, rfl, ?_⟩
  obtain ⟨e2, he2⟩ := sortedHeap_at (vs := es.map (·.2)) (out := out) hoL
  have hz : s.heap.objs.size ≤ h'.objs.size := Nat.le_of_lt hsz
  refine ⟨.ref h'.objs.size, _, I.laid (t' := tk) (o := .lst (ns'.map V.int)) (fun b o e => ?_) hz ?_, rfl, q _ ns' (I.hok.fresh hz) a2 a3⟩
  · have e' := hk b o e
    have hlt := Heap.lt_size e'
    rw [sortedHeap_old (Nat.ne_of_lt hlt) (by rw [size_push']; exact Nat.lt_succ_of_lt hlt)]
    exact Heap.get?_push_of_some _ e'
  · refine ⟨?_, out.toList, e2, vals_ints a1, by simpa using he2⟩
    rw [List.length_map, a2.length_eq]
    exact small_le (by omega)
/-! ### list(d.items()) -/
/-- pairs laid anew at as, in order -/
inductive PairsAt (H : Hp) : List V → List (Key × V) → Prop
  | nil : PairsAt H [] []
  | cons {a : Addr} {xs : List V} {k : Key} {v : V} {kvs : List (Key × V)} (h : H a = some (.tup [kV k, v])) (r : PairsAt H xs kvs) : PairsAt H (.ref a :: xs) ((k, v) :: kvs)
theorem PairsAt.mono {H H' : Hp} (g : Same H H') : ∀ {xs : List V} {kvs : List (Key × V)}, PairsAt H xs kvs → PairsAt H' xs kvs
  | _, _, .nil => .nil
  | _, _, .cons h r => .cons (g _ _ h) (r.mono g)
theorem PairsAt.length {H : Hp} : ∀ {xs : List V} {kvs : List (Key × V)}, PairsAt H xs kvs → xs.length = kvs.length
  | _, _, .nil => rfl
  | _, _, .cons _ r => congrArg (· + 1) r.length
theorem PairsAt.append {H : Hp} : ∀ {xs ys : List V} {ks ls : List (Key × V)}, PairsAt H xs ks → PairsAt H ys ls → PairsAt H (xs ++ ys) (ks ++ ls)
  | _, _, _, _, .nil, s => s
  | _, _, _, _, .cons h r, s => .cons h (r.append s)
theorem PairsAt.reverse {H : Hp} : ∀ {xs : List V} {ks : List (Key × V)}, PairsAt H xs ks → PairsAt H xs.reverse ks.reverse
  | _, _, .nil => .nil
  | _, _, .cons h r => by rw [List.reverse_cons, List.reverse_cons]; exact r.reverse.append (.cons h .nil)
theorem kV_rel {P : Program} {w : World} {k : Key} {u : Value} (h : (mixKind P w).is k u = true) : RelV (kV k) u := by
  rcases keyIs_shape (show keyIs k u = true from h) with ⟨i, t, rfl, rfl⟩ | ⟨x, t, rfl, rfl⟩
  · exact ⟨t, rfl⟩
  · exact ⟨t, rfl⟩
/-- an abstract heap with new things from n on -/
def over (H : Hp) (n : Nat) (L : Hp) : Hp := fun b => if b < n then H b else L b
theorem over_old {H L : Hp} {n : Nat} {b : Addr} (h : b < n) : over H n L b = H b := if_pos h
theorem over_new {H L : Hp} {n : Nat} {b : Addr} (h : n ≤ b) : over H n L b = L b := if_neg (Nat.not_lt.mpr h)
theorem Inv.over {L : Hp} {g : Heap} {t' : Nat} (I : Inv X pins σ H s) (k : ∀ b u, s.heap.get? b = some u → g.get? b = some u) (new : ∀ b o, s.heap.objs.size ≤ b → L b = some o → ObjOk X.prog X.w (over H s.heap.objs.size L) g b o) :
    Inv X pins σ (L2.over H s.heap.objs.size L) { s with heap := g, toks := t' } ∧ Same H (L2.over H s.heap.objs.size L) := by
  have old : ∀ b o, H b = some o → L2.over H s.heap.objs.size L b = some o := fun b o e => by rw [over_old (I.hok b o e).lt]; exact e
  have fre : ∀ b u, s.heap.get? b = some u → H b = none → L2.over H s.heap.objs.size L b = none := fun b u e n => by rw [over_old (Heap.lt_size e)]; exact n
  refine ⟨I.un ⟨fun b u e _ _ _ => k b u e, fun b u e _ _ _ => ⟨u.slots, k b u e⟩, fun b u e n _ => fre b u e n, fun b u e _ => ⟨u, k b u e⟩, fun b xs e => old b _ e, fun b o u e => old b _ e, fun b ps e => ⟨#[], by rw [old b _ e]; simp⟩⟩ ?_, old⟩
  intro b o e
  by_cases hb : b < s.heap.objs.size
  · rw [over_old hb] at e
    exact (I.hok b o e).stay (fun c u _ q => k c u q) (fun c q => old c _ q) fun c xs q => old c _ q
  · have hb := Nat.not_lt.mp hb
    rw [over_new hb] at e
    exact new b o hb e
theorem PairsAt.of {H : Hp} : ∀ {as : List Addr} {kvs : List (Key × V)}, as.length = kvs.length → (∀ (j : Nat) (a : Addr) (p : Key × V), as[j]? = some a → kvs[j]? = some p → H a = some (.tup [kV p.1, p.2])) → PairsAt H (as.map V.ref) kvs
  | [], [], _, _ => .nil
  | [], _ :: _, e, _ => by simp at e
  | _ :: _, [], e, _ => by simp at e
  | a :: as, (k, v) :: kvs, e, h => .cons (h 0 a (k, v) rfl rfl) (PairsAt.of (by simpa using e) fun j b p h1 h2 => h (j + 1) b p (by simpa using h1) (by simpa using h2))
theorem KV.get : ∀ {kvs : List (Key × V)} {ws : List (Key × Value)} {j : Nat} {p : Key × V} {q : Key × Value}, KV kvs ws → kvs[j]? = some p → ws[j]? = some q → p.1 = q.1 ∧ RelV p.2 q.2
  | _, _, _, _, _, .nil, e, _ => by simp at e
  | _, _, 0, _, _, .cons h _, e1, e2 => by
    simp at e1 e2
    subst e1 e2
    exact h
  | _, _, j + 1, _, _, .cons _ r, e1, e2 => KV.get (j := j) r (by simpa using e1) (by simpa using e2)
def rListI : List V → Hp → VK → Prop := fun xs H Q => ∃ (v d : Addr) (kvs : List (Key × V)), xs = [.ref v] ∧ H v = some (iView v d) ∧ H d = some (.dK kvs) ∧ kvs.length ≤ 1000 ∧ ∀ (H' : Hp) (p : Addr) (ys : List V), Same H H' → H p = none → H' p = some (.lst ys) → PairsAt H' ys kvs → Q (.ref p) H'
/-! ### xs[::-1] -/
def tRev (K : PySem.W.Frag) (te ts : TE) : TE := fun σ H Q => te σ H fun x H1 => ts σ H1 fun y H2 => ∃ (a : Addr) (xs : List V), x = .ref a ∧ y = .int (-1) ∧ SqL K H2 a xs ∧ ∀ p, H2 p = none → Q (.ref p) (upd H2 p (.lst xs.reverse))
/-! ### a dict while it is walked -/
def tFrz (t : TE) : TE := fun σ H Q => ∃ (d : Addr) (kvs : List (Key × V)), H d = some (.dK kvs) ∧ ∀ o, t σ (upd H d (.frz o (.dK kvs))) fun v H2 => H2 d = some (.frz o (.dK kvs)) ∧ Q v (upd H2 d (.dK kvs))
def frzE (D : Ends) (d : Addr) (kvs : List (Key × V)) (o : Obj) : Ends where
  nx := fun σ2 H2 => H2 d = some (.frz o (.dK kvs)) ∧ D.nx σ2 (upd H2 d (.dK kvs))
  rt := fun v H2 => H2 d = some (.frz o (.dK kvs)) ∧ D.rt v (upd H2 d (.dK kvs))
  bk := fun σ2 H2 => H2 d = some (.frz o (.dK kvs)) ∧ D.bk σ2 (upd H2 d (.dK kvs))
  ct := fun σ2 H2 => H2 d = some (.frz o (.dK kvs)) ∧ D.ct σ2 (upd H2 d (.dK kvs))
def sFrz (t : TS) : TS := fun D σ H => ∃ (d : Addr) (kvs : List (Key × V)), H d = some (.dK kvs) ∧ ∀ o, t (frzE D d kvs o) σ (upd H d (.frz o (.dK kvs)))
def Itd (d : Addr) (kvs : List (Key × V)) (o : Obj) : It := ⟨fun i H => i < kvs.length ∧ H d = some (.frz o (.dK kvs)), fun i H x H' => H' = H ∧ ∃ p, kvs[i]? = some p ∧ x = kV p.1, fun i H => kvs.length ≤ i ∧ H d = some (.frz o (.dK kvs))⟩
def iDict (tl : TE) : TI := fun σ H R => tl σ H fun x H1 => ∃ (d : Addr) (o : Obj) (kvs : List (Key × V)), x = .ref d ∧ H1 d = some (.frz o (.dK kvs)) ∧ R (Itd d kvs o) H1
/-! ### xs.count(n), whole numbers -/
def rCount (K : PySem.W.Frag) : V → List V → Hp → VK → Prop := fun x vs H Q => ∃ (p : Addr) (ns : List Int) (n : Int), x = .ref p ∧ vs = [.int n] ∧ SqL K H p (ns.map V.int) ∧ Q (.int (ns.count n : Nat)) H
/-! ### dict(d) -/
end
end L2

namespace L2
open PySem PySem.Spec PyProof.Rows
/-! ### dict(xs), xs a list of pairs -/
theorem no_keys_tuple : typeLookup (.type "tuple") "keys" = pure none := am_miss_of_fast (by decide +kernel)
theorem entry_dloop : entryFor table "dict.update.loop" = some Builtin.«dict.update.loop» := entryFor_of_tree (by kernel_rfl)
theorem plain_dloop : plainId "dict.update.loop" = true := by decide +kernel
section
variable {prog : Program} {w : World} {A : Around} {E : Value → Shared → Prop} {s : Shared}
theorem keysT {a : Addr} {xs : Array Value} {k : Nat} {sl : Array (Option Value)} {Q : Option Value → Shared → Prop} (hx : s.heap.get? a = some { cls := .type "tuple", dict := none, data := .seq xs k, slots := sl }) (hA : A.handled = none)
    (h : ∀ g tk, (∀ b o, s.heap.get? b = some o → g.get? b = some o) → Q none { s with heap := g, toks := tk }) : wpAny (model prog w) A (getAttr? (.ref a) "keys") Q E s := by
  obtain ⟨hp, g, d, tk, os⟩ := s
  have hT : ∀ tk', (⟨hp, g, d, tk', os⟩ : Shared).TypeIs (.ref a) "tuple" := fun _ => ⟨_, hx, rfl⟩
  have f1 := sub_AttributeError
  have f3 := F.slot_tuple_getattribute.lookup
  have f4 := F.slot_tuple_getattribute.bind (.ref a)
  have f5 := am_tuple_getattr_none
  unfold getAttr? getAttrBy? getAttrBy
  repeat (any_goals (first | assumption | exact hT _ | ((with_reducible show wpAny _ _ (call (Value.builtin "tuple.__getattribute__") _ _) _ _ _); refine call_meets F.slot_tuple_getattribute (hT _) am_entry_tuple_getattribute (F.args_tuple_getattribute_2 _ _) (meets_getattribute_miss_tuple a xs k sl "keys" _ no_keys_tuple (by decide +kernel) (by decide +kernel)) ⟨hx, by simpa using hA, fun h' tk' e hx' => ?_⟩) | wp_step))
  obtain ⟨t', u', he⟩ := hx'.there
  show wpAny _ _ (getattributeRaised _ _ _ _ _ _ _) _ _ _
  unfold getattributeRaised
  repeat (any_goals (first | assumption | wp_step))
  exact h _ _ hx'.keeps
/-- a pair at hand -/
def PairT {κ : Type} [DecidableEq κ] (knd : PySem.KeyKind prog w κ) (h : Heap) (p : κ × Value) (v : Value) (no : List Addr) : Prop :=
  ∃ a o key n, v = .ref a ∧ a ∉ no ∧ h.get? a = some o ∧ o.cls = .type "tuple" ∧ o.data = .seq #[key, p.2] n ∧ knd.is p.1 key = true
theorem dict_loop {κ : Type} [DecidableEq κ] {knd : PySem.KeyKind prog w κ} {R : Result → Shared → Prop} {I : Addr} {fp wr : List Addr} {n : Nat} {P : Nat → Value → Prop} {St : Nat → Heap → Prop} (W : Walks prog w A.in1 I fp wr n P St) (D : Addr) (hD : D ∉ fp) (ps : List (κ × Value)) (hpn : ps.length = n) (its : List Value)
    (hP : ∀ i v, P i v → its[i]? = some v) (hb : n ≤ 100000) :
    ∀ (k i : Nat) (s : Shared), n - i = k → i ≤ n → St i s.heap → s.heap.DictOf knd D (merged [] (ps.take i)) → (∀ (j : Nat) p v, ps[j]? = some p → its[j]? = some v → PairT knd s.heap p v (D :: wr)) →
      (∀ g tk, (∀ b o, b ∉ D :: wr → s.heap.get? b = some o → g.get? b = some o) → g.DictOf knd D (merged [] ps) → R (.ok (.ret .none)) { s with heap := g, toks := tk }) →
      codeAny (model prog w) A (.builtin "dict.update.loop" ⟨[.ref D, .ref I, rawInt i, .none], []⟩) R s := by
  have hDw : D ∉ wr := fun q => hD (W.sub _ q)
  intro k
  induction k with
  | zero =>
    intro i s hk hi st so tp fin
    obtain rfl : i = n := by omega
    refine codeAny_builtin entry_dloop ?_
    rw [Around.under_plainId plain_dloop _]
    refine wpAny_bind (m := pyNext (.ref I)) (W.done s _ _ st fun h' tk kp => ?_)
    rw [← hpn, List.take_length] at so
    refine wpAny_bind (m := Builtin.Dict.addKeywords D []) (wpAny_pure (wpAny_pure (fin h' tk (fun b o nb e => kp b o (fun q => nb (List.mem_cons_of_mem _ q)) e) ?_)))
    obtain ⟨o, es, ep, ho, r⟩ := so
    exact ⟨o, es, ep, kp D o hDw ho, r⟩
  | succ k ih =>
    intro i s hk hi st so tp fin
    have hlt : i < n := by omega
    refine codeAny_builtin entry_dloop ?_
    rw [Around.under_plainId plain_dloop _]
    refine wpAny_bind (m := pyNext (.ref I)) (W.item i s _ _ hlt st fun v h1 tk1 pv st1 kp1 => ?_)
    have hv := hP i v pv
    obtain ⟨p, hp⟩ : ∃ p, ps[i]? = some p := ⟨ps[i], List.getElem?_eq_getElem (by omega)⟩
    obtain ⟨a, o, key, m, rfl, na, ha, hc, hd, hkey⟩ := tp i p v hp hv
    have ha1 : h1.get? a = some o := kp1 a o (fun q => na (List.mem_cons_of_mem _ q)) ha
    have so1 : h1.DictOf knd D (merged [] (ps.take i)) := by
      obtain ⟨o, es, ep, ho, r⟩ := so
      exact ⟨o, es, ep, kp1 D o hDw ho, r⟩
    refine wpAny_bind (wpAny_holding (wpAny_bind (wpAny_tryCatch ?_)))
    unfold Builtin.Dict.pairItems
    refine wpAny_bind (wpAny_typeOf (T := "tuple") ⟨o, ha1, hc⟩ ?_)
    rw [if_pos (by decide)]
    refine wpAny_bind (m := seqItems? (.ref a)) ?_
    unfold seqItems?
    refine wpAny_bind (wpAny_load ha1 ?_)
    rw [hd]
    refine wpAny_pure (wpAny_pure ?_)
    show wpAny _ _ (holding [key, p.2] (dictSet D key p.2)) _ _ _
    have eb := merged_length_le ([] : List (κ × Value)) (ps.take i)
    rw [List.length_take] at eb
    refine wpAny_holding (wpAny_dictSet_pairs (s := { s with heap := h1, toks := tk1 }) hkey so1 (fun g so2 sb => ?_) (by
      have : (100000 : Nat) ≤ sizeLine := by decide
      simp at eb
      omega))
    have so3 : g.DictOf knd D (merged [] (ps.take (i + 1))) := by rw [merged_take_succ _ _ _ _ hp]; exact so2
    refine wpAny_pure ⟨plainId_quiet plain_dloop _, ih (i + 1) _ (by omega) hlt (W.frame _ _ _ st1 fun b hb o e => (sb.2 b fun q => hD (by rw [← q]; exact hb)).trans e) so3 (fun j p v h1' h2' => ?_) fun g' tk kp so' => fin g' tk (fun b o nb e => kp b o nb ?_) so'⟩
    · obtain ⟨a, o, key, m, rfl, na, ha, hc, hd, hkey⟩ := tp j p v h1' h2'
      exact ⟨a, o, key, m, rfl, na, (sb.2 a fun q => na (by rw [q]; exact List.mem_cons_self)).trans (kp1 a o (fun q => na (List.mem_cons_of_mem _ q)) ha), hc, hd, hkey⟩
    · exact (sb.2 b fun q => nb (by rw [q]; exact List.mem_cons_self)).trans (kp1 b o (fun q => nb (List.mem_cons_of_mem _ q)) e)
theorem call_dict_pairsT {κ : Type} [DecidableEq κ] {knd : PySem.KeyKind prog w κ} {l : Addr} {its : List Value} {k : Nat} {sl : Array (Option Value)} {ps : List (κ × Value)} {Q : Value → Shared → Prop} (hh : A.handled = none)
    (hl : s.heap.get? l = some { cls := .type "tuple", dict := none, data := .seq its.toArray k, slots := sl }) (hlen : its.length = ps.length) (hb : ps.length ≤ 100000) (hp : ∀ (j : Nat) p v, ps[j]? = some p → its[j]? = some v → PairT knd s.heap p v [])
    (h : ∀ g tk, (∀ b o, s.heap.get? b = some o → g.get? b = some o) → g.DictOf knd s.heap.objs.size (merged [] ps) → Q (.ref s.heap.objs.size) { s with heap := g, toks := tk }) : wpAny (model prog w) A (call (.type "dict") [.ref l]) Q E s := by
  refine callType_codes (Q₁ := fun obj s₁ => obj = .ref s.heap.objs.size ∧ s₁ = { s with heap := s.heap.push { cls := .type "dict", data := .dict #[] } }) F.kt_called_dict (F.kt_typeCall_dict_1 _) F.entry_dict_init (kt_code_dict_new _ ⟨rfl, rfl⟩) ?_
  rintro obj s₁ ⟨rfl, rfl⟩
  have hnew : (s.heap.push { cls := .type "dict", data := .dict #[] }).DictOf knd s.heap.objs.size [] := Heap.DictOf.new s.heap
  have hl1 : (s.heap.push { cls := .type "dict", data := .dict #[] }).get? l = some { cls := .type "tuple", dict := none, data := .seq its.toArray k, slots := sl } := Heap.get?_push_of_some _ hl
  refine ⟨hnew.typeIs, F.args_dict_init_2 _ _, ?_⟩
  unfold Builtin.«dict.__init__»
  refine wpAny_bind ?_
  unfold Builtin.Dict.selfAndRest
  refine wpAny_bind (wpAny_notOrdered_dict hnew.typeIs ?_)
  refine wpAny_pure (a := (s.heap.objs.size, [Value.ref l])) ?_
  show wpAny _ _ (Builtin.Dict.updateFrom "dict.__init__" s.heap.objs.size (.ref l) [] .none) _ _ _
  unfold Builtin.Dict.updateFrom
  refine wpAny_bind (wpAny_typeOf (T := "tuple") ⟨_, hl1, rfl⟩ ?_)
  rw [if_pos (by decide)]
  refine wpAny_bind (keysT hl1 (by simpa using hh) fun g tk kp => ?_)
  rw [if_pos (by rfl)]
  refine wpAny_bind (wpAny_rule ?_)
  have ltD : s.heap.objs.size < g.objs.size := by
    obtain ⟨o, es, ep, ho, _⟩ := hnew
    exact Heap.lt_size (kp _ _ ho)
  have ltl : l < s.heap.objs.size := Heap.lt_size hl
  have hl2 : g.IsTuple l its.toArray := ⟨_, kp _ _ hl1, rfl, k, rfl⟩
  refine wpAny_bind (wpAny_pyIter_tuple hl2 (wpAny_pure ⟨plainId_quiet plain_dloop _, ?_⟩))
  have hne : l ≠ g.objs.size := Nat.ne_of_lt (Nat.lt_trans ltl ltD)
  have hh2 : A.in1.in1.handled = none := by simpa using hh
  have nin : s.heap.objs.size ∉ [g.objs.size, l] := by
    simp only [List.mem_cons, List.not_mem_nil, or_false, not_or]
    exact ⟨Nat.ne_of_lt ltD, Nat.ne_of_gt ltl⟩
  have sz : ps.length = its.toArray.size := by rw [List.size_toArray]; omega
  refine dict_loop (knd := knd) (A := A.in1) (Walks.tuple hh2 g.objs.size l hne its.toArray) s.heap.objs.size nin ps sz its (fun i v e => by simpa using e) (by omega) its.toArray.size 0 _ (Nat.sub_zero _) (Nat.zero_le _) ?st ?so ?tp ?fin
  case st => exact ⟨⟨_, Heap.get?_push_size _ rfl, rfl, rfl⟩, hl2.push _⟩
  case so =>
    obtain ⟨o, es, ep, ho, r⟩ := hnew
    exact ⟨o, es, ep, Heap.get?_push_of_some _ (kp _ _ ho), r⟩
  case tp =>
    intro j p v h1 h2
    obtain ⟨a, o, key, n, rfl, _, ha, r⟩ := hp j p v h1 h2
    have lt := Heap.lt_size ha
    refine ⟨a, o, key, n, rfl, ?_, Heap.get?_push_of_some _ (kp _ _ (Heap.get?_push_of_some _ ha)), r⟩
    simp only [List.mem_cons, List.not_mem_nil, or_false, not_or]
    exact ⟨Nat.ne_of_lt lt, Nat.ne_of_lt (Nat.lt_trans lt ltD)⟩
  case fin =>
    intro g' tk' kp' so'
    refine ⟨rfl, h g' tk' (fun b o e => kp' b o ?_ (Heap.get?_push_of_some _ (kp _ _ (Heap.get?_push_of_some _ e)))) so'⟩
    have lt := Heap.lt_size e
    simp only [List.mem_cons, List.not_mem_nil, or_false, not_or]
    exact ⟨Nat.ne_of_lt lt, Nat.ne_of_lt (Nat.lt_trans lt ltD)⟩
end
section
variable {X : Cx} {pins : List (Addr × Obj)} {σ : St} {H : Hp} {s : Shared}
theorem pairs_real (I : Inv X pins σ H s) : ∀ {ys : List V} {kvs : List (Key × V)} {us : List Value}, PairsAt H ys kvs → Vals ys us → ∃ ws : List (Key × Value), KV kvs ws ∧ us.length = ws.length ∧ ∀ (j : Nat) p v, ws[j]? = some p → us[j]? = some v → PairT (mixKind X.prog X.w) s.heap p v []
  | _, _, _, .nil, .nil => ⟨[], .nil, rfl, fun j p v e => by simp at e⟩
  | _, _, _, .cons (a := a) (k := k) (v := v) h r, .cons ru rr => by
    obtain ⟨ws, kv, hl, hp⟩ := pairs_real I r rr
    cases ru
    obtain ⟨_, its, vs, ⟨o, ho, hc, n, hd⟩⟩ := (show ObjOk X.prog X.w H s.heap a (.tup [kV k, v]) from I.hok a _ h)
    cases vs with
    | @cons _ key _ _ r1 q =>
      cases q with
      | @cons _ x _ _ r2 q2 =>
        cases q2
        refine ⟨(k, x) :: ws, .cons ⟨rfl, r2⟩ kv, by simp [hl], fun j p u e1 e2 => ?_⟩
        cases j with
        | zero =>
          simp at e1 e2
          subst e1 e2
          exact ⟨a, o, key, n, rfl, by simp, ho, hc.1, hd, kV_is r1⟩
        | succ j => exact hp j p u (by simpa using e1) (by simpa using e2)
def rDictL (K : PySem.W.Frag) : List V → Hp → VK → Prop := fun xs H Q => ∃ (l : Addr) (ys : List V) (kvs : List (Key × V)), xs = [.ref l] ∧ SqL K H l ys ∧ PairsAt H ys kvs ∧ kvs.length ≤ 1000 ∧ ∀ p, H p = none → Q (.ref p) (upd H p (.dK (mergeK [] kvs)))
end
end L2

namespace L2
open PySem PySem.Spec PyProof.Rows
/-! ### // by a divisor of any usual size -/
def CDivB (i j : Int) : Prop := 0 < j ∧ j < 1000000000000000000000000000000000000000000000000000000000000
theorem op_fdivB {X : Cx} : OpR X (binaryOp .FloorDiv) (rI CDivB fun i j => .int (i / j)) := opI fun i j _ _ _ _ _ hc q => by
  have h1 : (0 : Int) < j := hc.1
  have h2 : j < 1000000000000000000000000000000000000000000000000000000000000 := hc.2
  refine floordiv_int (by omega) (by rw [Int.fdiv_eq_ediv_of_nonneg i (by omega)]; exact q) (.inl (PyProof.noPylong_of_log2 ?_))
  have hn : j.natAbs ≠ 0 := by omega
  have hl : j.natAbs < 2 ^ 400 := Nat.lt_of_lt_of_le (show j.natAbs < 1000000000000000000000000000000000000000000000000000000000000 by omega) (by decide +kernel)
  exact Nat.lt_trans ((Nat.log2_lt hn).mpr hl) (by decide)
/-! ### texts in order -/
def leS (a b : Str) : Bool := !decide (b.cps.toList < a.cps.toList)
theorem leS_total (a b : Str) : (leS a b || leS b a) = true := by
  unfold leS
  by_cases h : b.cps.toList < a.cps.toList
  · have h2 : ¬ a.cps.toList < b.cps.toList := fun q => List.lt_irrefl _ (List.lt_trans h q)
    simp [h2]
  · simp [h]
theorem leS_trans (a b c : Str) (h1 : leS a b = true) (h2 : leS b c = true) : leS a c = true := by
  unfold leS at *
  simp only [Bool.not_eq_true', decide_eq_false_iff_not] at *
  exact fun q => (List.not_lt.mp h1 : a.cps.toList ≤ b.cps.toList) |> fun x => (List.le_trans x (List.not_lt.mp h2)) q
theorem leS_anti {a b : Str} (h1 : leS a b = true) (h2 : leS b a = true) : a = b := by
  unfold leS at *
  simp only [Bool.not_eq_true', decide_eq_false_iff_not] at *
  have e : a.cps.toList = b.cps.toList := List.le_antisymm (List.not_lt.mp h1) (List.not_lt.mp h2)
  obtain ⟨⟨x⟩⟩ := a
  obtain ⟨⟨y⟩⟩ := b
  simp at e
  rw [e]
def srtS (zs : List Str) : List Str := zs.mergeSort leS
theorem srtS_perm (zs : List Str) : (srtS zs).Perm zs := List.mergeSort_perm _ _
theorem srtS_pw (zs : List Str) : (srtS zs).Pairwise (fun a b => leS a b = true) := List.pairwise_mergeSort leS_trans leS_total zs
theorem riseS_eq : ∀ {l m : List Str}, l.Perm m → l.Pairwise (fun a b => leS a b = true) → m.Pairwise (fun a b => leS a b = true) → l = m
  | [], m, p, _, _ => List.Perm.nil_eq p
  | a :: l, [], p, _, _ => absurd p.length_eq (by simp)
  | a :: l, b :: m, p, h1, h2 => by
    have e : a = b := by
      rcases List.mem_cons.mp (p.mem_iff.mp List.mem_cons_self) with q | q
      · exact q
      · rcases List.mem_cons.mp (p.mem_iff.mpr List.mem_cons_self) with r | r
        · exact r.symm
        · exact leS_anti ((List.pairwise_cons.mp h1).1 b r) ((List.pairwise_cons.mp h2).1 a q)
    subst e
    rw [riseS_eq ((List.perm_cons a).mp p) (List.pairwise_cons.mp h1).2 (List.pairwise_cons.mp h2).2]
theorem risingS_pw : ∀ (p : Str) (l : List Str), risingS p l = true → (p :: l).Pairwise (fun a b => leS a b = true)
  | p, [], _ => List.pairwise_singleton _ _
  | p, x :: r, h => by
    have h : (!ltCps x.cps.toList p.cps.toList && risingS x r) = true := h
    rw [Bool.and_eq_true] at h
    have ih := risingS_pw x r h.2
    have e : leS p x = true := by
      unfold leS
      rw [← ltCps_eq]
      exact h.1
    refine List.pairwise_cons.mpr ⟨fun y hy => ?_, ih⟩
    rcases List.mem_cons.mp hy with rfl | hy
    · exact e
    · exact leS_trans p x y e ((List.pairwise_cons.mp ih).1 y hy)
theorem sortedS_pw : ∀ {l : List Str}, sortedS l = true → l.Pairwise (fun a b => leS a b = true)
  | [], _ => List.Pairwise.nil
  | x :: r, h => risingS_pw x r h
theorem srtS_of {l zs : List Str} (p : l.Perm zs) (h : sortedS l = true) : l = srtS zs := riseS_eq (p.trans (srtS_perm zs).symm) (sortedS_pw h) (srtS_pw zs)
section
variable {X : Cx}
theorem vals_strs : ∀ {us : List Value} {zs : List Str}, StrsAre us zs → Vals (zs.map V.str) us
  | _, _, .nil => .nil
  | _, _, .cons x t r => .cons ⟨t, rfl⟩ (vals_strs r)
/-- sorted(d), the keys texts -/
def rSortD : List V → Hp → VK → Prop := fun xs H Q => ∃ (d : Addr) (kvs : List (Key × V)) (zs : List Str), xs = [.ref d] ∧ H d = some (.dK kvs) ∧ kvs.map (·.1) = zs.map Sum.inr ∧ zs.length < 64 ∧ ∀ p, H p = none → Q (.ref p) (upd H p (.lst ((srtS zs).map V.str)))
theorem keys_strs {P : Program} {w : World} : ∀ {us : List Value} {ws : List (Key × Value)} {zs : List Str}, us.length = ws.length → (∀ (j : Nat) (u : Value), us[j]? = some u → ∃ k x, ws[j]? = some (k, x) ∧ (mixKind P w).is k u = true) → ws.map (·.1) = zs.map Sum.inr → StrsAre us zs
  | [], [], [], _, _, _ => .nil
  | [], [], _ :: _, _, _, e => by simp at e
  | [], _ :: _, _, e, _, _ => by simp at e
  | _ :: _, [], _, e, _, _ => by simp at e
  | _ :: _, _ :: _, [], _, _, e => by simp at e
  | u :: us, (k, x) :: ws, z :: zs, hl, h, e => by
    rw [List.map_cons, List.map_cons] at e
    injection e with e1 e2
    obtain ⟨k', x', q, hk⟩ := h 0 u rfl
    have q : (k, x) = (k', x') := by simpa using q
    cases q
    have e1 : k = Sum.inr z := e1
    subst e1
    obtain ⟨t, rfl⟩ := kV_rel hk
    exact .cons z t (keys_strs (by simpa using hl) (fun j v hv => by simpa using h (j + 1) v (by simpa using hv)) e2)
theorem call_sortD (hc : X.calm = true) : CallR X (.builtin "sorted") rSortD := by
  intro pins s σ H xs us Q I rx h
  obtain ⟨d, kvs, zs, rfl, hd, hzs, h64, q⟩ := h
  obtain ⟨u, rfl, ru⟩ := vals1 rx
  cases ru
  obtain ⟨_, lo, es, kv, hD⟩ := dk_of I.hok hd
  obtain ⟨ep, hat⟩ := hD.dictAt
  have kk : es.map (·.1) = zs.map Sum.inr := by rw [← hzs, KV.keys kv]
  have hl : es.length = zs.length := by
    have e := congrArg List.length kk
    rw [List.length_map, List.length_map] at e
    exact e
  have hh : X.A.in1.handled = none := by simpa using I.ok.hd hc
  refine Calls.call_function_entry kind_sorted plain_sorted entry_sorted (args_sorted1 _) ?_
  unfold Builtin.«sorted»
  refine wpAny_bind (m := checkCount "sorted" 1 1 _) (wpAny_pure ?_)
  refine wpAny_bind (collect_src (A := X.A.in1) (PySem.W.kdl_dict (knd := mixKind X.prog X.w) (kvs := es) (ep := ep) lo) hh hat (small_le (by omega)) fun g tk acc hk hsz hacc => ?_)
  have al : acc.toList.length = es.length := by rw [Array.length_toList]; exact hacc.1
  have hS : StrsAre acc.toList zs := keys_strs (P := X.prog) (w := X.w) al (fun j u e => hacc.2 j u (by rw [← Array.getElem?_toList]; exact e)) kk
  refine wpAny_bind (wpAny_newList ?_ (by exact small_le (by omega)))
  have hoL : (g.push (seqObj "list" acc.toList.toArray 0)).get? g.objs.size = some (seqObj "list" acc.toList.toArray 0) := Heap.get?_push_size _ rfl
  refine wpAny_bind (wpAny_holding (wpAny_call_entry slot_list_sort ⟨_, hoL, rfl⟩ entry_list_sort (list_sort_treeK strKind_oneLt hoL hS.keysOf (fun v1 v2 rest e => keyKind_strs (by rw [← e]; exact hS)) (by omega) fun st' b1 b2 => ⟨_, rfl, ?_⟩) (args_list_sort _)))
  refine wpAny_pure ⟨_, rfl, ?_⟩
  obtain ⟨ss, a1, a2, a3⟩ := sorted_out_str hS b1 b2
  have ess := srtS_of a2 a3
  subst ess
  obtain ⟨e2, he2⟩ := sortedHeap_at (vs := acc.toList) (out := (arrOf st').map (·.2)) hoL
  have hz : s.heap.objs.size ≤ g.objs.size := Nat.le_of_lt hsz
  refine ⟨.ref g.objs.size, _, I.laid (t' := tk) (o := .lst ((srtS zs).map V.str)) (fun b o e => ?_) hz ?_, rfl, q _ (I.hok.fresh hz)⟩
  · have e' := hk b o e
    have hlt := Heap.lt_size e'
    rw [sortedHeap_old (Nat.ne_of_lt hlt) (by rw [size_push']; exact Nat.lt_succ_of_lt hlt)]
    exact Heap.get?_push_of_some _ e'
  · refine ⟨?_, ((arrOf st').map (·.2)).toList, e2, vals_strs a1, by rw [Array.toArray_toList]; exact he2⟩
    rw [List.length_map, (srtS_perm zs).length_eq]
    exact small_le (by omega)
end
/-! ### sorted(xs) of a list -/
def srtI (ns : List Int) : List Int := ns.mergeSort fun a b => decide (a ≤ b)
section
variable {X : Cx}
def rSortI (K : PySem.W.Frag) : List V → Hp → VK → Prop := fun xs H Q => ∃ (p : Addr) (ns : List Int), xs = [.ref p] ∧ SqL K H p (ns.map V.int) ∧ ns.length < 64 ∧ ∀ q, H q = none → Q (.ref q) (upd H q (.lst ((srtI ns).map V.int)))
def rSortS (K : PySem.W.Frag) : List V → Hp → VK → Prop := fun xs H Q => ∃ (p : Addr) (zs : List Str), xs = [.ref p] ∧ SqL K H p (zs.map V.str) ∧ zs.length < 64 ∧ ∀ q, H q = none → Q (.ref q) (upd H q (.lst ((srtS zs).map V.str)))
end
end L2

namespace L2
open PySem PySem.Spec PyProof.Rows
/-! ### dicts from texts to numbers -/
abbrev Ps := List (Str × Int)
def kvOf (ps : Ps) : List (Key × V) := ps.map fun p => (Sum.inr p.1, V.int p.2)
def nsOf (ps : Ps) : List Int := ps.map (·.2)
structure PsOk (ps : Ps) : Prop where
  nd : (ps.map (·.1)).Nodup
  ok : ∀ p ∈ ps, PyData.strOk p.1 = true
  len : ps.length ≤ 50
theorem kvOf_ns (ps : Ps) : (kvOf ps).map (·.2) = (nsOf ps).map V.int := by unfold kvOf nsOf; rw [List.map_map, List.map_map]; rfl
theorem kvOf_len (ps : Ps) : (kvOf ps).length = ps.length := List.length_map _
theorem nsOf_len (ps : Ps) : (nsOf ps).length = ps.length := List.length_map _
theorem kvOf_keys (ps : Ps) : (kvOf ps).map (·.1) = (ps.map (·.1)).map Sum.inr := by unfold kvOf; rw [List.map_map, List.map_map]; rfl
theorem val_ps : ∀ {ps : Ps} {i : Nat} {p : Str × Int}, (ps.map (·.1)).Nodup → ps[i]? = some p → valV (kvOf ps) (Sum.inr p.1) = some (.int p.2)
  | [], _, _, _, e => by simp at e
  | q :: ps, 0, p, _, e => by
    have e : q = p := by simpa using e
    subst e
    exact valV_pos rfl
  | q :: ps, i + 1, p, h, e => by
    have e' : ps[i]? = some p := by simpa using e
    have h := List.nodup_cons.mp h
    have ne : ¬ (Sum.inr q.1 : Key) = Sum.inr p.1 := fun z => h.1 (by show q.1 ∈ _; rw [Sum.inr.inj z]; exact List.mem_map.mpr ⟨p, List.mem_of_getElem? e', rfl⟩)
    exact (valV_neg ne).trans (val_ps h.2 e')
theorem mergeK_fresh : ∀ (more acc : List (Key × V)), ((acc ++ more).map (·.1)).Nodup → mergeK acc more = acc ++ more
  | [], acc, _ => by rw [List.append_nil]; rfl
  | (k, v) :: more, acc, h => by
    have hn : valV acc k = none := by
      cases e : valV acc k with
      | none => rfl
      | some u =>
        have hk := valV_in e
        rw [List.map_append, List.nodup_append] at h
        exact absurd rfl (h.2.2 k hk k List.mem_cons_self)
    show mergeK (putK acc k v) more = _
    rw [putK_new v hn, mergeK_fresh more _ (by rw [List.append_assoc]; exact h), List.append_assoc]
    rfl
theorem mergeK_nil {kvs : List (Key × V)} (h : (kvs.map (·.1)).Nodup) : mergeK [] kvs = kvs := mergeK_fresh kvs [] h
theorem nd_inr {l : List Str} (h : l.Nodup) : (l.map (Sum.inr : Str → Key)).Nodup := by
  induction l with
  | nil => exact List.nodup_nil
  | cons a l ih =>
    rw [List.map_cons, List.nodup_cons]
    refine ⟨fun q => ?_, ih (List.nodup_cons.mp h).2⟩
    obtain ⟨b, hb, e⟩ := List.mem_map.mp q
    exact (List.nodup_cons.mp h).1 (Sum.inr.inj e ▸ hb)
def pD (p : Str × Int) : PyData := .tuple [.str p.1, .int p.2]
theorem pairs_dvs {H : Hp} : ∀ {ps : Ps} {ys : List V}, PairsAt H ys (kvOf ps) → DVs H ys (ps.map pD)
  | [], _, h => by cases h; exact .nil
  | p :: ps, _, h => by
    cases h with
    | cons e r => exact .cons (.tup e (.cons (.str _) (.cons (.int _) .nil))) (pairs_dvs r)
/-! ### tallies -/
structure Ty where
  room : Int
  cs : Ps
  lt : Int
  total : Int
def Ty.D (t : Ty) : PyData := .tuple [.int t.room, .tuple (t.cs.map pD), .int t.lt, .int t.total]
def Ty.sum (t : Ty) : Int := (nsOf t.cs).sum
structure Ty.Ok (t : Ty) : Prop where
  room1 : 1 ≤ t.room
  room2 : t.room ≤ 20
  nd : (t.cs.map (·.1)).Nodup
  rise : (t.cs.map (·.1)).Pairwise (fun a b => leS a b = true)
  word : ∀ p ∈ t.cs, p.1 ∈ words
  pos : ∀ p ∈ t.cs, 1 ≤ p.2
  len : (t.cs.length : Int) ≤ t.room
  lt0 : 0 ≤ t.lt
  lo : (t.room + 1) * t.lt ≤ t.total - t.sum
  hi : t.total - t.sum ≤ 2 * t.room * t.lt
theorem DVs.pairs_inv {H : Hp} : ∀ {ps : Ps} {ys : List V}, DVs H ys (ps.map pD) → PairsAt H ys (kvOf ps)
  | [], _, h => by rw [h.nil_inv]; exact .nil
  | p :: ps, _, h => by
    obtain ⟨x, r, rfl, h1, h2⟩ := DVs.cons_inv h
    obtain ⟨a, xs, rfl, e, q⟩ := DV.tup_inv h1
    obtain ⟨_, _, rfl, k1, q⟩ := q.cons_inv
    obtain ⟨_, _, rfl, k2, q⟩ := q.cons_inv
    have := q.nil_inv
    subst this
    cases k1
    cases k2
    exact .cons e (DVs.pairs_inv h2)
theorem DV.ty_inv {H : Hp} {v : V} {t : Ty} (h : DV H v t.D) : ∃ a b rows, v = .ref a ∧ H a = some (.tup [.int t.room, .ref b, .int t.lt, .int t.total]) ∧ H b = some (.tup rows) ∧ PairsAt H rows (kvOf t.cs) := by
  obtain ⟨a, xs, rfl, e, q⟩ := DV.tup_inv h
  obtain ⟨_, _, rfl, k1, q⟩ := q.cons_inv
  obtain ⟨_, _, rfl, k2, q⟩ := q.cons_inv
  obtain ⟨_, _, rfl, k3, q⟩ := q.cons_inv
  obtain ⟨_, _, rfl, k4, q⟩ := q.cons_inv
  have := q.nil_inv
  subst this
  cases k1
  cases k3
  cases k4
  obtain ⟨b, rows, rfl, e2, q2⟩ := DV.tup_inv k2
  exact ⟨a, b, rows, rfl, e, e2, DVs.pairs_inv q2⟩
theorem Ty.dv {H : Hp} {a b : Addr} {rows : List V} {t : Ty} (e : H a = some (.tup [.int t.room, .ref b, .int t.lt, .int t.total])) (e2 : H b = some (.tup rows)) (p : PairsAt H rows (kvOf t.cs)) : DV H (.ref a) t.D :=
  .tup e (.cons (.int _) (.cons (.tup e2 (pairs_dvs p)) (.cons (.int _) (.cons (.int _) .nil))))
/-- the pairs of a dict, by rising keys -/
def look (ps : Ps) (z : Str) : Int := match ps with
  | [] => 0
  | p :: r => if p.1 = z then p.2 else look r z
theorem look_in : ∀ {ps : Ps} {p : Str × Int}, (ps.map (·.1)).Nodup → p ∈ ps → look ps p.1 = p.2
  | q :: ps, p, h, hp => by
    rcases List.mem_cons.mp hp with rfl | hp
    · exact if_pos rfl
    · have h := List.nodup_cons.mp h
      have ne : q.1 ≠ p.1 := fun e => h.1 (by show q.1 ∈ _; rw [e]; exact List.mem_map.mpr ⟨p, hp, rfl⟩)
      show (if q.1 = p.1 then q.2 else look ps p.1) = p.2
      rw [if_neg ne]
      exact look_in h.2 hp
def srtP (ps : Ps) : Ps := (srtS (ps.map (·.1))).map fun z => (z, look ps z)
theorem map_look {ps : Ps} (h : (ps.map (·.1)).Nodup) : (ps.map (·.1)).map (fun z => (z, look ps z)) = ps := by
  rw [List.map_map]
  have e : ∀ p ∈ ps, ((fun z => (z, look ps z)) ∘ fun p : Str × Int => p.1) p = p := fun p hp => by
    show (p.1, look ps p.1) = p
    rw [look_in h hp]
  rw [List.map_congr_left e]
  exact List.map_id _
theorem perm_sum {l m : List Int} (p : l.Perm m) : l.sum = m.sum := by
  induction p with
  | nil => rfl
  | cons x _ ih => rw [List.sum_cons, List.sum_cons, ih]
  | swap x y l => simp only [List.sum_cons]; omega
  | trans _ _ a b => exact a.trans b
end L2

namespace L2
open PySem PySem.Spec PyProof.Rows
/-! ### cutting a text -/
/-! ### a pen is no tuple -/
theorem PenAt.tup {H : Hp} {a p : Addr} {xs : List V} (h : PenAt H a) (e : H p = some (.tup xs)) : hide a H p = some (.tup xs) := by
  have ne : p ≠ a := fun q => by
    subst q
    obtain ⟨_, _, _, e'⟩ := h
    rw [e] at e'
    cases e'
  rw [hide_ne ne]
  exact e
theorem PenAt.pairs {H : Hp} {a : Addr} (h : PenAt H a) : ∀ {xs : List V} {kvs : List (Key × V)}, PairsAt H xs kvs → PairsAt (hide a H) xs kvs
  | _, _, .nil => .nil
  | _, _, .cons e r => .cons (h.tup e) (PenAt.pairs h r)
theorem PenAt.ty {H : Hp} {a : Addr} {v : V} {t : Ty} (h : PenAt H a) (d : DV H v t.D) : DV (hide a H) v t.D := by
  obtain ⟨p, b, rows, rfl, e1, e2, pa⟩ := DV.ty_inv d
  exact Ty.dv (h.tup e1) (h.tup e2) (h.pairs pa)
/-! ### pairs one by one -/
theorem PairsAt.get {H : Hp} : ∀ {xs : List V} {kvs : List (Key × V)}, PairsAt H xs kvs → ∀ {i : Nat} {x : V}, xs[i]? = some x → ∃ (a : Addr) (k : Key) (v : V), x = .ref a ∧ kvs[i]? = some (k, v) ∧ H a = some (.tup [kV k, v])
  | _, _, .nil, i, x, e => by simp at e
  | _, _, .cons (a := a) (k := k) (v := v) h r, 0, x, e => ⟨a, k, v, by simpa using e.symm, rfl, h⟩
  | _, _, .cons h r, i + 1, x, e => by
    obtain ⟨a, k, v, e1, e2, e3⟩ := PairsAt.get r (show _ by simpa using e)
    exact ⟨a, k, v, e1, by simpa using e2, e3⟩
theorem PairsAt.getP {H : Hp} {xs : List V} {ps : Ps} (h : PairsAt H xs (kvOf ps)) {i : Nat} {x : V} (e : xs[i]? = some x) : ∃ (a : Addr) (p : Str × Int), x = .ref a ∧ ps[i]? = some p ∧ H a = some (.tup [.str p.1, .int p.2]) := by
  obtain ⟨a, k, v, e1, e2, e3⟩ := h.get e
  unfold kvOf at e2
  rw [List.getElem?_map] at e2
  obtain ⟨p, hp, q⟩ := Option.map_eq_some_iff.mp e2
  cases q
  exact ⟨a, p, e1, hp, e3⟩
theorem look_out : ∀ {ps : Ps} {z : Str}, z ∉ ps.map (·.1) → look ps z = 0
  | [], _, _ => rfl
  | p :: ps, z, h => by
    rw [List.map_cons, List.mem_cons, not_or] at h
    show (if p.1 = z then p.2 else look ps z) = 0
    rw [if_neg (Ne.symm h.1)]
    exact look_out h.2
theorem look_app (ps qs : Ps) (z : Str) : look (ps ++ qs) z = if z ∈ ps.map (·.1) then look ps z else look qs z := by
  induction ps with
  | nil => rfl
  | cons p ps ih =>
    show (if p.1 = z then p.2 else look (ps ++ qs) z) = if z ∈ (p :: ps).map (·.1) then (if p.1 = z then p.2 else look ps z) else look qs z
    by_cases e : p.1 = z
    · rw [if_pos e, if_pos e, if_pos (by rw [List.map_cons, e]; exact List.mem_cons_self)]
    · rw [if_neg e, if_neg e, ih]
      by_cases h : z ∈ ps.map (·.1)
      · rw [if_pos h, if_pos (show z ∈ (p :: ps).map (·.1) from List.mem_cons_of_mem _ h)]
      · rw [if_neg h, if_neg]
        rw [List.map_cons, List.mem_cons, not_or]
        exact ⟨Ne.symm e, h⟩
def rSlS : V → Option Int → Option Int → Hp → VK → Prop := fun x lo hi H Q => ∃ z, x = .str z ∧ z.length ≤ sizeLine ∧ Q (.str (Txt.slice z lo hi)) H
section
variable {X : Cx}
/-! ### dict(tuple of pairs) -/
def rDictT : List V → Hp → VK → Prop := fun xs H Q => ∃ (l : Addr) (ys : List V) (kvs : List (Key × V)), xs = [.ref l] ∧ H l = some (.tup ys) ∧ PairsAt H ys kvs ∧ kvs.length ≤ 1000 ∧ ∀ p, H p = none → Q (.ref p) (upd H p (.dK (mergeK [] kvs)))
theorem call_dictT (hc : X.calm = true) : CallR X (.type "dict") rDictT := by
  intro pins s σ H xs us Q I rx h
  obtain ⟨l, ys, kvs, rfl, hq, pa, hlen, q⟩ := h
  obtain ⟨u, rfl, ru⟩ := vals1 rx
  cases ru
  obtain ⟨_, its, rv, ⟨⟨c0, d0, dt0, sl0⟩, ho, hcl, m, hs⟩⟩ := (show ObjOk X.prog X.w H s.heap l (.tup ys) from I.hok l _ hq)
  simp only at hcl hs
  obtain ⟨hcl, hdn⟩ := hcl
  subst hcl hdn hs
  obtain ⟨ws, kv, hl, hp⟩ := pairs_real I pa rv
  have kl := kv.length
  refine call_dict_pairsT (knd := mixKind X.prog X.w) (I.ok.hd hc) ho hl (by omega) hp fun g tk kp hD => ?_
  refine ⟨.ref s.heap.objs.size, _, I.laid (t' := tk) (o := .dK (mergeK [] kvs)) kp (Nat.le_refl _) ?_, rfl, q _ (I.hok.fresh (Nat.le_refl _))⟩
  have ml := length_mergeK kvs []
  refine ⟨small_le (by simp at ml; omega), ?_, _, KV.merge kv .nil, hD⟩
  exact beq_eq_false_iff_ne.mpr (Nat.ne_of_gt I.big)
end
end L2

namespace L2
open PySem PySem.Spec PyProof.Rows
/-! ### sorted lists, falling -/
def srt (ns : List Int) : List Int := ns.mergeSort fun a b => decide (b ≤ a)
theorem srt_perm (ns : List Int) : (srt ns).Perm ns := List.mergeSort_perm _ _
theorem srt_pw (ns : List Int) : (srt ns).Pairwise (· ≥ ·) := by
  have h := List.pairwise_mergeSort (le := fun a b : Int => decide (b ≤ a)) (by intro a b c h1 h2; simp at *; omega) (by intro a b; simp; omega) ns
  exact h.imp fun h => by simpa using h
theorem fall_eq : ∀ {l m : List Int}, l.Perm m → l.Pairwise (· ≥ ·) → m.Pairwise (· ≥ ·) → l = m
  | [], m, p, _, _ => (List.Perm.nil_eq p)
  | a :: l, [], p, _, _ => absurd p.length_eq (by simp)
  | a :: l, b :: m, p, h1, h2 => by
    have ha : a ∈ b :: m := p.mem_iff.mp List.mem_cons_self
    have hb : b ∈ a :: l := p.mem_iff.mpr List.mem_cons_self
    have le1 : b ≥ a := by
      rcases List.mem_cons.mp ha with e | e
      · omega
      · exact (List.pairwise_cons.mp h2).1 a e
    have le2 : a ≥ b := by
      rcases List.mem_cons.mp hb with e | e
      · omega
      · exact (List.pairwise_cons.mp h1).1 b e
    have e : a = b := by omega
    subst e
    rw [fall_eq ((List.perm_cons a).mp p) (List.pairwise_cons.mp h1).2 (List.pairwise_cons.mp h2).2]
theorem srt_of {ms ns : List Int} (p : ms.Perm ns) (h : ms.Pairwise (· ≥ ·)) : ms = srt ns := fall_eq (p.trans (srt_perm ns).symm) h (srt_pw ns)
/-- the cut, as a number -/
def cutM (room : Int) (ns : List Int) : Int := if (ns.length : Int) ≤ room then 0 else (srt ns).getD room.toNat 0
theorem fall_above : ∀ {l : List Int} {i : Nat} {c : Int}, l.Pairwise (· ≥ ·) → l[i]? = some c → (l.filter fun x => decide (c < x)).length ≤ i
  | [], _, _, _, e => by simp at e
  | a :: l, 0, c, h, e => by
    have e : a = c := by simpa using e
    subst e
    have : ∀ x ∈ a :: l, ¬ a < x := fun x hx => by
      rcases List.mem_cons.mp hx with q | q
      · omega
      · have := (List.pairwise_cons.mp h).1 x q
        omega
    rw [List.filter_eq_nil_iff.mpr fun x hx => by simpa using this x hx]
    exact Nat.le_refl _
  | a :: l, i + 1, c, h, e => by
    have ih := fall_above (List.pairwise_cons.mp h).2 (show l[i]? = some c by simpa using e)
    rw [List.filter_cons]
    split
    · rw [List.length_cons]; omega
    · omega
theorem fall_from : ∀ {l : List Int} {i : Nat} {c : Int}, l.Pairwise (· ≥ ·) → l[i]? = some c → i < (l.filter fun x => decide (c ≤ x)).length
  | [], _, _, _, e => by simp at e
  | a :: l, 0, c, h, e => by
    have e : a = c := by simpa using e
    subst e
    rw [List.filter_cons]
    simp
  | a :: l, i + 1, c, h, e => by
    have e' : l[i]? = some c := by simpa using e
    have ih := fall_from (List.pairwise_cons.mp h).2 e'
    have : c ≤ a := (List.pairwise_cons.mp h).1 c (List.mem_of_getElem? e')
    rw [List.filter_cons, if_pos (by simpa using this), List.length_cons]
    omega
theorem split_count (c : Int) : ∀ l : List Int, (l.filter fun x => decide (c ≤ x)).length = (l.filter fun x => decide (c < x)).length + l.count c
  | [] => rfl
  | a :: l => by
    have ih := split_count c l
    rw [List.filter_cons, List.filter_cons, List.count_cons]
    by_cases h1 : c < a
    · have h2 : c ≤ a := by omega
      have h3 : ¬ a = c := by omega
      simp [h1, h2, h3]
      omega
    · by_cases h3 : a = c
      · subst h3
        simp
        omega
      · have h2 : ¬ c ≤ a := by omega
        simp [h1, h2, h3]
        omega
/-- what is asked of a cut -/
theorem cut_right {room : Int} {ns : List Int} (h0 : 0 ≤ room) (h : room < ns.length) : ∃ c, (srt ns)[room.toNat]? = some c ∧ cutM room ns = c ∧ c ∈ ns ∧ ((ns.filter fun x => decide (c < x)).length : Int) ≤ room ∧ room < (ns.filter fun x => decide (c < x)).length + ns.count c := by
  have hl : (srt ns).length = ns.length := (srt_perm ns).length_eq
  have hi : room.toNat < (srt ns).length := by omega
  have e : (srt ns)[room.toNat]? = some (srt ns)[room.toNat] := List.getElem?_eq_getElem hi
  refine ⟨_, e, ?_, (srt_perm ns).mem_iff.mp (List.getElem_mem hi), ?_, ?_⟩
  · unfold cutM
    rw [if_neg (by omega), List.getD_eq_getElem?_getD, e]
    rfl
  · have q := fall_above (srt_pw ns) e
    rw [((srt_perm ns).filter _).length_eq] at q
    omega
  · have q := fall_from (srt_pw ns) e
    rw [((srt_perm ns).filter _).length_eq, split_count] at q
    omega
/-! ### two tallies as one -/
def keysM (ps qs : Ps) : List Str := ps.map (·.1) ++ (qs.map (·.1)).filter fun z => decide (z ∉ ps.map (·.1))
def sumM (ps qs : Ps) (z : Str) : Int := look ps z + look qs z
def cutT (room : Int) (ps qs : Ps) : Int := cutM room ((keysM ps qs).map (sumM ps qs))
def csM (room : Int) (ps qs : Ps) : Ps := ((srtS (keysM ps qs)).filter fun z => decide (cutT room ps qs < sumM ps qs z)).map fun z => (z, sumM ps qs z - cutT room ps qs)
def mergeT (a b : Ty) : Ty := ⟨a.room, csM a.room a.cs b.cs, a.lt + b.lt + cutT a.room a.cs b.cs, a.total + b.total⟩
theorem keysM_nd {ps qs : Ps} (h : (ps.map (·.1)).Nodup) (g : (qs.map (·.1)).Nodup) : (keysM ps qs).Nodup := by
  refine List.nodup_append.mpr ⟨h, g.sublist List.filter_sublist, fun a ha b hb e => ?_⟩
  subst e
  exact of_decide_eq_true (List.mem_filter.mp hb).2 ha
theorem keysM_mem {ps qs : Ps} {z : Str} : z ∈ keysM ps qs ↔ z ∈ ps.map (·.1) ∨ z ∈ qs.map (·.1) := by
  unfold keysM
  rw [List.mem_append, List.mem_filter]
  by_cases h : z ∈ ps.map (·.1)
  · exact ⟨fun _ => .inl h, fun _ => .inl h⟩
  · refine ⟨fun q => q.elim .inl fun q => .inr q.1, fun q => q.elim .inl fun q => .inr ⟨q, decide_eq_true h⟩⟩
theorem keysM_comm {ps qs : Ps} (h : (ps.map (·.1)).Nodup) (g : (qs.map (·.1)).Nodup) : (keysM ps qs).Perm (keysM qs ps) :=
  (List.perm_ext_iff_of_nodup (keysM_nd h g) (keysM_nd g h)).mpr fun z => by rw [keysM_mem, keysM_mem]; exact Or.comm
theorem look_nn {ps : Ps} (h : ∀ p ∈ ps, 1 ≤ p.2) (z : Str) : 0 ≤ look ps z := by
  induction ps with
  | nil => exact Int.le_refl _
  | cons p ps ih =>
    show 0 ≤ if p.1 = z then p.2 else look ps z
    have := h p List.mem_cons_self
    have := ih fun q hq => h q (List.mem_cons_of_mem _ hq)
    split <;> omega
theorem csM_keys (room : Int) (ps qs : Ps) : (csM room ps qs).map (·.1) = (srtS (keysM ps qs)).filter fun z => decide (cutT room ps qs < sumM ps qs z) := by
  unfold csM
  rw [List.map_map]
  exact List.map_id _
theorem csM_nd {room : Int} {ps qs : Ps} (h : (ps.map (·.1)).Nodup) (g : (qs.map (·.1)).Nodup) : ((csM room ps qs).map (·.1)).Nodup := by
  rw [csM_keys]
  exact ((srtS_perm _).nodup_iff.mpr (keysM_nd h g)).sublist List.filter_sublist
/-- each mark's count after merging -/
theorem look_csM {room : Int} {ps qs : Ps} (h : (ps.map (·.1)).Nodup) (g : (qs.map (·.1)).Nodup) (c0 : 0 ≤ cutT room ps qs) (z : Str) :
    look (csM room ps qs) z = if cutT room ps qs < sumM ps qs z then sumM ps qs z - cutT room ps qs else 0 := by
  by_cases hz : z ∈ (csM room ps qs).map (·.1)
  · have e := hz
    rw [csM_keys] at e
    obtain ⟨e1, e2⟩ := List.mem_filter.mp e
    rw [if_pos (of_decide_eq_true e2)]
    exact look_in (p := (z, sumM ps qs z - cutT room ps qs)) (csM_nd h g) (List.mem_map.mpr ⟨z, e, rfl⟩)
  · rw [look_out hz]
    split
    · rename_i lt
      refine absurd ?_ hz
      rw [csM_keys]
      refine List.mem_filter.mpr ⟨(srtS_perm _).mem_iff.mpr (keysM_mem.mpr ?_), decide_eq_true lt⟩
      by_cases h1 : z ∈ ps.map (·.1)
      · exact .inl h1
      · by_cases h2 : z ∈ qs.map (·.1)
        · exact .inr h2
        · have : sumM ps qs z = 0 := by unfold sumM; rw [look_out h1, look_out h2]; rfl
          omega
    · rfl
/-! ### sums cut -/
theorem sum_cut (c : Int) (hc : 0 ≤ c) : ∀ l : List Int, (∀ x ∈ l, 0 ≤ x) → c * (l.filter fun x => decide (c ≤ x)).length ≤ l.sum - ((l.filter fun x => decide (c < x)).map fun x => x - c).sum ∧ l.sum - ((l.filter fun x => decide (c < x)).map fun x => x - c).sum ≤ c * l.length
  | [], _ => by simp
  | a :: l, h => by
    obtain ⟨i1, i2⟩ := sum_cut c hc l fun x hx => h x (List.mem_cons_of_mem _ hx)
    have ha := h a List.mem_cons_self
    rw [List.filter_cons, List.filter_cons, List.sum_cons, List.length_cons]
    by_cases h1 : c < a
    · have h2 : c ≤ a := by omega
      simp only [h1, h2, decide_true, if_true, List.length_cons, List.map_cons, List.sum_cons, Int.natCast_add, Int.mul_add, Int.natCast_one, Int.mul_one]
      omega
    · by_cases h3 : c ≤ a
      · simp only [h1, h3, decide_true, decide_false, if_true, List.length_cons, Int.natCast_add, Int.mul_add, Int.natCast_one, Int.mul_one]
        simp
        omega
      · simp only [h1, h3, decide_false, Int.natCast_add, Int.mul_add, Int.natCast_one, Int.mul_one]
        simp
        omega
theorem sum_add (f g : Str → Int) : ∀ l : List Str, (l.map fun z => f z + g z).sum = (l.map f).sum + (l.map g).sum
  | [] => rfl
  | a :: l => by
    rw [List.map_cons, List.map_cons, List.map_cons, List.sum_cons, List.sum_cons, List.sum_cons, sum_add f g l]
    omega
theorem sum_zero (f : Str → Int) : ∀ l : List Str, (∀ z ∈ l, f z = 0) → (l.map f).sum = 0
  | [], _ => rfl
  | a :: l, h => by
    rw [List.map_cons, List.sum_cons, h a List.mem_cons_self, sum_zero f l fun z hz => h z (List.mem_cons_of_mem _ hz)]
    rfl
theorem keys_look {ps : Ps} (h : (ps.map (·.1)).Nodup) : (ps.map (·.1)).map (look ps) = nsOf ps := by
  have e := congrArg (List.map Prod.snd) (map_look h)
  rw [List.map_map] at e
  exact e
theorem keysM_sum1 {ps qs : Ps} (h : (ps.map (·.1)).Nodup) : ((keysM ps qs).map (look ps)).sum = (nsOf ps).sum := by
  unfold keysM
  rw [List.map_append, List.sum_append, keys_look h, sum_zero (look ps) _ fun z hz => look_out (of_decide_eq_true (List.mem_filter.mp hz).2)]
  omega
theorem keysM_sum {ps qs : Ps} (h : (ps.map (·.1)).Nodup) (g : (qs.map (·.1)).Nodup) : ((keysM ps qs).map (sumM ps qs)).sum = (nsOf ps).sum + (nsOf qs).sum := by
  show ((keysM ps qs).map fun z => look ps z + look qs z).sum = _
  rw [sum_add, keysM_sum1 h, perm_sum ((keysM_comm h g).map (look qs)), keysM_sum1 g]
theorem keysM_len (ps qs : Ps) : (keysM ps qs).length ≤ ps.length + qs.length := by
  unfold keysM
  rw [List.length_append, List.length_map]
  have := List.length_filter_le (fun z => decide (z ∉ ps.map (·.1))) (qs.map (·.1))
  rw [List.length_map] at this
  omega
theorem cutM_nn {room : Int} {ns : List Int} (h0 : 0 ≤ room) (h : ∀ x ∈ ns, 0 ≤ x) : 0 ≤ cutM room ns := by
  by_cases q : (ns.length : Int) ≤ room
  · unfold cutM
    rw [if_pos q]
    exact Int.le_refl _
  · obtain ⟨c, _, e, m, _⟩ := cut_right h0 (Int.not_le.mp q)
    rw [e]
    exact h c m
theorem sumM_nn {a b : Ty} (h : a.Ok) (g : b.Ok) (z : Str) : 0 ≤ sumM a.cs b.cs z := Int.add_nonneg (look_nn h.pos z) (look_nn g.pos z)
theorem cutT_nn {a b : Ty} (h : a.Ok) (g : b.Ok) : 0 ≤ cutT a.room a.cs b.cs := by
  have := h.room1
  refine cutM_nn (by omega) fun x hx => ?_
  obtain ⟨z, _, rfl⟩ := List.mem_map.mp hx
  exact sumM_nn h g z
theorem filter_map_len (f : Str → Int) (p : Int → Bool) : ∀ l : List Str, ((l.map f).filter p).length = (l.filter fun z => p (f z)).length := fun l => by
  rw [List.filter_map, List.length_map]
  rfl
theorem csM_len {a b : Ty} (h : a.Ok) (g : b.Ok) : ((csM a.room a.cs b.cs).length : Int) ≤ a.room := by
  have h0 := h.room1
  unfold csM
  rw [List.length_map, ((srtS_perm (keysM a.cs b.cs)).filter _).length_eq]
  have e := filter_map_len (sumM a.cs b.cs) (fun x => decide (cutT a.room a.cs b.cs < x)) (keysM a.cs b.cs)
  by_cases q : (((keysM a.cs b.cs).map (sumM a.cs b.cs)).length : Int) ≤ a.room
  · have := List.length_filter_le (fun z => decide (cutT a.room a.cs b.cs < sumM a.cs b.cs z)) (keysM a.cs b.cs)
    rw [List.length_map] at q
    omega
  · obtain ⟨c, _, e2, _, le, _⟩ := cut_right (show 0 ≤ a.room by omega) (Int.not_le.mp q)
    have e3 : cutT a.room a.cs b.cs = c := e2
    rw [e3] at e ⊢
    omega
theorem csM_sum (room : Int) (ps qs : Ps) : (nsOf (csM room ps qs)).sum = ((((keysM ps qs).map (sumM ps qs)).filter fun x => decide (cutT room ps qs < x)).map fun x => x - cutT room ps qs).sum := by
  unfold nsOf csM
  rw [List.map_map, perm_sum (((srtS_perm (keysM ps qs)).filter _).map _), List.filter_map, List.map_map]
  rfl
/-- what comes of two tallies is one -/
theorem mergeT_ok {a b : Ty} (h : a.Ok) (g : b.Ok) (r : a.room = b.room) : (mergeT a b).Ok := by
  have h0 := h.room1
  have c0 := cutT_nn h g
  have l1 := h.len
  have l2 := g.len
  refine ⟨h.room1, h.room2, csM_nd h.nd g.nd, ?_, fun p hp => ?_, fun p hp => ?_, csM_len h g, ?_, ?_, ?_⟩
  · show ((csM a.room a.cs b.cs).map (·.1)).Pairwise _
    rw [csM_keys]
    exact (srtS_pw _).sublist List.filter_sublist
  · have e : p.1 ∈ (csM a.room a.cs b.cs).map (·.1) := List.mem_map.mpr ⟨p, hp, rfl⟩
    rw [csM_keys] at e
    rcases keysM_mem.mp ((srtS_perm _).mem_iff.mp (List.mem_filter.mp e).1) with q | q
    · obtain ⟨x, hx, e⟩ := List.mem_map.mp q
      rw [← e]
      exact h.word x hx
    · obtain ⟨x, hx, e⟩ := List.mem_map.mp q
      rw [← e]
      exact g.word x hx
  · obtain ⟨z, hz, rfl⟩ := List.mem_map.mp (show p ∈ csM a.room a.cs b.cs from hp)
    have := of_decide_eq_true (List.mem_filter.mp hz).2
    show 1 ≤ sumM a.cs b.cs z - cutT a.room a.cs b.cs
    omega
  · have := h.lt0
    have := g.lt0
    show 0 ≤ a.lt + b.lt + cutT a.room a.cs b.cs
    omega
  all_goals
    have S := keysM_sum h.nd g.nd
    have T := csM_sum a.room a.cs b.cs
    have C := sum_cut (cutT a.room a.cs b.cs) c0 ((keysM a.cs b.cs).map (sumM a.cs b.cs)) fun x hx => by
      obtain ⟨z, _, rfl⟩ := List.mem_map.mp hx
      exact sumM_nn h g z
    rw [← T, S] at C
    have kl := keysM_len a.cs b.cs
    have lo1 := h.lo
    have lo2 := g.lo
    have hi1 := h.hi
    have hi2 := g.hi
    unfold Ty.sum at lo1 lo2 hi1 hi2
    rw [← r] at lo2 hi2 l2
  · show (a.room + 1) * (a.lt + b.lt + cutT a.room a.cs b.cs) ≤ a.total + b.total - (nsOf (csM a.room a.cs b.cs)).sum
    have m : (a.room + 1) * cutT a.room a.cs b.cs ≤ (nsOf a.cs).sum + (nsOf b.cs).sum - (nsOf (csM a.room a.cs b.cs)).sum := by
      refine Int.le_trans ?_ C.1
      by_cases q : (((keysM a.cs b.cs).map (sumM a.cs b.cs)).length : Int) ≤ a.room
      · have e : cutT a.room a.cs b.cs = 0 := if_pos q
        rw [e]
        omega
      · obtain ⟨c, _, e2, _, _, le⟩ := cut_right (show 0 ≤ a.room by omega) (Int.not_le.mp q)
        have e3 : cutT a.room a.cs b.cs = c := e2
        rw [← e3] at le
        rw [Int.mul_comm]
        refine Int.mul_le_mul_of_nonneg_left ?_ c0
        rw [split_count]
        omega
    rw [Int.mul_add, Int.mul_add]
    omega
  · show a.total + b.total - (nsOf (csM a.room a.cs b.cs)).sum ≤ 2 * a.room * (a.lt + b.lt + cutT a.room a.cs b.cs)
    have m : (nsOf a.cs).sum + (nsOf b.cs).sum - (nsOf (csM a.room a.cs b.cs)).sum ≤ 2 * a.room * cutT a.room a.cs b.cs := by
      refine Int.le_trans C.2 ?_
      rw [Int.mul_comm]
      refine Int.mul_le_mul_of_nonneg_right ?_ c0
      rw [List.length_map]
      omega
    rw [Int.mul_add, Int.mul_add]
    omega
/-- what a tally tells of a mark holds after merging, too -/
theorem mergeT_bounds {a b : Ty} (h : a.Ok) (g : b.Ok) {z : Str} {n m : Int} (ha : look a.cs z ≤ n ∧ n ≤ look a.cs z + a.lt) (hb : look b.cs z ≤ m ∧ m ≤ look b.cs z + b.lt) : look (mergeT a b).cs z ≤ n + m ∧ n + m ≤ look (mergeT a b).cs z + (mergeT a b).lt := by
  have c0 := cutT_nn h g
  have n1 := look_nn h.pos z
  have n2 := look_nn g.pos z
  show look (csM a.room a.cs b.cs) z ≤ n + m ∧ n + m ≤ look (csM a.room a.cs b.cs) z + (a.lt + b.lt + cutT a.room a.cs b.cs)
  rw [look_csM h.nd g.nd c0]
  have e : sumM a.cs b.cs z = look a.cs z + look b.cs z := rfl
  split <;> omega
end L2

namespace L2
open PySem PySem.Spec PyProof.Rows
/-! ### a comprehension's own name that is a local one's, too -/
def Cx.ren (X : Cx) (N' : List Str) : Cx := { X with N := N' }
theorem Cx.Ok.ren {X : Cx} {N' : List Str} (o : X.Ok) : (X.ren N').Ok := ⟨o.mod, o.kind, o.glob, o.blt, o.above, o.inj, o.has, o.cab, o.hd, o.frames, o.stk, o.exf, o.bs, o.bsz, o.noex, o.exfs, o.funs, o.frf⟩
theorem Cx.Ok.unren {X : Cx} {N' : List Str} (o : (X.ren N').Ok) : X.Ok := ⟨o.mod, o.kind, o.glob, o.blt, o.above, o.inj, o.has, o.cab, o.hd, o.frames, o.stk, o.exf, o.bs, o.bsz, o.noex, o.exfs, o.funs, o.frf⟩
/-- where the names differ nothing is known -/
def Hid : List Str → List Str → St → Prop
  | [], [], [] => True
  | a :: N, b :: N', o :: σ => (a = b ∨ o = none) ∧ Hid N N' σ
  | _, _, _ => False
theorem Hid.at : ∀ {N N' : List Str} {σ : St}, Hid N N' σ → ∀ i : Nat, N[i]? = N'[i]? ∨ σ[i]? = some none
  | [], [], [], _, i => .inl rfl
  | a :: N, b :: N', o :: σ, h, 0 => by
    rcases h.1 with q | q
    · exact .inl (by rw [q]; rfl)
    · exact .inr (by rw [q]; rfl)
  | a :: N, b :: N', o :: σ, h, i + 1 => by
    simpa using Hid.at (N := N) (N' := N') (σ := σ) h.2 i
section
variable {X : Cx} {N' : List Str} {pins : List (Addr × Obj)} {σ : St} {H : Hp} {s : Shared}
theorem Inv.ren (I : Inv X pins σ H s) (hl : N'.length = X.N.length) (h : Hid X.N N' σ) : Inv (X.ren N') pins σ H s := by
  refine ⟨I.ok.ren, I.os, I.bare, I.base, ?_, I.cell, I.free, I.freeC, I.pin, I.hok, I.len.trans hl.symm⟩
  obtain ⟨m, hn, hm⟩ := I.loc
  refine ⟨m, hn, fun i x v e1 e2 e3 => hm i x v ?_ e2 e3⟩
  rcases h.at i with q | q
  · exact q.trans e1
  · rw [e2] at q; cases q
theorem Inv.unren (I : Inv (X.ren N') pins σ H s) (hl : N'.length = X.N.length) (h : Hid X.N N' σ) : Inv X pins σ H s := by
  refine ⟨I.ok.unren, I.os, I.bare, I.base, ?_, I.cell, I.free, I.freeC, I.pin, I.hok, I.len.trans hl⟩
  obtain ⟨m, hn, hm⟩ := I.loc
  refine ⟨m, hn, fun i x v e1 e2 e3 => hm i x v ?_ e2 e3⟩
  rcases h.at i with q | q
  · exact q.symm.trans e1
  · rw [e2] at q; cases q
def tRen (N N' : List Str) (t : TE) : TE := fun σ H Q => Hid N N' σ ∧ t σ H Q
theorem pe_ren {e : Expr} {t : TE} (N' : List Str) (h : PE (X.ren N') e t) (hl : N'.length = X.N.length := by rfl) : PE X e (tRen X.N N' t) := by
  intro pins s σ H Q I q
  exact thn (h pins s σ H Q (I.ren hl q.1) q.2) fun u s1 ⟨x, H1, I1, r1, q1⟩ => ⟨x, H1, I1.unren hl q.1, r1, q1⟩
theorem Inv.forget (I : Inv X pins σ H s) (i : Nat) : Inv X pins (σ.set i none) H s := by
  refine ⟨I.ok, I.os, I.bare, I.base, ?_, I.cell, I.free, I.freeC, I.pin, I.hok, by rw [List.length_set]; exact I.len⟩
  obtain ⟨m, hn, hm⟩ := I.loc
  refine ⟨m, hn, fun j x v e1 e2 e3 => hm j x v e1 ?_ e3⟩
  by_cases e : i = j
  · subst e
    rw [List.getElem?_set_self'] at e2
    cases q : σ[i]? with
    | none => rw [q] at e2; cases e2
    | some o => rw [q] at e2; cases e2
  · rw [List.getElem?_set_ne e] at e2
    exact e2
def tForget (i : Nat) (t : TS) : TS := fun D σ H => t D (σ.set i none) H
theorem pss_forget {ss : List Stmt} {t : TS} (i : Nat) (h : PSs X ss t) : PSs X ss (tForget i t) := by
  intro pins s σ H D I q
  exact h pins s _ H D (I.forget i) q
end
end L2

namespace L2
open PySem PySem.Spec PyProof.Rows
/-! ### the dict of sums as it is filled -/
theorem valV_no {kvs : List (Key × V)} {k : Key} (h : ∀ q ∈ kvs, q.1 ≠ k) : valV kvs k = none := by
  unfold valV
  rw [List.find?_eq_none.mpr fun q hq => by simpa using h q hq]
  rfl
def mrgP (ps qs : Ps) : Ps := (keysM ps qs).map fun z => (z, sumM ps qs z)
theorem mrgP_keys (ps qs : Ps) : (mrgP ps qs).map (·.1) = keysM ps qs := by
  unfold mrgP
  rw [List.map_map]
  exact List.map_id _
theorem mrgP_ns (ps qs : Ps) : nsOf (mrgP ps qs) = (keysM ps qs).map (sumM ps qs) := by
  unfold nsOf mrgP
  rw [List.map_map]
  rfl
theorem mrgP_nil {ps : Ps} (h : (ps.map (·.1)).Nodup) : mrgP ps [] = ps := by
  have e : keysM ps [] = ps.map (·.1) := List.append_nil _
  have e2 : (fun z => (z, sumM ps [] z)) = fun z => (z, look ps z) := by
    funext z
    show (z, look ps z + 0) = _
    rw [Int.add_zero]
  unfold mrgP
  rw [e, e2]
  exact map_look h
theorem val_mrgP {ps qs : Ps} (h : (ps.map (·.1)).Nodup) (g : (qs.map (·.1)).Nodup) (z : Str) : ((valV (kvOf (mrgP ps qs)) (Sum.inr z)).getD (.int 0)) = .int (sumM ps qs z) := by
  by_cases hz : z ∈ keysM ps qs
  · obtain ⟨i, hi⟩ := List.mem_iff_getElem?.mp hz
    have e : (mrgP ps qs)[i]? = some (z, sumM ps qs z) := by unfold mrgP; rw [List.getElem?_map, hi]; rfl
    rw [val_ps (by rw [mrgP_keys]; exact keysM_nd h g) e]
    rfl
  · have e : valV (kvOf (mrgP ps qs)) (Sum.inr z) = none := by
      refine valV_no fun q hq => ?_
      unfold kvOf at hq
      obtain ⟨p, hp, rfl⟩ := List.mem_map.mp hq
      intro e
      have : p.1 ∈ keysM ps qs := by rw [← mrgP_keys]; exact List.mem_map.mpr ⟨p, hp, rfl⟩
      have e' : p.1 = z := Sum.inr.inj e
      exact hz (e' ▸ this)
    rw [e]
    have n1 : z ∉ ps.map (·.1) := fun q => hz (keysM_mem.mpr (.inl q))
    have n2 : z ∉ qs.map (·.1) := fun q => hz (keysM_mem.mpr (.inr q))
    show V.int 0 = .int (look ps z + look qs z)
    rw [look_out n1, look_out n2]
    rfl
theorem put_mrgP {ps qs : Ps} (h : (ps.map (·.1)).Nodup) {p : Str × Int} (g : ((qs ++ [p]).map (·.1)).Nodup) : putK (kvOf (mrgP ps qs)) (Sum.inr p.1) (.int (sumM ps qs p.1 + p.2)) = kvOf (mrgP ps (qs ++ [p])) := by
  rw [List.map_append] at g
  have out : p.1 ∉ qs.map (·.1) := fun q => (List.nodup_append.mp g).2.2 _ q _ (List.mem_singleton.mpr rfl) rfl
  have lk : ∀ y, sumM ps (qs ++ [p]) y = if p.1 = y then sumM ps qs y + p.2 else sumM ps qs y := fun y => by
    show look ps y + look (qs ++ [p]) y = if p.1 = y then look ps y + look qs y + p.2 else look ps y + look qs y
    rw [look_app]
    show look ps y + (if y ∈ qs.map (·.1) then look qs y else if p.1 = y then p.2 else 0) = _
    by_cases e : p.1 = y
    · subst e
      rw [if_neg out, if_pos rfl, if_pos rfl, look_out out]
      omega
    · rw [if_neg e, if_neg e]
      by_cases m : y ∈ qs.map (·.1)
      · rw [if_pos m]
      · rw [if_neg m, look_out m]
  have ks : keysM ps (qs ++ [p]) = if p.1 ∈ ps.map (·.1) then keysM ps qs else keysM ps qs ++ [p.1] := by
    unfold keysM
    rw [List.map_append, List.filter_append]
    by_cases m : p.1 ∈ ps.map (·.1)
    · rw [if_pos m]
      show _ ++ (_ ++ List.filter _ [p.1]) = _
      rw [List.filter_cons_of_neg (by simpa using m), List.filter_nil, List.append_nil]
    · rw [if_neg m]
      show _ ++ (_ ++ List.filter _ [p.1]) = _
      rw [List.filter_cons_of_pos (by simpa using m), List.filter_nil, List.append_assoc]
  unfold putK mrgP kvOf
  rw [ks]
  by_cases m : p.1 ∈ ps.map (·.1)
  · rw [if_pos m, if_pos ?_]
    · rw [List.map_map, List.map_map, List.map_map]
      refine List.map_congr_left fun y hy => ?_
      show (if _ then _ else _) = (Sum.inr y, V.int (sumM ps (qs ++ [p]) y))
      rw [lk]
      by_cases e : p.1 = y
      · subst e
        simp
      · have e' : ¬ y = p.1 := fun q => e q.symm
        simp [e, e']
    · exact List.any_eq_true.mpr ⟨(Sum.inr p.1, .int (sumM ps qs p.1)), List.mem_map.mpr ⟨(p.1, sumM ps qs p.1), List.mem_map.mpr ⟨p.1, keysM_mem.mpr (.inl m), rfl⟩, rfl⟩, decide_eq_true rfl⟩
  · have nk : p.1 ∉ keysM ps qs := fun q => (keysM_mem.mp q).elim m out
    rw [if_neg m, if_neg ?_]
    · rw [List.map_append, List.map_append, List.map_map, List.map_map]
      refine congr (congrArg _ (List.map_congr_left fun y hy => ?_)) ?_
      · show (Sum.inr y, V.int (sumM ps qs y)) = (Sum.inr y, V.int (sumM ps (qs ++ [p]) y))
        rw [lk, if_neg (fun (q : p.1 = y) => nk (by rw [q]; exact hy))]
      · show [_] = [(Sum.inr p.1, V.int (sumM ps (qs ++ [p]) p.1))]
        rw [lk, if_pos rfl]
    · intro q
      obtain ⟨kv, hkv, e⟩ := List.any_eq_true.mp q
      obtain ⟨x, hx, rfl⟩ := List.mem_map.mp hkv
      obtain ⟨y, hy, rfl⟩ := List.mem_map.mp hx
      have e : (Sum.inr y : Key) = Sum.inr p.1 := of_decide_eq_true e
      exact nk (Sum.inr.inj e ▸ hy)
end L2

namespace L2
open PySem PySem.Spec PyProof.Rows
/-! ### an exception on its way -/
theorem mem_frs {l : List Env} {env : Env} {b : Addr} (h : env ∈ l) (e : env.frame = some b) : b ∈ frs l := List.mem_filterMap.mpr ⟨env, h, e⟩
/-- the frames that it has still to leave; its address, its newest entry, its class -/
structure Fly (l : List Env) (a T : Addr) (cls : Value) (h : Heap) : Prop where
  fr : ∃ B, h.FunFrames B l
  ne : T ≠ a
  ex : ∃ oe vs oT ts a0, h.get? a = some oe ∧ (oe.cls = cls ∧ vs[0]? = some a0) ∧ oe.data = .fields vs ∧ vs[1]? = some (.ref T) ∧ h.get? T = some oT ∧ oT.data = .fields ts ∧ ts[3]? = some .none
/-- all but the exception, its entry and the frames is kept; of the frames the slots may change -/
structure Kp (l : List Env) (a T : Addr) (h h' : Heap) : Prop where
  keep : ∀ b o, h.get? b = some o → b ≠ a → b ≠ T → b ∉ frs l → h'.get? b = some o
  slot : ∀ b o, h.get? b = some o → b ∈ frs l → ∃ sl, h'.get? b = some { o with slots := sl }
theorem Kp.trans {l : List Env} {a T T1 : Addr} {h h1 h2 : Heap} (x : Kp l a T h h1) (y : Kp l a T1 h1 h2) (f : ∀ b o, h.get? b = some o → b = T1 → b = T) : Kp l a T h h2 where
  keep := fun b o e n1 n2 n3 => y.keep b o (x.keep b o e n1 n2 n3) n1 (fun z => n2 (f b o e z)) n3
  slot := fun b o e n => by
    obtain ⟨sl, e1⟩ := x.slot b o e n
    obtain ⟨sl', e2⟩ := y.slot b _ e1 n
    exact ⟨sl', e2⟩
abbrev fb (l : List Env) (a T : Addr) (h : Heap) : Heap := PySem.W.hideAll h (a :: T :: frs l)
theorem fb_get {l : List Env} {a T : Addr} {h : Heap} {b : Addr} {o : Obj} (e : h.get? b = some o) (n1 : b ≠ a) (n2 : b ≠ T) (n3 : b ∉ frs l) : (fb l a T h).get? b = some o :=
  PySem.W.hideAll_get _ e fun z => by
    rcases List.mem_cons.mp z with z | z
    · exact n1 z
    rcases List.mem_cons.mp z with z | z
    · exact n2 z
    · exact n3 z
theorem Fly.w {l : List Env} {a T : Addr} {cls : Value} {h : Heap} (F : Fly l a T cls h) : ∃ a0, Heap.FlyingW (fb l a T h) l a cls a0 h := by
  obtain ⟨B, fr⟩ := F.fr
  obtain ⟨oe, vs, oT, ts, a0, e1, e2, e3, e4, e5, e6, e7⟩ := F.ex
  refine ⟨a0, fun b o q => PySem.W.of_hideAll _ q, PySem.W.hideAll_none _ (.head _), PySem.W.funFrames_hide fr fun env he b hb => .tail _ (.tail _ (mem_frs he hb)), oe, vs, T, oT, ts, e1, e2, e3, e4, PySem.W.hideAll_none _ (.tail _ (.head _)), F.ne, e5, e6, e7⟩
theorem kp_of {l : List Env} {a T : Addr} {h h' : Heap} {B : Heap} (fr : h.FunFrames B l) (st : (fb l a T h).StaysIn h') (up : h.UpToSlots h') : Kp l a T h h' where
  keep := fun b o e n1 n2 n3 => st b o (fb_get e n1 n2 n3)
  slot := fun b o e n => by
    obtain ⟨_, o', e', nf⟩ := fr.mem n
    rw [e] at e'
    cases e'
    exact up b o e nf
/-- where the newest entry is from -/
theorem entry_from {l : List Env} {a T T' : Addr} {h h' B : Heap} {oT : Obj} {ts : Array Value} (fr : h.FunFrames B l) (up : h.UpToSlots h') (n : (fb l a T h).get? T' = none) (ne : T' ≠ a) (e : h'.get? T' = some oT) (d : oT.data = .fields ts) :
    h.get? T' = none ∨ T' = T := by
  cases q : h.get? T' with
  | none => exact .inl rfl
  | some o =>
    by_cases z : T' = T
    · exact .inr z
    · by_cases f : T' ∈ frs l
      · obtain ⟨_, o', e', nf⟩ := fr.mem f
        rw [q] at e'
        cases e'
        obtain ⟨sl, e2⟩ := up T' o q nf
        rw [e] at e2
        cases e2
        exact absurd d (nf ts)
      · rw [fb_get q ne z f] at n
        cases n
section
variable {M : Model} {A : Around} {E : Value → Shared → Prop} {s : Shared} {env : Env} {outer : List Env} {L a T : Addr} {cls : Value} {Q : Unit → Shared → Prop}
/-- it leaves the frame in which it was made -/
theorem leave_new {h : Heap} {args : List Value} {B : Heap} (hfr : A.frames = some (env :: outer)) (hf : env.frame = some L) (fr : h.FunFrames B (env :: outer)) (hx : Heap.MadeExcOf h s.heap a cls args)
    (hQ : ∀ h' T', Fly outer a T' cls h' → Kp (env :: outer) a a h h' → h.get? T' = none → Q () { s with heap := h' }) : wpAny M A (leaving env (.ref a)) Q E s := by
  have frh : h.FunFrames (fb (env :: outer) a a h) (env :: outer) := PySem.W.funFrames_hide fr fun env he b hb => .tail _ (.tail _ (mem_frs he hb))
  refine wpAny_leaves_madeW hfr hf (base := fb (env :: outer) a a h) (fun b o q => PySem.W.of_hideAll _ q) frh hx fun h' t W' _ _ up => ?_
  obtain ⟨st, _, ff, oe, vs, T', oT, ts, he, hc, hd, h1, hT, hne, hT', hdT, h3⟩ := W'
  have up' : h.UpToSlots h' := fun b o e n => up b o (hx.keeps b o e) n
  refine hQ h' T' ⟨⟨_, ff⟩, hne, oe, vs, oT, ts, _, he, hc, hd, h1, hT', hdT, h3⟩ (kp_of fr st up') ?_
  rcases entry_from fr up' hT hne hT' hdT with z | z
  · exact z
  · exact absurd z hne
/-- it is looked at in the frame of the try -/
theorem look_on (hfr : A.frames = some (env :: outer)) (hf : env.frame = some L) (F : Fly (env :: outer) a T cls s.heap)
    (hQ : ∀ h' T', Fly (env :: outer) a T' cls h' → Kp (env :: outer) a T s.heap h' → (s.heap.get? T' = none ∨ T' = T) → Q () { s with heap := h' }) :
    wpAny M A (noteFrame (.ref a) env) (fun _ s2 => wpAny M A (setFlight (.ref a) none) Q E s2) E s := by
  obtain ⟨a0, W⟩ := F.w
  obtain ⟨B, fr⟩ := F.fr
  refine wpAny_looks_onW hfr hf W fun h1 W1 up1 => ?_
  refine wpAny_landsW W1 fun h' W' up2 => ?_
  have up := up1.trans up2
  obtain ⟨st, _, ff, oe, vs, T', oT, ts, he, hc, hd, h1, hT, hne, hT', hdT, h3⟩ := W'
  exact hQ h' T' ⟨⟨_, ff⟩, hne, oe, vs, oT, ts, a0, he, hc, hd, h1, hT', hdT, h3⟩ (kp_of fr st up) (entry_from fr up hT hne hT' hdT)
/-- setFlight once more, in the handler -/
theorem land_again (F : Fly (env :: outer) a T cls s.heap)
    (hQ : ∀ h' T', Fly (env :: outer) a T' cls h' → Kp (env :: outer) a T s.heap h' → (s.heap.get? T' = none ∨ T' = T) → Q () { s with heap := h' }) : wpAny M A (setFlight (.ref a) none) Q E s := by
  obtain ⟨a0, st0, hn0, W⟩ := F.w
  obtain ⟨B, fr⟩ := F.fr
  refine wpAny_setFlight_noneW st0 W.1 W.2.at fun h' st ff tr k => ?_
  have up : s.heap.UpToSlots h' := fun b o hb hn => ⟨o.slots, k b o hb hn⟩
  obtain ⟨oe, vs, T', oT, ts, he, hc, hd, h1, hT, hne, hT', hdT, h3⟩ := tr
  exact hQ h' T' ⟨⟨_, ff⟩, hne, oe, vs, oT, ts, a0, he, hc, hd, h1, hT', hdT, h3⟩ (kp_of fr st up) (entry_from fr up hT hne hT' hdT)
end
theorem ObjOk.has {P : Program} {w : World} {H : Hp} {h : Heap} {a : Addr} {o : HO} (x : ObjOk P w H h a o) : ∃ ob, h.get? a = some ob := by
  cases o with
  | lst xs => obtain ⟨_, _, _, _, e⟩ := x; exact ⟨_, e⟩
  | tup xs => obtain ⟨_, _, _, _, e, _⟩ := x; exact ⟨_, e⟩
  | dK kvs => obtain ⟨_, _, _, _, o, _, _, e, _⟩ := x; exact ⟨_, e⟩
  | dT kvs => obtain ⟨_, _, _, _, o, _, _, e, _⟩ := x; exact ⟨_, e⟩
  | set S n => obtain ⟨o, _, _, _, e, _⟩ := x; exact ⟨_, e⟩
  | ins C dx fs => obtain ⟨_, _, _, e, _⟩ := x; exact ⟨_, e⟩
  | own y => obtain ⟨_, e⟩ := x; exact ⟨_, e⟩
  | xd fs => obtain ⟨_, ⟨_, _, _, e, _⟩, _⟩ := x; exact ⟨_, e⟩
  | rng lo hi => obtain ⟨_, _, _, e⟩ := x; exact ⟨_, e⟩
  | frz ob u => obtain ⟨e, _⟩ := x; exact ⟨_, e⟩
  | tbl ps => exact ⟨_, (show h.get? a = some _ from x)⟩
  | met f y => exact ⟨_, (show h.get? a = some _ from x)⟩
  | ext φ => obtain ⟨_, ⟨_, e⟩, _⟩ := x; exact ⟨_, e⟩
theorem HOk.no {P : Program} {w : World} {H : Hp} {h : Heap} {a : Addr} (x : HOk P w H h) (e : h.get? a = none) : H a = none := by
  cases q : H a with
  | none => rfl
  | some o =>
    obtain ⟨ob, z⟩ := (x a o q).has
    rw [e] at z
    cases z
theorem HOk.kp {P : Program} {w : World} {H : Hp} {h h' : Heap} {l : List Env} {a T : Addr} (x : HOk P w H h) (k : Kp l a T h h') (ha : H a = none) (hT : H T = none) (hl : ∀ b ∈ frs l, H b = none) : HOk P w H h' := fun b u e => by
  refine (x b u e).stay (fun c v hc q => ?_) (fun _ q => q) fun _ _ q => q
  have nn : H c ≠ none := by
    rcases hc with z | z
    · rw [z, e]; exact fun q => nomatch q
    · rw [z]; exact fun q => nomatch q
  exact k.keep c v q (fun z => nn (z ▸ ha)) (fun z => nn (z ▸ hT)) fun z => nn (hl c z)
end L2

namespace L2
open PySem PySem.Spec PyProof.Rows
/-- how an exception lies behind a call -/
def CX1 (P : Program) (w : World) : CXT := fun outer H s E e s' => ∃ (a T C : Addr) (H' : Hp), e = .ref a ∧ s'.os = s.os ∧ AllBare s'.gens ∧ Un (frs outer) [] H H' s.heap s'.heap ∧ HOk P w H' s'.heap ∧
  Fly outer a T (.ref C) s'.heap ∧ s.heap.get? a = none ∧ s.heap.get? T = none ∧ H' a = none ∧ H' T = none ∧ E (.ref C) none H'
section
variable {P : Program} {w : World} {K : PySem.W.Frag} {mg : Str → Option Value} {base : Heap} {N : List Str} {qual : Str} {scope : Scope} {f : Addr} {cd : Value} {A : Around} {outer : List Env} {s : Shared} {H : Hp} {E : XK}
abbrev cx1 (P : Program) (w : World) (K : PySem.W.Frag) (mg : Str → Option Value) (base : Heap) (N : List Str) (qual : Str) (scope : Scope) (f : Addr) (cd : Value) (A : Around) (outer : List Env) (s : Shared) (H : Hp) (E : XK) : Cx := cxOf (CX1 P w) P w K mg base N qual scope f cd A outer s H E
/-- a def's frame is left -/
theorem left_fin {pins : List (Addr × Obj)} {σ : St} {H' : Hp} {s' : Shared} {h' : Heap} {a T T' C : Addr} (I : Inv (cx1 P w K mg base N qual scope f cd A outer s H E) pins σ H' s')
    (kp : Kp (cx1 P w K mg base N qual scope f cd A outer s H E).stack a T s'.heap h') (F : Fly outer a T' (.ref C) h') (na : s.heap.get? a = none) (nT : s.heap.get? T = none) (ha : H' a = none) (hT : H' T = none)
    (hT' : s'.heap.get? T' = none ∨ T' = T) (q : E (.ref C) none H') : CX1 P w outer H s E (.ref a) { s' with heap := h' } := by
  have B := I.base
  have nex : ∀ b, b ∉ (cx1 P w K mg base N qual scope f cd A outer s H E).ex := fun b z => absurd (show b ∈ ([] : List Addr) from z) (by simp)
  have n1 : ∀ b o, s.heap.get? b = some o → b ≠ a := fun b o e z => by rw [z, na] at e; cases e
  have n2 : ∀ b o, s.heap.get? b = some o → b ≠ T := fun b o e z => by rw [z, nT] at e; cases e
  have n3 : ∀ b o, s.heap.get? b = some o → b ∉ frs outer → b ∉ frs (cx1 P w K mg base N qual scope f cd A outer s H E).stack := fun b o e nf z => by
    rcases List.mem_cons.mp (I.stkSub b z) with y | y
    · exact absurd (Nat.lt_of_lt_of_le (Heap.lt_size e) I.ok.above) (by rw [y]; exact Nat.lt_irrefl _)
    · exact nf y
  have sub : ∀ b, b ∈ frs outer → b ∈ frs (cx1 P w K mg base N qual scope f cd A outer s H E).stack := fun b z => by
    obtain ⟨env, he, e⟩ := List.mem_filterMap.mp z
    exact List.mem_filterMap.mpr ⟨env, .tail _ he, e⟩
  have gone : ∀ b, s'.heap.get? b = none → s.heap.get? b = none := fun b e => by
    cases z : s.heap.get? b with
    | none => rfl
    | some o =>
      obtain ⟨o', e'⟩ := B.there b o z (nex b)
      rw [e] at e'
      cases e'
  refine ⟨a, T', C, H', rfl, I.os, I.bare, ⟨fun b o e n hb hx => ?_, fun b o e n hb hx => ?_, fun b o e n hx => B.free b o e n (nex b), fun b o e hx => ?_, B.tups, B.frzs, B.tbls⟩, I.hok.kp kp ha hT I.stkFree, F, na, ?_, ha, ?_, q⟩
  · exact kp.keep b o (B.keep b o e n hb (nex b)) (n1 b o e) (n2 b o e) (n3 b o e hb)
  · obtain ⟨sl, e1⟩ := B.slot b o e n hb (nex b)
    obtain ⟨sl', e2⟩ := kp.slot b _ e1 (sub b hb)
    exact ⟨sl', e2⟩
  · obtain ⟨o', e1⟩ := B.there b o e (nex b)
    by_cases hb : b ∈ frs outer
    · obtain ⟨sl', e2⟩ := kp.slot b _ e1 (sub b hb)
      exact ⟨_, e2⟩
    · exact ⟨_, kp.keep b o' e1 (n1 b o e) (n2 b o e) (n3 b o e hb)⟩
  · rcases hT' with z | z
    · exact gone T' z
    · rw [z]; exact nT
  · rcases hT' with z | z
    · exact I.hok.no z
    · rw [z]; exact hT
theorem Inv.past {X : Cx} {pins : List (Addr × Obj)} {σ : St} {H H' : Hp} {s s' : Shared} (I : Inv X pins σ H s) (os : s'.os = s.os) (bare : AllBare s'.gens) (un : Un (frs X.stack) [] H H' s.heap s'.heap) (hok : HOk X.prog X.w H' s'.heap) : Inv X pins σ H' s' :=
  I.call' (ch := []) os un hok bare (fun b z => absurd z (by simp))
theorem Inv.gone {X : Cx} {pins : List (Addr × Obj)} {σ : St} {H : Hp} {s : Shared} (I : Inv X pins σ H s) (hx : X.ex = []) {b : Addr} (e : s.heap.get? b = none) : X.s₀.heap.get? b = none := by
  cases z : X.s₀.heap.get? b with
  | none => rfl
  | some o =>
    obtain ⟨o', e'⟩ := I.base.there b o z (by rw [hx]; simp)
    rw [e] at e'
    cases e'
/-- raise C(..), C an own class of exceptions -/
def tRaise (C : Addr) (E : XK) (ta : TA) : TS := fun _ σ H => ta σ H fun vs H1 => vs.length ≤ 1000 ∧ E (.ref C) none H1
theorem ps_raise {x : Str} {C : Addr} {bm : List Value} {B newId initId : String} {np cpos pos : Pos} {e₀ : Expr} {rest : List Expr} {ta : TA} (O : OwnCls x C bm newId mg base) (FB : ExcBaseFacts B newId initId bm)
    (ha : PA (cx1 P w K mg base N qual scope f cd A outer s H E) (e₀ :: rest) ta) (hg : Gl (cx1 P w K mg base N qual scope f cd A outer s H E) x := by rfl)
    (he : starEach (e₀ :: rest) (cx1 P w K mg base N qual scope f cd A outer s H E).env = (false, eval e₀ (cx1 P w K mg base N qual scope f cd A outer s H E).env) :: starEach rest (cx1 P w K mg base N qual scope f cd A outer s H E).env := by rfl)
    (hplain : (backTo cpos (starEach rest (cx1 P w K mg base N qual scope f cd A outer s H E).env)).any (·.1) = false := by rfl) (hd : (x == ("__debug__" : Str)) = false := by decide) :
    PS (cx1 P w K mg base N qual scope f cd A outer s H E) (.Raise (some (.Call (.Name x np) (e₀ :: rest) [] cpos)) none pos) (tRaise C E ta) := by
  intro pins s1 σ H1 D I h
  obtain ⟨tl, N', nm, q, bs, hdct, sn, sub, ab, col, dd, k0, k1, k2, k3, k5, mN, hC, hN, hni, T⟩ := O.obj
  refine wpAny_Raise_call_subT (C := C) (nm := nm) (q := q) (N := N') (bs := bs) (bm := tl) (hdct := hdct) (sn := sn) (sub := sub) (ab := ab) (col := col) (dd := dd) (k0 := k0) (k1 := k1) (k2 := k2) (k3 := k3) (k5 := k5)
    FB (mN := mN) (T.hasType FB.hasBase) (I.ok.hd rfl) (by rw [he]; show (false || (backTo cpos (starEach rest (cx1 P w K mg base N qual scope f cd A outer s H E).env)).any (·.1)) = false; rw [hplain]; rfl) hni (ld_glob I hg O.bound ⟨rfl, ?_⟩ hd)
  rw [he]
  refine Calls.evalArgs_plain ?_
  have hh := ha cpos pins s1 σ H1 _ I h
  rw [he] at hh
  refine thn hh fun us s2 ⟨vs, H2, I2, r, hl, q⟩ => ?_
  refine ⟨rfl, ?_, I2.bk _ _ hC, hN.keeps I2.bk, T.keeps I2.bk, fun h' e hx => ?_⟩
  · rw [← r.length]
    exact Nat.le_trans hl (by decide)
  · show wpAny (model P w) _ (leaving _ (.ref e)) _ _ { s2 with heap := h' }
    refine leave_new (env := envOfC qual scope s.heap.objs.size f cd) (outer := outer) I2.ok.frames rfl (h := s2.heap) (B := base) I2.stack hx fun h'' T' F' kp hT' => ?_
    have I3 : Inv (cx1 P w K mg base N qual scope f cd A outer s H E) pins σ H2 s2 := I2
    have z := left_fin (T := e) I3 kp F' (I2.gone rfl hx.new) (I2.gone rfl hx.new) (I2.hok.no hx.new) (I2.hok.no hx.new) (.inl hT') q
    exact z
/-- a def that may raise -/
theorem Fun.okX {x qual : Str} {st : Stmt} {f : Addr} {fd : FuncData} {N ps : List Str} {k : Nat} {sp : Sp} (F : Fun K x qual st f fd) (S : FnScope N ps (defScope st)) (len : ∀ vs H Q E, sp vs H Q E → vs.length = ps.length)
    (hbody : ∀ (cdv : Value) (A : Around) (outer : List Env) (s : Shared) (H : Hp) (vs : List V) (Q : VK) (E : XK), Room k (A.deeper (envOfC qual (defScope st) s.heap.objs.size f cdv)) → sp vs H Q E →
      ∃ t, PSs (cx1 P w K mg base N qual (defScope st) f cdv A outer s H E) (defBody st) t ∧ t { nx := fun _ H' => Q .non H', rt := Q } (start N vs) H) : FnOk P w K mg base (CX1 P w) (k + 1) f fd ps sp := by
  obtain ⟨oc, od, kV, doc, pm, an, cdv, ct, osl, rfl, lk, hcd⟩ := F.ex
  exact fn_of lk hcd S len fun A outer s H vs Q E hr hsp => hbody cdv A outer s H vs Q E hr hsp
end
/-! ### a def of the module that may raise, by its name -/
structure HasX (P : Program) (w : World) (K : PySem.W.Frag) (mg : Str → Option Value) (base : Heap) (x : Str) (k : Nat) (ps : List Str) (sp : Sp) : Prop where
  ex : ∃ f fd, FnOk P w K mg base (CX1 P w) k f fd ps sp ∧ Binds K fd ps [] ∧ PySem.W.keepIn K (.ref f) = true ∧ mg x = some (.ref f)
theorem HasX.of {P : Program} {w : World} {K : PySem.W.Frag} {mg : Str → Option Value} {base : Heap} {x : Str} {k : Nat} {ps : List Str} {sp : Sp} {f : Addr} {fd : FuncData} (F : FnOk P w K mg base (CX1 P w) k f fd ps sp) (b : Binds K fd ps []) (kp : PySem.W.keepIn K (.ref f) = true) (m : mg x = some (.ref f)) : HasX P w K mg base x k ps sp := ⟨f, fd, F, b, kp, m⟩
section
variable {P : Program} {w : World} {K : PySem.W.Frag} {mg : Str → Option Value} {base : Heap} {N : List Str} {qual : Str} {scope : Scope} {f : Addr} {cd : Value} {A : Around} {outer : List Env} {s : Shared} {H : Hp} {E : XK}
variable {j k : Nat} {ps : List Str} {sp : Sp} {x : Str} {p pos : Pos} {e : Expr} {es : List Expr} {t : TA}
end
end L2

namespace L2
open PySem PySem.Spec PyProof.Rows
/-! ### isinstance of an exception of an own class -/
structure ExcK (K : PySem.W.Frag) (C : Addr) : Prop where
  ga : PySem.W.findIn K (.ref C) "__getattribute__" = some (some (.builtin "BaseException.__getattribute__"))
  gr : PySem.W.findIn K (.ref C) "__getattr__" = some none
  cl : PySem.W.findIn K (.ref C) "__class__" = some (some (.builtin "object.__class__"))
  sb : PySem.W.subIn K (.ref C) (.type "BaseException") = some true
  so : PySem.W.subIn K (.ref C) (.type "object") = some true
  ob : ∃ oc od cdt sl, K.lookup C = some ⟨oc, od, .cls cdt, sl⟩
section
variable {prog : Program} {w : World} {A : Around} {E : Value → Shared → Prop} {h : Heap} {g : Array GenState} {d : Drawn} {t : Nat} {os : OsState} {a C : Addr} {o : Obj} {K : PySem.W.Frag}
end
end L2

namespace L2
open PySem PySem.Spec PyProof.Rows
/-- an exception of the class at C, that stands at a -/
def xo (C a : Addr) : HO := .ext fun h => ∃ o, h.get? a = some o ∧ o.cls = .ref C
theorem xo_ok {P : Program} {w : World} {H : Hp} {h : Heap} {C a : Addr} {o : Obj} (e : h.get? a = some o) (c : o.cls = .ref C) : ObjOk P w H h a (xo C a) :=
  ⟨⟨o, e, c⟩, ⟨o, e⟩, fun _ _ ⟨o, e, c⟩ k => ⟨o, k o e, c⟩⟩
theorem HOk.more {P : Program} {w : World} {H : Hp} {h : Heap} {a : Addr} {o : HO} (x : HOk P w H h) (hn : H a = none) (new : ObjOk P w (upd H a o) h a o) : HOk P w (upd H a o) h := fun b u e => by
  by_cases hb : b = a
  · subst hb; rw [upd_same] at e; cases e; exact new
  · rw [upd_ne hb] at e
    exact (x b u e).stay (fun c v _ q => q) (fun c q => by rw [upd_ne (ne_of_none q hn)]; exact q) fun c xs q => by rw [upd_ne (ne_of_none q hn)]; exact q
theorem Un.more {fs : List Addr} {H H' : Hp} {h h' : Heap} {a : Addr} {o : HO} (u : Un fs [] H H' h h') (na : h.get? a = none) (hn : H' a = none) : Un fs [] H (upd H' a o) h h' where
  keep := u.keep
  slot := u.slot
  free := fun b ob q n hx => by
    rw [upd_ne (fun z => by rw [z, na] at q; cases q)]
    exact u.free b ob q n hx
  there := u.there
  tups := fun b xs q => by rw [upd_ne (ne_of_none (u.tups b xs q) hn)]; exact u.tups b xs q
  frzs := fun b ob xs q => by rw [upd_ne (ne_of_none (u.frzs b ob xs q) hn)]; exact u.frzs b ob xs q
  tbls := fun b ps q => by
    obtain ⟨m, e⟩ := u.tbls b ps q
    exact ⟨m, by rw [upd_ne (ne_of_none e hn)]; exact e⟩
theorem Un.kp {l : List Env} {H H' : Hp} {h h1 h2 : Heap} {a T : Addr} (u : Un (frs l) [] H H' h h1) (k : Kp l a T h1 h2) (na : h.get? a = none) (nT : h.get? T = none) : Un (frs l) [] H H' h h2 := by
  have n1 : ∀ b o, h.get? b = some o → b ≠ a := fun b o e z => by rw [z, na] at e; cases e
  have n2 : ∀ b o, h.get? b = some o → b ≠ T := fun b o e z => by rw [z, nT] at e; cases e
  refine ⟨fun b o e n hb hx => k.keep b o (u.keep b o e n hb hx) (n1 b o e) (n2 b o e) hb, fun b o e n hb hx => ?_, u.free, fun b o e hx => ?_, u.tups, u.frzs, u.tbls⟩
  · obtain ⟨sl, e1⟩ := u.slot b o e n hb hx
    obtain ⟨sl', e2⟩ := k.slot b _ e1 hb
    exact ⟨sl', e2⟩
  · obtain ⟨o', e1⟩ := u.there b o e hx
    by_cases hb : b ∈ frs l
    · obtain ⟨sl', e2⟩ := k.slot b _ e1 hb
      exact ⟨_, e2⟩
    · exact ⟨_, k.keep b o' e1 (n1 b o e) (n2 b o e) hb⟩
/-- within an except suite -/
abbrev Cx.held (X : Cx) (a : Addr) (E : Value → Shared → Prop) : Cx := { X with A := X.A.mark (some (.ref a)), calm := false, xe := E }
theorem Inv.held {X : Cx} {pins : List (Addr × Obj)} {σ : St} {H : Hp} {s : Shared} (I : Inv X pins σ H s) (a : Addr) (E : Value → Shared → Prop) : Inv (X.held a E) pins σ H s :=
  have ok := I.ok
  ⟨⟨ok.mod, ok.kind, ok.glob, ok.blt, ok.above, ok.inj, ok.has, ok.cab, fun z => Bool.noConfusion z, ok.frames, ok.stk, ok.exf, ok.bs, ok.bsz, ok.noex, ok.exfs, ok.funs, ok.frf⟩, I.os, I.bare, I.base, I.loc, I.cell, I.free, I.freeC, I.pin, I.hok, I.len⟩
theorem Inv.unheld {X : Cx} {pins : List (Addr × Obj)} {σ : St} {H : Hp} {s : Shared} {a : Addr} {E : Value → Shared → Prop} (x : X.Ok) (I : Inv (X.held a E) pins σ H s) : Inv X pins σ H s :=
  ⟨x, I.os, I.bare, I.base, I.loc, I.cell, I.free, I.freeC, I.pin, I.hok, I.len⟩
section
variable {X : Cx} {pins : List (Addr × Obj)} {σ : St} {H : Hp} {s : Shared}
end
/-! ### try: f(..) except S as e: suite -/
def tTry (K : PySem.W.Frag) (S : Addr) (sp : Sp) (i : Nat) (ta : TA) (tb : TS) : TS := fun D σ H => ta σ H fun vs H1 => sp vs H1 (fun _ H2 => D.nx σ H2) (fun cv _ H2 => ∃ C, cv = .ref C ∧ PySem.W.exmOne K (.ref C) (.ref S) = some true ∧
  ∀ a, H2 a = none → tb { nx := fun σ' H3 => (∃ v, σ'[i]? = some (some v)) ∧ D.nx (σ'.set i none) H3, rt := fun _ _ => False } (σ.set i (some (.ref a))) (upd H2 a (xo C a)))
section
variable {X : Cx} {x c n : Str} {p pos cpos epos np hpos : Pos} {e : Expr} {es : List Expr} {ta : TA} {tb : TS} {b₀ : Stmt} {suite : List Stmt} {j k i : Nat} {ps : List Str} {sp : Sp} {S : Addr}
end
/-! ### isinstance(x, C), isinstance(x, (C, ..)), C own classes too -/
def cVal : V → Value
  | .ref D => .ref D
  | .ty T => .type T
  | _ => .none
def isCl : V → Bool
  | .ref _ => true
  | .ty _ => true
  | _ => false
inductive TyX (K : PySem.W.Frag) (H : Hp) : V → Value → Prop
  | non : TyX K H .non (.type "NoneType")
  | exc {a C : Addr} (k : ExcK K C) (e : H a = some (xo C a)) : TyX K H (.ref a) (.ref C)
def rIsX (K : PySem.W.Frag) : List V → Hp → VK → Prop := fun xs H Q => ∃ x c t b, xs = [x, c] ∧ TyX K H x t ∧ ((isCl c = true ∧ PySem.W.kitOne K t (cVal c) = some b) ∨ ∃ tp cs, c = .ref tp ∧ H tp = some (.tup cs) ∧ cs.all isCl = true ∧ PySem.W.kitAny K t (cs.map cVal) = some b) ∧ Q (.bl b) H
end L2

namespace L2
open PySem PySem.Spec PyProof.Rows
/-! ### the tally of nothing -/
def Ty.zero (room : Int) : Ty := ⟨room, [], 0, 0⟩
theorem zero_ok {room : Int} (h1 : 1 ≤ room) (h2 : room ≤ 20) : (Ty.zero room).Ok :=
  ⟨h1, h2, List.nodup_nil, List.Pairwise.nil, (fun _ h => nomatch h), (fun _ h => nomatch h), by show ((0 : Nat) : Int) ≤ room; omega, Int.le_refl _, by show (room + 1) * 0 ≤ 0 - 0; simp, by show (0 : Int) - 0 ≤ 2 * room * 0; simp⟩
/-! ### own classes of exceptions -/
theorem own_base {K : PySem.W.Frag} {base : Heap} {mg : Str → Option Value} {x : Str} {C : Addr} {bmB : List Value} {newId : String} (X : K.In base) (m : mg x = some (.ref C)) (q : PySem.W.excIn K C bmB newId = true) : OwnCls x C bmB newId mg base := by
  refine ⟨m, ?_⟩
  unfold PySem.W.excIn at q
  split at q
  · rename_i dd cdt osl ho
    split at q
    · rename_i C' tl y0 y1 y2 y3 nw y5 hm hs
      simp only [beq_iff_eq, Bool.and_eq_true, Bool.not_eq_true'] at q
      obtain ⟨⟨⟨⟨⟨e1, e2⟩, e3⟩, e4⟩, e5⟩, e6⟩ := q
      subst e1 e2
      cases cdt with
      | mk f1 f2 f3 f4 f5 f6 f7 f8 f9 f10 f11 =>
        dsimp only at hm e3 e5 e6
        subst hm e3
        have hsl : osl = #[y0, y1, y2, y3, some (.builtin nw), y5] := by
          cases osl with
          | mk l => exact congrArg Array.mk hs
        subst hsl
        exact ⟨tl, f4, f1, f5, f2, f6, f7, f8, f9, f10, dd, y0, y1, y2, y3, y5, _, X _ _ ho, .of_isNs (PySem.W.isNs_of_in X e5), PySem.W.nsMap_none_of_in X e5 e6, PySem.W.tail_of_in X e4⟩
    · cases q
  · cases q
theorem exm_mk {K : PySem.W.Frag} {C S : Addr} {od : Option Addr} {cdt : ClassData} {sl : Array (Option Value)} (h1 : PySem.W.subIn K (.ref S) (.type "BaseException") = some true) (h2 : K.lookup S = some ⟨.type "type", od, .cls cdt, sl⟩) (h3 : PySem.W.subIn K (.ref C) (.ref S) = some true) :
    PySem.W.exmOne K (.ref C) (.ref S) = some true := by
  unfold PySem.W.exmOne
  rw [if_pos (by rw [h1]; rfl)]
  unfold PySem.W.kitCls
  dsimp only
  have a : PySem.W.clsIn K S = some cdt := by unfold PySem.W.clsIn; rw [h2]
  have b : PySem.W.typeIn K (.ref S) = some (.type "type") := by unfold PySem.W.typeIn; dsimp only; rw [h2]; rfl
  rw [if_pos (by rw [a, b]; rfl)]
  exact h3
end L2

namespace L2
open PySem PySem.Spec PyProof.Rows
/-! ### products of great numbers -/
theorem bits_le {a : Int} (h : a.natAbs < 2 ^ 400) : Builtin.Int.intBits a ≤ 400 := by
  unfold Builtin.Int.intBits
  split
  · exact Nat.zero_le _
  · rename_i hz
    have hn : a.natAbs ≠ 0 := fun z => hz (by simpa using Int.natAbs_eq_zero.mp z)
    exact (Nat.log2_lt hn).mpr h
def big : Int := 1000000000000000000000000000000000000000000000000000000000000000000000000000000
theorem big_lt {a : Int} (h1 : -big < a) (h2 : a < big) : a.natAbs < 2 ^ 400 := by
  have e : big.natAbs < 2 ^ 400 := by decide +kernel
  have : a.natAbs < big.natAbs := by
    have : big.natAbs = big.toNat := rfl
    have hb : (0 : Int) < big := by decide
    omega
  omega
def CMulB (i j : Int) : Prop := (-big < i ∧ i < big) ∧ -big < j ∧ j < big
theorem CMulB.ok {i j : Int} (h : CMulB i j) : IntMulOk i j := by
  have h1 := bits_le (big_lt h.1.1 h.1.2)
  have h2 := bits_le (big_lt h.2.1 h.2.2)
  have e : Builtin.Int.intTooBig ((Builtin.Int.intBits i : Int) + (Builtin.Int.intBits j : Int)) = false := by
    unfold Builtin.Int.intTooBig
    refine decide_eq_false fun q => ?_
    have : (800 : Int) ≤ bitsLine := by decide +kernel
    omega
  unfold IntMulOk
  rw [e, Bool.and_false]
  exact Bool.false_ne_true
theorem op_mulB {X : Cx} : OpR X (binaryOp .Mult) (rI CMulB fun i j => .int (i * j)) := opI fun _ _ _ _ _ _ _ hc q => mul_int q hc.ok
/-! ### comprehensions over a tuple -/
theorem comp_tup {K : PySem.W.Frag} {a : Addr} {xs : List V} {k : Nat} {g : TG} {tt : TT} {te : TE} {σ : St} {H : Hp} {Q : VK} (Pv : Nat → List V → Hp → Prop) (h0 : Pv 0 [] H) (hl : ∀ i ys H, i ≤ xs.length → Pv i ys H → SqT K H a xs)
    (hs : ∀ i x ys H (C : List V → Hp → Prop), xs[i]? = some x → Pv i ys H → (∀ ys' H', Pv (i + 1) ys' H' → C ys' H') → ys.length < sizeLine ∧ g x (List.replicate k none ++ σ) H fun σ2 H2 => Wk σ2 (List.replicate k none ++ σ) ∧ tt σ2 H2 fun ok H3 =>
      if ok = true then te σ2 H3 fun y H4 => C (ys ++ [y]) H4 else C ys H3)
    (hd : ∀ ys H, Pv xs.length ys H → ys.length ≤ sizeLine ∧ ∀ p, H p = none → Q (.ref p) (upd H p (.lst ys))) :
    CompR (Itt K a) H k g tt te σ Q := by
  refine ⟨fun i m ys H => m = xs.length - i ∧ i ≤ xs.length ∧ Pv i ys H, ⟨xs.length, by simp, Nat.zero_le _, h0⟩, ?_⟩
  rintro i m ys H ⟨rfl, hi, p⟩
  have q := hl i ys H hi p
  by_cases hlt : i < xs.length
  · have r := hs i xs[i] ys H (fun ys' H' => ∃ m', m' < xs.length - i ∧ m' = xs.length - (i + 1) ∧ i + 1 ≤ xs.length ∧ Pv (i + 1) ys' H') (by simp [hlt]) p fun ys' H' p' => ⟨_, by omega, rfl, hlt, p'⟩
    refine .inr ⟨⟨xs, xs[i], q, by simp [hlt]⟩, r.1, fun x H' y => ?_⟩
    obtain ⟨e, y⟩ := y
    subst e
    have ex : xs[i]? = some x := y xs q
    have ex2 : xs[i] = x := by simpa [hlt] using ex
    rw [← ex2]
    exact r.2
  · have e : i = xs.length := by omega
    subst e
    exact .inl ⟨⟨xs, q, Nat.le_refl _⟩, hd ys H p⟩
/-- over pairs of a mark and a count, whose elements are plain values -/
theorem comp_pairs {K : PySem.W.Frag} {a : Addr} {xs : List V} {ps : Ps} {k : Nat} {g : TG} {tt : TT} {te : TE} {σ : St} {H : Hp} {Q : VK} (p : Str × Int → Bool) (f : Str × Int → V) (e : H a = some (.tup xs)) (pa : PairsAt H xs (kvOf ps)) (hl : ps.length ≤ 100000)
    (hs : ∀ (t : Str × Int) (c : Addr) (ys : List V) (C : List V → Hp → Prop), t ∈ ps → H c = some (.tup [.str t.1, .int t.2]) → (p t = true → C (ys ++ [f t]) H) → (p t = false → C ys H) → g (.ref c) (List.replicate k none ++ σ) H fun σ2 H2 => Wk σ2 (List.replicate k none ++ σ) ∧ tt σ2 H2 fun ok H3 =>
      if ok = true then te σ2 H3 fun y H4 => C (ys ++ [y]) H4 else C ys H3)
    (hd : ∀ q, H q = none → Q (.ref q) (upd H q (.lst ((ps.filter p).map f)))) :
    CompR (Itt K a) H k g tt te σ Q := by
  have dl := pa.length
  rw [kvOf_len] at dl
  have le : ∀ i, (((ps.take i).filter p).map f).length ≤ 100000 := fun i => by
    rw [List.length_map]
    have h1 := List.length_filter_le p (ps.take i)
    rw [List.length_take] at h1
    omega
  refine comp_tup (xs := xs) (fun i ys H' => H' = H ∧ ys = ((ps.take i).filter p).map f) ⟨rfl, rfl⟩ ?_ ?_ ?_
  · rintro i ys H' _ ⟨rfl, _⟩
    exact SqT.of e
  · rintro i x ys H' C hx ⟨rfl, rfl⟩ hC
    obtain ⟨c, t, rfl, ht, ec⟩ := pa.getP hx
    refine ⟨small_lt (by have := le i; omega), hs t c _ C (List.mem_of_getElem? ht) ec (fun hp => hC _ _ ⟨rfl, ?_⟩) (fun hp => hC _ _ ⟨rfl, ?_⟩)⟩
    · rw [take_one ht, List.filter_append, List.map_append, List.filter_cons, hp]
      rfl
    · rw [take_one ht, List.filter_append, List.filter_cons, hp]
      simp
  · rintro ys H' ⟨rfl, rfl⟩
    rw [dl, List.take_length]
    refine ⟨small_le (by have := le ps.length; rw [List.take_length] at this; omega), hd⟩
/-! ### one def, several promises -/
section
variable {P : Program} {w : World} {K : PySem.W.Frag} {mg : Str → Option Value} {base : Heap} {CX : CXT} {k : Nat} {f : Addr} {fd : FuncData} {ps : List Str} {sp sp' : Sp}
theorem FnOk.toX (F : FnOk P w K mg base CX0 k f fd ps sp) : FnOk P w K mg base CX k f fd ps sp := by
  refine ⟨F.len, fun A outer s H args us vs Q E hr e0 hb r h => codeAny_mono (F.run A outer s H args us vs Q E hr e0 hb r h) fun r s' q => ?_⟩
  cases r with
  | ok fl => cases fl <;> exact q
  | error e => exact False.elim q
theorem FnOk.or (F : FnOk P w K mg base CX k f fd ps sp) (G : FnOk P w K mg base CX k f fd ps sp') : FnOk P w K mg base CX k f fd ps (fun vs H Q E => sp vs H Q E ∨ sp' vs H Q E) :=
  ⟨fun vs H Q E h => h.elim (F.len _ _ _ _) (G.len _ _ _ _), fun A outer s H args us vs Q E hr e0 hb r h => h.elim (F.run A outer s H args us vs Q E hr e0 hb r) (G.run A outer s H args us vs Q E hr e0 hb r)⟩
end
/-! ### how great a tally's numbers are -/
theorem Ty.tot {t : Ty} (h : t.Ok) (h1 : t.lt ≤ 1000000000000000000) (h2 : ∀ p ∈ t.cs, p.2 ≤ 1000000000) : 0 ≤ t.total ∧ t.total ≤ 50000000000000000000 := by
  have lo := h.lo
  have hi := h.hi
  have l0 := h.lt0
  have r1 := h.room1
  have r2 := h.room2
  have s : 0 ≤ t.sum ∧ t.sum ≤ 1000000000 * t.cs.length := by
    have pos := h.pos
    have : ∀ ps : Ps, (∀ p ∈ ps, 1 ≤ p.2) → (∀ p ∈ ps, p.2 ≤ 1000000000) → 0 ≤ (nsOf ps).sum ∧ (nsOf ps).sum ≤ 1000000000 * (ps.length : Int) := fun ps => by
      induction ps with
      | nil => intro _ _; exact ⟨Int.le_refl _, Int.le_refl _⟩
      | cons p ps ih =>
        intro a b
        obtain ⟨i1, i2⟩ := ih (fun q hq => a q (.tail _ hq)) (fun q hq => b q (.tail _ hq))
        have x := a p (.head _)
        have y := b p (.head _)
        show 0 ≤ p.2 + (nsOf ps).sum ∧ p.2 + (nsOf ps).sum ≤ 1000000000 * ((ps.length + 1 : Nat) : Int)
        omega
    exact this t.cs pos h2
  have ln := h.len
  have m1 : 0 ≤ (t.room + 1) * t.lt := Int.mul_nonneg (by omega) l0
  have m2 : 2 * t.room * t.lt ≤ 40 * t.lt := Int.mul_le_mul_of_nonneg_right (by omega) l0
  omega
end L2

namespace L2
open PySem PySem.Spec PyProof.Rows
/-! ### a function that stands in a local name -/
def Cal (base : Heap) (f : Addr) : Prop := ∃ oc od fd sl, base.get? f = some ⟨oc, od, .func fd, sl⟩
theorem keeps_cal {M : Model} {f : Addr} {base : Heap} (c : Cal base f) (h : Heap) (k : ∀ b o, base.get? b = some o → h.get? b = some o) : ∃ q, (q = Keeper.frame ∨ q = Keeper.machine ∨ q = Keeper.boundFrame) ∧ PySem.W.Looks M h (keeperOf (.ref f)) q := by
  obtain ⟨oc, od, fd, sl, e⟩ := c
  refine ⟨.frame, .inl rfl, fun A Q E s kk q => ?_⟩
  exact wpAny_bind (wpAny_load (kk _ _ (k _ _ e)) (wpAny_pure q))
def tCallV (P : Program) (w : World) (K : PySem.W.Frag) (mg : Str → Option Value) (base : Heap) (k i : Nat) (t : TA) : TE := fun σ H Q => ∃ (f : Addr) (fd : FuncData) (ps : List Str) (sp : Sp), σ[i]? = some (some (.ref f)) ∧ FnOk P w K mg base CX0 k f fd ps sp ∧ Binds K fd ps [] ∧ Cal base f ∧
  t σ H fun vs H1 => sp vs H1 Q E0
section
variable {X : Cx} {k i : Nat} {x : Str} {p pos : Pos} {e : Expr} {es : List Expr} {t : TA}
theorem pe_callV (hr : Room k X.A) (ha : PA X (e :: es) t) (hN : X.N[i]? = some x := by rfl) (hv : Vis X.env.scope x := by first | exact Or.inl rfl | exact Or.inr (Or.inl rfl) | exact Or.inr (Or.inr rfl)) (hd : (x == ("__debug__" : Str)) = false := by decide) (hcd : (x == ("__classdict__" : Str)) = false := by decide)
    (he : starEach (e :: es) X.env = (false, eval e X.env) :: starEach es X.env := by rfl) (hpl : (backTo pos (starEach es X.env)).any (·.1) = false := by rfl) :
    PE X (.Call (.Name x p) (e :: es) [] pos) (tCallV X.prog X.w X.K X.mg X.base k i t) := by
  intro pins s σ H Q I h
  obtain ⟨f, fd, ps, sp, hs, F, b, c, q⟩ := h
  refine wpAny_Call_Name_kw (thn (pe_var hN hv hd hcd pins s σ H (fun v H' => v = .ref f ∧ H' = H) I ⟨_, hs, rfl, rfl⟩) fun u s1 z => ?_)
  obtain ⟨v, H', I1, r, rfl, rfl⟩ := z
  cases (show u = Value.ref f from r)
  have hh := ha pos pins s1 σ H' _ I1 q
  show wpAny _ _ (callWith pos (.ref f) [] (backTo pos (starEach (e :: es) X.env)) []) _ _ _
  rw [he] at hh ⊢
  refine PySem.W.callWith_of (P := fun h => ∀ b o, X.base.get? b = some o → h.get? b = some o) (by show ((false || (backTo pos (starEach es X.env)).any (·.1)) || false) = false; rw [hpl]; rfl) (fun h k => keeps_cal c h k) (Calls.evalArgs_plain (thn hh fun us s2 z => ?_))
  obtain ⟨vs, H2, I2, r2, q2⟩ := z
  exact ⟨I2.bk, run_fn (dvs := []) (ds := []) F hr b .nil pass0 I2 r2 (by rw [List.append_nil]; exact q2)⟩
end
/-! ### the table of a code object in which a lambda is made -/
def crO (q : Str) (c : Addr) : HO := .ext fun h => h.CodeRec (.ref c) q
structure LamAt (T : Addr) (pos : Pos) (q : Str) (H : Hp) : Prop where
  tab : H T = some (.tbl #[]) ∨ ∃ c, H T = some (.tbl #[rawInt pos.line, rawInt pos.col, .ref c]) ∧ H c = some (crO q c)
theorem LamAt.mono {T : Addr} {pos : Pos} {q : Str} {H H' : Hp} (h : LamAt T pos q H) (g : Same H H') : LamAt T pos q H' := by
  rcases h.tab with e | ⟨c, e, ec⟩
  · exact ⟨.inl (g _ _ e)⟩
  · exact ⟨.inr ⟨c, g _ _ e, g _ _ ec⟩⟩
end L2

namespace L2
open PySem PySem.Spec PyProof.Rows
/-- the context of a lambda's body, at its entry -/
def lamCx (P : Program) (w : World) (K : PySem.W.Frag) (mg : Str → Option Value) (base : Heap) (N : List Str) (qual : Str) (sc : Scope) (f : Addr) (cd : Value) (cl : List (Str × Addr)) (A : Around) (outer : List Env) (s : Shared) (H : Hp) : Cx where
  prog := P
  w := w
  K := K
  mg := mg
  base := base
  A := A.deeper (PySem.W.envX qual sc s.heap.objs.size f cd cl)
  N := N
  s₀ := s
  H₀ := H
  env := PySem.W.envX qual sc s.heap.objs.size f cd cl
  outer := outer
  stack := PySem.W.envX qual sc s.heap.objs.size f cd cl :: outer
  ex := []
  calm := true
  fn := fun _ => false
  pn := []
  xe := fun _ _ => False
/-- what a lambda's scope is: parameters ps, names fr of the function around it -/
structure LamScope (ps fr : List Str) (sc : Scope) : Prop where
  kind : sc.kind = .function
  co : sc.isCoroutine = false
  gen : sc.isGenerator = false
  cell : ∀ x ∈ sc.names, x.2 ≠ .cell
  par : ∀ x ∈ ps, sc.names.lookup x = some .local
  free : ∀ x, sc.names.lookup x = some .free → x ∈ fr
  fre : ∀ x ∈ fr, sc.names.lookup x = some .free
  nd : (ps ++ fr).Nodup
theorem zipR_lookup {x : Str} : ∀ {ps : List Str} {us : List Value} {i : Nat} {u : Value}, ps.Nodup → ps[i]? = some x → us[i]? = some u → (ps.zip us).reverse.lookup x = some u := by
  intro ps us i u nd h1 h2
  have hm : (x, u) ∈ (ps.zip us).reverse := List.mem_reverse.mpr (List.mem_of_getElem? (i := i) (by rw [List.getElem?_zip_eq_some]; exact ⟨h1, h2⟩))
  have ndz : ((ps.zip us).reverse.map (·.1)).Nodup := by
    rw [List.map_reverse]
    refine (List.reverse_perm _).nodup_iff.mpr (nd.sublist ?_)
    exact (by
      clear hm h1 h2
      induction ps generalizing us with
      | nil => exact List.nil_sublist _
      | cons p ps ih =>
        cases us with
        | nil => exact List.nil_sublist _
        | cons v us => exact (ih (List.nodup_cons.mp nd).2).cons₂ _)
  revert hm ndz
  generalize (ps.zip us).reverse = l
  intro hm ndz
  induction l with
  | nil => exact nomatch hm
  | cons q l ih =>
    rw [List.map_cons, List.nodup_cons] at ndz
    rcases List.mem_cons.mp hm with e | e
    · rw [← e, List.lookup_cons, beq_self_eq_true]
    · have ne : (x == q.1) = false := by
        refine beq_eq_false_iff_ne.mpr fun z => ndz.1 (List.mem_map.mpr ⟨(x, u), e, z⟩)
      obtain ⟨q1, q2⟩ := q
      rw [List.lookup_cons]
      dsimp only at ne ⊢
      rw [ne]
      exact ih e ndz.2
theorem lam_ok {P : Program} {w : World} {K : PySem.W.Frag} {mg : Str → Option Value} {B : Heap} {k : Nat} {a c' : Addr} {qual : Str} {params : Arguments} {body : Expr} {sc : Scope} {cl : List (Str × Addr)} {pm ctv : Value} {ps fr : List Str} {us : List V} {sp : Sp}
    (ha : B.get? a = some (PySem.W.kla_obj "<lambda>" qual params body sc cl pm c' ctv)) (S : LamScope ps fr sc) (hul : us.length = fr.length)
    (hcl : ∀ (i : Nat) x v, fr[i]? = some x → us[i]? = some v → ∃ c u, cl.lookup x = some c ∧ B.IsCell c (some u) ∧ RelV v u) (inj : ∀ x y c, cl.lookup x = some c → cl.lookup y = some c → x = y) (call : ∀ x c, cl.lookup x = some c → ∃ v, B.IsCell c v)
    (rec : ∀ vs H Q E, sp vs H Q E → H c' = some (crO qual c')) (len : ∀ vs H Q E, sp vs H Q E → vs.length = ps.length)
    (hbody : ∀ (A : Around) (outer : List Env) (s : Shared) (H : Hp) (vs : List V) (Q : VK) (E : XK), Room k (A.deeper (PySem.W.envX qual sc s.heap.objs.size a (.ref c') cl)) → sp vs H Q E →
      ∃ t, PE (lamCx P w K mg B (ps ++ fr) qual sc a (.ref c') cl A outer s H) body t ∧ t (vs.map some ++ us.map some) H Q) :
    FnOk P w K mg B CX0 (k + 1) a (PySem.W.kla_fn "<lambda>" qual params body sc cl pm (.ref c') ctv) ps sp := by
  refine ⟨len, fun A outer s H args ws vs Q E hr e0 hb r hsp => ?_⟩
  have hl := len _ _ _ _ hsp
  have keep := fun b o e => (e0.bs b o e).1
  have lim : s.heap.NoLimit := e0.mod.nolimit.keeps keep
  obtain ⟨crec, _⟩ := (show ObjOk P w H s.heap c' (crO qual c') from e0.hok c' _ (rec _ _ _ _ hsp))
  have npS : ps.Nodup := (List.nodup_append.mp S.nd).1
  refine PySem.W.kla_callFunE hr.depth (keep _ _ ha) rfl S.co S.gen rfl crec (hb _ _ _ _ ?_)
  refine wpAny_newFunctionEnv S.cell (fun y hy => S.par y.1 (List.of_mem_zip hy).1) (fun h₁ hns hsb => ⟨lim.fresh _ hsb, ?_⟩) S.kind
  show codeAny _ _ (.expr body (PySem.W.envX qual sc s.heap.objs.size a (.ref c') cl)) _ _
  have hk₁ : ∀ b o, s.heap.get? b = some o → h₁.get? b = some o := fun b o e => hsb.extBut b o (Nat.ne_of_lt (Heap.lt_size e)) (Heap.get?_push_of_some _ e)
  obtain ⟨t, ht, hq⟩ := hbody A outer s H vs Q E (hr.deeper _) hsp
  have cellK : ∀ c v, B.IsCell c v → h₁.IsCell c v := fun c v ⟨o, e, d⟩ => ⟨o, hk₁ _ _ (keep _ _ e), d⟩
  have I : Inv (lamCx P w K mg B (ps ++ fr) qual sc a (.ref c') cl A outer s H) [] (vs.map some ++ us.map some) H { s with heap := h₁, toks := s.toks + (ps.zip ws).length } := by
    have noA : ∀ b : Addr, b ∉ (lamCx P w K mg B (ps ++ fr) qual sc a (.ref c') cl A outer s H).ex := fun b z => absurd (show b ∈ ([] : List Addr) from z) (by simp)
    refine ⟨⟨e0.mod, S.kind, rfl, rfl, Nat.le_refl _, inj, fun x hx => ?_, (fun x c h _ => Bool.noConfusion h), fun _ => hr.hd, Around.frames_deeper e0.frames, .inr ⟨rfl, rfl⟩, fun b z => absurd z (noA b), e0.bs, e0.bsz, fun b _ _ => noA b, fun b z => absurd z (noA b), e0.funs, e0.frf⟩,
      rfl, e0.bare, Un.kept hk₁, ⟨_, hns, fun i y v h1 h2 h3 => ?_⟩, fun x c e => ?_, e0.hok.fresh (Nat.le_refl _), fun x c e => ?_, fun p hp => absurd (show p ∈ ([] : List (Addr × Obj)) from hp) (by simp), e0.hok.kept hk₁, ?_⟩
    · have hx : sc.names.lookup x = some .cell ∨ sc.names.lookup x = some .free := hx
      rcases hx with hx | hx
      · exact absurd rfl (S.cell _ (PySem.mem_of_lookup hx))
      · obtain ⟨i, hi⟩ := List.mem_iff_getElem?.mp (S.free x hx)
        have hlt : i < us.length := by rw [hul]; exact (List.getElem?_eq_some_iff.mp hi).1
        obtain ⟨c, u, e, _⟩ := hcl i x us[i] hi (by simp [hlt])
        exact ⟨c, e⟩
    · have h1 : (ps ++ fr)[i]? = some y := h1
      by_cases hi : i < vs.length
      · rw [List.getElem?_append_left (by rw [← hl]; exact hi)] at h1
        rw [List.getElem?_append_left (by simpa using hi), List.getElem?_map] at h2
        obtain ⟨v', hv, e⟩ := Option.map_eq_some_iff.mp h2
        cases e
        obtain ⟨u, hu, rv⟩ := r.get hv
        exact ⟨u, rv, .inl ⟨S.par y (List.mem_of_getElem? h1), zipR_lookup npS h1 hu⟩⟩
      · have hi : vs.length ≤ i := by omega
        rw [List.getElem?_append_right (by rw [← hl]; exact hi)] at h1
        rw [List.getElem?_append_right (by simpa using hi), List.getElem?_map, List.length_map] at h2
        obtain ⟨v', hv, e⟩ := Option.map_eq_some_iff.mp h2
        cases e
        rw [hl] at hv
        obtain ⟨c, u, e1, e2, rv⟩ := hcl _ y v h1 hv
        exact ⟨u, rv, .inr ⟨.inr (S.fre y (List.mem_of_getElem? h1)), c, e1, cellK _ _ e2⟩⟩
    · obtain ⟨v, z⟩ := call x c e
      exact ⟨v, cellK _ _ z⟩
    · obtain ⟨v, o, z, _⟩ := call x c e
      exact (e0.bs c o z).2
    · show _ = (ps ++ fr).length
      rw [List.length_append, List.length_map, List.length_map, List.length_append, hl, hul]
  refine PySem.W.kla_codeExpr (wpAny_mono (ht [] _ _ H Q I hq) (fun v s' hs => ?_) fun _ _ z => False.elim z)
  obtain ⟨v', H', J, rv, q⟩ := hs
  exact ⟨v', H', J.os, J.bare, J.base, J.hok, rv, q⟩
end L2

namespace L2
open PySem PySem.Spec PyProof.Rows
/-- an object, known to the sign -/
def foO (ob : Obj) (a : Addr) : HO := .ext fun h => h.get? a = some ob
theorem crO_ok {P : Program} {w : World} {H : Hp} {h : Heap} {q : Str} {c : Addr} (r : h.CodeRec (.ref c) q) : ObjOk P w H h c (crO q c) := by
  refine ⟨r, ?_, fun h1 h2 z k => ?_⟩
  · obtain ⟨c2, oc, vs, tq, e, ho, _⟩ := r
    cases e
    exact ⟨oc, ho⟩
  · obtain ⟨c2, oc, vs, tq, e, ho, r⟩ := z
    cases e
    exact ⟨c, oc, vs, tq, rfl, k _ ho, r⟩
theorem foO_ok {P : Program} {w : World} {H : Hp} {h : Heap} {ob : Obj} {a : Addr} (e : h.get? a = some ob) : ObjOk P w H h a (foO ob a) := ⟨e, ⟨ob, e⟩, fun _ _ z k => k _ z⟩
/-- a lambda is made: the table of the code around it has its code now -/
def tLam (T : Addr) (pos : Pos) (q : Str) (mk : Value → Addr → Value → Obj) : TE := fun σ H Q => LamAt T pos q H ∧ ∀ (a c : Addr) (pm ctv : Value) (H' : Hp), Same (hide T H) (hide T H') → H a = none → a ≠ c → H' T = some (.tbl #[rawInt pos.line, rawInt pos.col, .ref c]) → H' c = some (crO q c) →
  H' a = some (foO (mk pm c ctv) a) → Q (.ref a) H'
theorem among1 (pos : Pos) (c : Value) : codeAmong pos [rawInt pos.line, rawInt pos.col, c] = some c := codeAmong_snoc [] trivial rfl
section
variable {X : Cx} {params : Arguments} {body : Expr} {sc : Scope} {pos : Pos} {c T : Addr}
theorem pe_lam (hc : X.env.code = .ref c) (C : PySem.W.CodeHd X.base c T) (hgP : mainGlobals ≠ T) (hB : X.base.BuiltinsAt X.mg T) (hf : ∀ x ∈ sc.names, x.2 = .free → ∃ c, X.env.cells.lookup x.1 = some c) (hdef : defaultsOf params X.env = ([], []) := by rfl) :
    PE X (.Lambda params body sc pos) (tLam T pos (X.env.qual ++ "<lambda>") fun pm c' ctv => PySem.W.kla_obj "<lambda>" (X.env.qual ++ "<lambda>") params body sc (closL X.env sc.names) pm c' ctv) := by
  intro pins s σ H Q I h
  obtain ⟨L, q⟩ := h
  refine PySem.W.kla_eval hdef ?_
  have hcl := closureFor_eq hf
  have tl : H T ≠ none := by
    rcases L.tab with e | ⟨_, e, _⟩ <;> (rw [e]; exact fun z => nomatch z)
  have fresh : ∀ b, s.heap.objs.size ≤ b → H b = none := fun b hb => I.hok.fresh hb
  rcases L.tab with e | ⟨c', e, ec⟩
  · have hP : s.heap.get? T = some (PySem.W.tabObj #[]) := I.hok T _ e
    refine PySem.W.kla_makeFunction hcl I.ok.glob (I.mod.glob.keeps I.bk) hc (C.keeps I.bk) hP trivial rfl hgP (hB.keeps I.bk) fun c' ctv h' tk hx hge hlt hrec hT => ?_
    have hT : h'.get? T = some (PySem.W.tabObj #[rawInt pos.line, rawInt pos.col, .ref c']) := hT
    have Tlt : T < s.heap.objs.size := Heap.lt_size hP
    have sz : s.heap.objs.size ≤ h'.objs.size := Nat.le_of_lt (Nat.lt_of_le_of_lt hge hlt)
    have na : H h'.objs.size = none := fresh _ sz
    have nc : H c' = none := fresh _ hge
    have cT : c' ≠ T := Nat.ne_of_gt (Nat.lt_of_lt_of_le Tlt hge)
    have aT : h'.objs.size ≠ T := Nat.ne_of_gt (Nat.lt_of_lt_of_le Tlt sz)
    have ac : h'.objs.size ≠ c' := Nat.ne_of_gt hlt
    have kp : ∀ b o, b ≠ T → s.heap.get? b = some o → (h'.push (PySem.W.kla_obj "<lambda>" (X.env.qual ++ "<lambda>") params body sc (closL X.env sc.names) ((X.mg "__name__").getD .none) c' ctv)).get? b = some o := fun b o nb e => Heap.get?_push_of_some _ (hx b o nb e)
    have eT := Heap.get?_push_of_some (PySem.W.kla_obj "<lambda>" (X.env.qual ++ "<lambda>") params body sc (closL X.env sc.names) ((X.mg "__name__").getD .none) c' ctv) hT
    have ea : (h'.push (PySem.W.kla_obj "<lambda>" (X.env.qual ++ "<lambda>") params body sc (closL X.env sc.names) ((X.mg "__name__").getD .none) c' ctv)).get? h'.objs.size = some (PySem.W.kla_obj "<lambda>" (X.env.qual ++ "<lambda>") params body sc (closL X.env sc.names) ((X.mg "__name__").getD .none) c' ctv) := Heap.get?_push_size _ rfl
    have er : (h'.push (PySem.W.kla_obj "<lambda>" (X.env.qual ++ "<lambda>") params body sc (closL X.env sc.names) ((X.mg "__name__").getD .none) c' ctv)).CodeRec (.ref c') (X.env.qual ++ "<lambda>") := by
      obtain ⟨c2, oc, vs, tq, e, ho, r⟩ := hrec
      exact ⟨c2, oc, vs, tq, e, Heap.get?_push_of_some _ ho, r⟩
    generalize (h'.push (PySem.W.kla_obj "<lambda>" (X.env.qual ++ "<lambda>") params body sc (closL X.env sc.names) ((X.mg "__name__").getD .none) c' ctv)) = g at kp eT ea er ⊢
    generalize hHn : upd (upd (upd H T (.tbl #[rawInt pos.line, rawInt pos.col, .ref c'])) c' (crO (X.env.qual ++ "<lambda>") c')) h'.objs.size (foO (PySem.W.kla_obj "<lambda>" (X.env.qual ++ "<lambda>") params body sc (closL X.env sc.names) ((X.mg "__name__").getD .none) c' ctv) h'.objs.size) = Hn
    have at_a : Hn h'.objs.size = some (foO (PySem.W.kla_obj "<lambda>" (X.env.qual ++ "<lambda>") params body sc (closL X.env sc.names) ((X.mg "__name__").getD .none) c' ctv) h'.objs.size) := by rw [← hHn]; exact upd_same
    have at_c : Hn c' = some (crO (X.env.qual ++ "<lambda>") c') := by rw [← hHn, upd_ne (Ne.symm ac)]; exact upd_same
    have at_T : Hn T = some (.tbl #[rawInt pos.line, rawInt pos.col, .ref c']) := by rw [← hHn, upd_ne (Ne.symm aT), upd_ne (Ne.symm cT)]; exact upd_same
    have at_o : ∀ b, b ≠ h'.objs.size → b ≠ c' → b ≠ T → Hn b = H b := fun b n1 n2 n3 => by rw [← hHn, upd_ne n1, upd_ne n2, upd_ne n3]
    have at_s : ∀ b u, H b = some u → b ≠ T → Hn b = some u := fun b u e nT => by rw [at_o b (ne_of_none e na) (ne_of_none e nc) nT]; exact e
    have un : Un X.fs [] H Hn s.heap g := by
      have nT : ∀ b, H b = none → b ≠ T := fun b n z => by rw [z] at n; exact tl n
      refine ⟨fun b o e n _ _ => kp b o (nT b n) e, fun b o e n _ _ => ⟨o.slots, kp b o (nT b n) e⟩, fun b o e n _ => ?_, fun b o e _ => ?_, fun b xs e' => at_s b _ e' (fun z => by rw [z, e] at e'; cases e'), fun b o xs e' => at_s b _ e' (fun z => by rw [z, e] at e'; cases e'), fun b ps e' => ?_⟩
      · have lt := Heap.lt_size e
        rw [at_o b (Nat.ne_of_lt (Nat.lt_of_lt_of_le lt sz)) (Nat.ne_of_lt (Nat.lt_of_lt_of_le lt hge)) (nT b n)]
        exact n
      · by_cases z : b = T
        · subst z; exact ⟨_, eT⟩
        · exact ⟨o, kp b o z e⟩
      · by_cases z : b = T
        · subst z
          rw [e] at e'
          cases e'
          exact ⟨#[rawInt pos.line, rawInt pos.col, .ref c'], at_T⟩
        · exact ⟨#[], by rw [at_s b _ e' z]; simp⟩
    have hok : HOk X.prog X.w Hn g := fun b u eb => by
      by_cases h1 : b = h'.objs.size
      · subst h1; rw [at_a] at eb; cases eb; exact foO_ok ea
      by_cases h2 : b = c'
      · subst h2; rw [at_c] at eb; cases eb; exact crO_ok er
      by_cases h3 : b = T
      · subst h3; rw [at_T] at eb; cases eb; exact eT
      rw [at_o b h1 h2 h3] at eb
      refine (I.hok b u eb).stay (fun d v hd qq => kp d v (fun z => ?_) qq) (fun d qq => at_s d _ qq (fun z => by rw [z, e] at qq; cases qq)) fun d xs qq => at_s d _ qq (fun z => by rw [z, e] at qq; cases qq)
      rcases hd with y | y
      · exact h3 (y.symm.trans z)
      · rw [z, e] at y; cases y
    refine ⟨.ref h'.objs.size, Hn, I.un (h' := g) (t' := tk) un hok, rfl, q _ c' _ ctv Hn (fun b u eb => ?_) na ac at_T at_c at_a⟩
    obtain ⟨b1, b2⟩ := hide_some eb
    rw [hide_ne b1]
    exact at_s b u b2 b1
  · have hP : s.heap.get? T = some (PySem.W.tabObj #[rawInt pos.line, rawInt pos.col, .ref c']) := I.hok T _ e
    refine PySem.W.kla_makeFunctionHit (cv := .ref c') hcl I.ok.glob (I.mod.glob.keeps I.bk) hc (C.keeps I.bk) hP trivial (among1 pos _) (hB.keeps I.bk) fun ctv h' tk hk hz => ?_
    have na : H h'.objs.size = none := fresh _ hz
    have ac : h'.objs.size ≠ c' := fun z => by rw [z, ec] at na; cases na
    have aT : h'.objs.size ≠ T := fun z => by rw [z, e] at na; cases na
    refine ⟨.ref h'.objs.size, _, I.laid (t' := tk) (a := h'.objs.size) (o := foO (PySem.W.kla_obj "<lambda>" (X.env.qual ++ "<lambda>") params body sc (closL X.env sc.names) ((X.mg "__name__").getD .none) c' ctv) h'.objs.size) (fun b u eb => Heap.get?_push_of_some _ (hk b u eb)) hz (foO_ok (Heap.get?_push_size _ rfl)), rfl, ?_⟩
    refine q _ c' _ ctv _ (fun b u eb => ?_) na ac (by rw [upd_ne (Ne.symm aT)]; exact e) (by rw [upd_ne (Ne.symm ac)]; exact ec) upd_same
    obtain ⟨b1, b2⟩ := hide_some eb
    rw [hide_ne b1, upd_ne (ne_of_none b2 na)]
    exact b2
end
end L2

namespace L2
open PySem PySem.Spec PyProof.Rows
/-! ### a wider base -/
def addB (base h : Heap) (as : List Addr) : Heap := PySem.W.hideAll h ((List.range h.objs.size).filter fun b => (base.get? b).isNone && !decide (b ∈ as))
theorem addB_get {base h : Heap} {as : List Addr} {b : Addr} {o : Obj} (e : h.get? b = some o) (k : (∃ u, base.get? b = some u) ∨ b ∈ as) : (addB base h as).get? b = some o := PySem.W.hideAll_get _ e fun z => by
  have z2 := (List.mem_filter.mp z).2
  rw [Bool.and_eq_true] at z2
  rcases k with ⟨u, k⟩ | k
  · rw [k] at z2; exact Bool.noConfusion z2.1
  · rw [decide_eq_true k] at z2; exact Bool.noConfusion z2.2
theorem of_addB {base h : Heap} {as : List Addr} {b : Addr} {o : Obj} (e : (addB base h as).get? b = some o) : h.get? b = some o ∧ ((∃ u, base.get? b = some u) ∨ b ∈ as) := by
  have e1 := PySem.W.of_hideAll _ e
  refine ⟨e1, ?_⟩
  cases k : base.get? b with
  | some u => exact .inl ⟨u, rfl⟩
  | none =>
    by_cases m : b ∈ as
    · exact .inr m
    · have : (addB base h as).get? b = none := PySem.W.hideAll_none _ (List.mem_filter.mpr ⟨List.mem_range.mpr (Heap.lt_size e1), by rw [k, decide_eq_false m]; rfl⟩)
      rw [e] at this
      cases this
theorem funFrames_swap {base B h : Heap} : ∀ {l : List Env}, h.FunFrames base l → (∀ L ∈ frs l, B.get? L = none) → h.FunFrames B l
  | [], _, _ => trivial
  | env :: l, ⟨hk, ⟨L, o, hf, _, ho, hd⟩, hr⟩, hn => ⟨hk, ⟨L, o, hf, hn L (mem_frs (.head _) hf), ho, hd⟩, funFrames_swap hr fun L' hL => hn L' (by
    obtain ⟨e, he, q⟩ := List.mem_filterMap.mp hL
    exact mem_frs (.tail _ he) q)⟩
theorem Inv.drop {X : Cx} {pins : List (Addr × Obj)} {σ : St} {H : Hp} {s : Shared} {a : Addr} {φ : Heap → Prop} (I : Inv X pins σ H s) (ea : H a = some (.ext φ)) : Inv X pins σ (hide a H) s := by
  have nn : ∀ b, H b = none → hide a H b = none := fun b n => by
    by_cases z : b = a
    · rw [z]; exact hide_self
    · rw [hide_ne z]; exact n
  have ne : ∀ b u, H b = some u → (∀ ψ, u ≠ .ext ψ) → hide a H b = some u := fun b u e n => by
    rw [hide_ne (fun z => by rw [z, ea] at e; exact n φ (Option.some.inj e).symm)]
    exact e
  refine ⟨I.ok, I.os, I.bare, ⟨I.base.keep, I.base.slot, fun b o e n hx => nn b (I.base.free b o e n hx), I.base.there, fun b xs e => ne b _ (I.base.tups b xs e) (fun _ z => nomatch z), fun b o xs e => ne b _ (I.base.frzs b o xs e) (fun _ z => nomatch z), fun b ps e => ?_⟩, I.loc, I.cell, nn _ I.free, fun x c e => nn c (I.freeC x c e), fun p hp => ?_, fun b u e => ?_, I.len⟩
  · obtain ⟨m, z⟩ := I.base.tbls b ps e
    exact ⟨m, ne b _ z (fun _ z => nomatch z)⟩
  · obtain ⟨z1, z2, z3⟩ := I.pin p hp
    exact ⟨z1, nn _ z2, z3⟩
  · obtain ⟨b1, b2⟩ := hide_some e
    exact (I.hok b u b2).stay (fun _ _ _ q => q) (fun c q => ne c _ q (fun _ z => nomatch z)) fun c xs q => ne c _ q (fun _ z => nomatch z)
/-- a def of the module, over each base -/
structure HasB (P : Program) (w : World) (K : PySem.W.Frag) (mg : Str → Option Value) (x : Str) (k : Nat) (ps : List Str) (sp : Heap → Sp) : Prop where
  ex : ∃ f fd, (∀ base : Heap, K.In base → base.Ns mainGlobals mg → FnOk P w K mg base CX0 k f fd ps (sp base)) ∧ Binds K fd ps [] ∧ PySem.W.keepIn K (.ref f) = true ∧ mg x = some (.ref f)
/-- what a wider base has: a function made here, and the cells of this frame -/
structure Wid (X : Cx) (σ : St) (a : Addr) (ob : Obj) (B : Heap) : Prop where
  kin : X.K.In B
  glb : B.Ns mainGlobals X.mg
  sub : ∀ b o, X.base.get? b = some o → B.get? b = some o
  fn : B.get? a = some ob
  cell : ∀ (i : Nat) x v, X.N[i]? = some x → σ[i]? = some (some v) → X.env.scope.names.lookup x = some .cell → ∃ c u, X.env.cells.lookup x = some c ∧ B.IsCell c (some u) ∧ RelV v u
  cells : ∀ x c, X.env.cells.lookup x = some c → ∃ v, B.IsCell c v
  inj : ∀ x y c, X.env.cells.lookup x = some c → X.env.cells.lookup y = some c → x = y
def tCallL (X : Cx) (sp : Heap → Sp) (t : TA) : TE := fun σ H Q => t σ H fun vs H1 => ∃ a ob, H1 a = some (foO ob a) ∧ ∀ B, Wid X σ a ob B → sp B vs (hide a H1) Q E0
section
variable {X : Cx} {j k : Nat} {ps : List Str} {sp : Heap → Sp} {x : Str} {p pos : Pos} {e : Expr} {es : List Expr} {t : TA}
theorem pe_callL (h : HasB X.prog X.w X.K X.mg x j ps sp) (hfn : ∀ x, X.fn x = true) (hst : X.stack = X.env :: X.outer) (hfr : X.env.frame = some X.env.locals) (hr : Room k X.A) (ha : PA X (e :: es) t) (hg : Gl X x := by rfl) (hj : j ≤ k := by first | decide | omega)
    (hdb : (x == ("__debug__" : Str)) = false := by decide) (he : starEach (e :: es) X.env = (false, eval e X.env) :: starEach es X.env := by rfl) (hpl : (backTo pos (starEach es X.env)).any (·.1) = false := by rfl) :
    PE X (.Call (.Name x p) (e :: es) [] pos) (tCallL X sp t) := by
  intro pins s σ H Q I q
  obtain ⟨f, fd, F, b, kp, m⟩ := h.ex
  refine wpAny_Call_Name_kw (ld_glob I hg m ?_ hdb)
  refine PySem.W.callWith_K (h₀ := X.base) I.ok.mod.kin kp (thn (ha pos pins s σ H _ I q) fun us s1 z => ?_) he hpl
  obtain ⟨vs, H1, I1, r, a, ob, ea, q⟩ := z
  refine ⟨I1.kIn, ?_⟩
  have I2 : Inv X pins σ (hide a H1) s1 := I1.drop ea
  have oa : s1.heap.get? a = some ob := (show ObjOk X.prog X.w H1 s1.heap a (foO ob a) from I1.hok a _ ea).1
  generalize hB : addB X.base s1.heap (a :: X.env.cells.filterMap fun d => X.env.cells.lookup d.1) = B
  have cin : ∀ y c, X.env.cells.lookup y = some c → c ∈ a :: X.env.cells.filterMap fun d => X.env.cells.lookup d.1 := fun y c z => .tail _ (List.mem_filterMap.mpr ⟨(y, c), PySem.mem_of_lookup z, z⟩)
  have cou : ∀ b, b ∈ a :: X.env.cells.filterMap (fun d => X.env.cells.lookup d.1) → b = a ∨ ∃ y, X.env.cells.lookup y = some b := fun b hb => by
    rcases List.mem_cons.mp hb with z | z
    · exact .inl z
    · obtain ⟨d, _, e⟩ := List.mem_filterMap.mp z
      exact .inr ⟨d.1, e⟩
  have sub : ∀ b o, X.base.get? b = some o → B.get? b = some o := fun b o z => hB ▸ addB_get (I1.bk b o z) (.inl ⟨o, z⟩)
  have up : ∀ b o, B.get? b = some o → s1.heap.get? b = some o ∧ hide a H1 b = none := fun b o z => by
    rw [← hB] at z
    obtain ⟨z1, z2⟩ := of_addB z
    refine ⟨z1, ?_⟩
    rcases z2 with ⟨u, z2⟩ | z2
    · exact (I2.bs b u z2).2
    · rcases cou b z2 with z3 | ⟨y, z3⟩
      · rw [z3]; exact hide_self
      · exact I2.freeC y b z3
  have clB : ∀ y c v, X.env.cells.lookup y = some c → s1.heap.IsCell c v → B.IsCell c v := fun y c v e ⟨o, z, d⟩ => ⟨o, hB ▸ addB_get z (.inr (cin y c e)), d⟩
  have nB : ∀ L ∈ frs X.stack, B.get? L = none := fun L hL => by
    cases z : B.get? L with
    | none => rfl
    | some o =>
      exfalso
      rw [← hB] at z
      obtain ⟨z1, z2⟩ := of_addB z
      rcases z2 with ⟨u, z2⟩ | z2
      · have := (I1.stack.mem hL).1
        rw [z2] at this
        cases this
      · rcases cou L z2 with z3 | ⟨y, z3⟩
        · have := I1.stkFree L hL
          rw [z3, ea] at this
          cases this
        · rcases List.mem_cons.mp (I1.stkSub L hL) with z4 | z4
          · exact I1.cne y L z3 z4
          · obtain ⟨_, o', ho', _⟩ := I1.ok.funs.mem z4
            exact absurd (Nat.lt_of_lt_of_le (Heap.lt_size ho') (I1.ok.cab y L (hfn y) z3)) (Nat.lt_irrefl _)
  have md := I1.ok.mod
  have kinB : X.K.In B := fun b o z => sub b o (md.kin b o z)
  have glbB : B.Ns mainGlobals X.mg := md.glob.keeps sub
  have modB : Mod X.K X.mg B := ⟨kinB, glbB, let ⟨mb, h1, h2⟩ := md.blt; ⟨mb, h1.keeps sub, h2⟩, md.nolimit.keeps sub⟩
  have szB : B.objs.size ≤ s1.heap.objs.size := by rw [← hB]; exact Nat.le_of_eq (PySem.W.hideAll_size _ _)
  have e0 : Env0 X.prog X.w X.K X.mg B X.A X.stack s1 (hide a H1) := ⟨I2.ok.frames, modB, up, szB, funFrames_swap I1.stack nB, I2.stkFree, I2.hok, I2.bare⟩
  have wid : Wid X σ a ob B := by
    refine ⟨kinB, glbB, sub, hB ▸ addB_get oa (.inr (.head _)), fun i y v h1 h2 h3 => ?_, fun y c z => ?_, I1.ok.inj⟩
    · obtain ⟨mm, _, hl⟩ := I1.loc
      obtain ⟨u, rv, lk⟩ := hl i y v h1 h2 (.inr (.inl h3))
      rcases lk with ⟨h4, _⟩ | ⟨_, c, h5, h6⟩
      · have h4 : X.env.scope.names.lookup y = some .local := h4
        rw [h3] at h4
        cases h4
      · exact ⟨c, u, h5, clB y c _ h5 h6, rv⟩
    · obtain ⟨v, h6⟩ := I1.cell y c z
      exact ⟨v, clB y c v z h6⟩
  have hsp := q B wid
  have FB := (F B kinB glbB).mono hj
  have hl : us.length = ps.length := by rw [← r.length]; exact FB.len _ _ _ _ hsp
  have hbi := b s1 us I1.kIn (by rw [List.append_nil]; exact hl)
  rw [List.append_nil] at hbi
  refine wpAny_call (codeAny_mono (FB.run X.A X.stack s1 (hide a H1) ⟨us, []⟩ us vs Q E0 hr e0 hbi r hsp) fun r s' hq => ?_)
  cases r with
  | error e => exact False.elim hq
  | ok fl =>
    cases fl with
    | ret u => exact I2.after hq
    | next => exact False.elim hq
    | brk => exact False.elim hq
    | cont => exact False.elim hq
end
end L2

namespace L2
open PySem PySem.Spec PyProof.Rows
/-- at the law's entry the tables in which lambdas are made are tracked -/
def entH (Ts : List Addr) (s : Hp) : Hp := fun b => if b ∈ Ts then some (.tbl #[]) else s b
theorem law_callT {P : Program} {w : World} {K : PySem.W.Frag} {mg mb : Str → Option Value} {k : Nat} {fa a : Addr} {fd : FuncData} {x : Str} {sp : Sp} {s₁ : Shared} {vs : List Value} {ns : List Int} {tabs : List (Addr × Addr)}
    (KX : K.In s₁.heap) (hns : s₁.heap.Ns mainGlobals mg) (hb : s₁.heap.Ns builtinsNs mb) (hbb : ∀ x : Str, x ≠ "__name__" → mb x = bootBuiltins x) (hlim : s₁.heap.NoLimit) (hg : s₁.gens = #[])
    (hbm : ∃ bm ob, mg "__builtins__" = some (.ref bm) ∧ bm ≠ builtinsNs ∧ s₁.heap.get? bm = some ob ∧ ob.cls = .type "module" ∧ ob.dict = some builtinsNs ∧ ob.data = .plain)
    (hT : PySem.W.TabsAt tabs s₁.heap) (hKT : ∀ T ∈ tabs.map (·.2), K.lookup T = none)
    (ha : s₁.heap.get? a = some { cls := .type "list", data := .seq vs.toArray }) (hi : IntsAre vs ns) (hl : ns.length ≤ sizeLine) (hr : Room k callerA)
    (F : ∀ base : Heap, K.In base → base.Ns mainGlobals mg → (∀ T ∈ tabs.map (·.2), base.BuiltinsAt mg T) → FnOk P w K mg base CX0 k fa fd [x] sp) (hbind : ∀ (s : Shared) (u : Value), BindsTo s fd ⟨[u], []⟩ [(x, u)])
    (hsp : ∀ H : Hp, SqL K H a (ns.map V.int) → (∀ T ∈ tabs.map (·.2), H T = some (.tbl #[])) → sp [.ref a] H (fun v _ => v = .bl true) fun _ _ _ => False) :
    codeAny (model P w) callerA (.call (.ref fa) ⟨[.ref a], []⟩) (fun r s' => r = .ok (.ret (.bool true)) ∧ OldK s₁.heap s'.heap ∧ s'.os = s₁.os ∧ AllBare s'.gens) s₁ := by
  have rv := vals_ints hi
  have lenV := hi.length
  have tabO : ∀ T ∈ tabs.map (·.2), s₁.heap.get? T = some (PySem.W.tabObj #[]) := fun T h => by
    obtain ⟨q, hq, rfl⟩ := List.mem_map.mp h
    exact (hT q hq).2
  have aT : a ∉ tabs.map (·.2) := fun z => by
    have := tabO a z
    rw [ha] at this
    cases this
  have core : ∀ S : Hp, SqL K S a (ns.map V.int) → HOk P w S s₁.heap → (∀ b, S b ≠ none → b = a) → (S a ≠ none → K.lookup a = none) → (∀ b u, S b = some u → ∃ o xs, u = .frz o (.lst xs)) →
      codeAny (model P w) callerA (.call (.ref fa) ⟨[.ref a], []⟩) (fun r s' => r = .ok (.ret (.bool true)) ∧ OldK s₁.heap s'.heap ∧ s'.os = s₁.os ∧ AllBare s'.gens) s₁ := by
    intro S hS hokS hA hK hfrz
    generalize hHd : entH (tabs.map (·.2)) S = H
    have HT : ∀ b, b ∈ tabs.map (·.2) → H b = some (.tbl #[]) := fun b h => by rw [← hHd]; exact if_pos h
    have HS : ∀ b, b ∉ tabs.map (·.2) → H b = S b := fun b h => by rw [← hHd]; exact if_neg h
    have hok : HOk P w H s₁.heap := fun b u e => by
      by_cases m : b ∈ tabs.map (·.2)
      · rw [HT b m] at e
        cases e
        exact tabO b m
      · rw [HS b m] at e
        obtain ⟨o, xs, rfl⟩ := hfrz b u e
        exact hokS b _ e
    have noN : ∀ {b : Addr} {o : Obj}, s₁.heap.get? b = some o → (∀ ps, o ≠ PySem.W.tabObj ps) → (∀ xs n, o.data ≠ .seq xs n) → H b = none := fun {b o} e n1 n2 => by
      by_cases m : b ∈ tabs.map (·.2)
      · exact absurd (Option.some.inj (e.symm.trans (tabO b m))) (n1 #[])
      · rw [HS b m]
        cases q : S b with
        | none => rfl
        | some u =>
          have e' : b = a := hA b (by rw [q]; exact fun z => nomatch z)
          subst e'
          rw [ha] at e
          cases e
          exact absurd rfl (n2 _ _)
    have base_of : ∀ {b : Addr} {o : Obj}, s₁.heap.get? b = some o → H b = none → (hidT s₁.heap H).get? b = some o := fun e n => hidT_get e n
    have nsK : ∀ {b : Addr} {m : Str → Option Value}, s₁.heap.Ns b m → (hidT s₁.heap H).Ns b m := fun {b m} ⟨o, es, ep, e, d, r⟩ => ⟨o, es, ep, base_of e (noN e (fun ps z => by rw [z] at d; cases d) fun xs n z => by rw [z] at d; cases d), d, r⟩
    have hKb : K.In (hidT s₁.heap H) := fun b o e => base_of (KX b o e) (by
      by_cases m : b ∈ tabs.map (·.2)
      · rw [hKT b m] at e; cases e
      · rw [HS b m]
        cases q : S b with
        | none => rfl
        | some u =>
          have e' : b = a := hA b (by rw [q]; exact fun z => nomatch z)
          subst e'
          rw [hK (by rw [q]; exact fun z => nomatch z)] at e
          cases e)
    have hM : Mod K mg (hidT s₁.heap H) := ⟨hKb, nsK hns, ⟨mb, nsK hb, hbb⟩, let ⟨mc, h1, h2⟩ := hlim; ⟨mc, nsK h1, h2⟩⟩
    have hBt : ∀ T ∈ tabs.map (·.2), (hidT s₁.heap H).BuiltinsAt mg T := fun T m => by
      obtain ⟨bm, ob, b1, b2, b3, b4, b5, b6⟩ := hbm
      refine ⟨bm, ob, b1, b2, fun z => ?_, fun z => ?_, base_of b3 (noN b3 (fun ps z => by rw [z] at b6; cases b6) fun xs n z => by rw [z] at b6; cases b6), b4, b5, b6⟩
      · obtain ⟨o, es, ep, e, d, _⟩ := hns
        rw [z, e] at b3
        cases b3
        rw [b6] at d
        cases d
      · rw [z, tabO T m] at b3
        cases b3
        cases b6
    have e0 : Env0 P w K mg (hidT s₁.heap H) callerA [] s₁ H := ⟨rfl, hM, fun b o e => of_hidT e, Nat.le_of_eq (hidT_size _ _), trivial, fun b hb => absurd (show b ∈ ([] : List Addr) from hb) (by simp), hok, .of_eq hg⟩
    have hS' : SqL K H a (ns.map V.int) := by
      rcases hS with (h | ⟨o, h⟩) | h
      · exact .inl (.inl (by rw [HS a aT]; exact h))
      · exact .inl (.inr ⟨o, by rw [HS a aT]; exact h⟩)
      · exact .inr h
    refine codeAny_mono ((F _ hKb (nsK hns) hBt).run callerA [] s₁ H ⟨[.ref a], []⟩ [.ref a] [.ref a] _ _ hr e0 (hbind s₁ (.ref a)) (.cons rfl .nil) (hsp H hS' HT)) fun r s' h => ?_
    cases r with
    | error e => exact False.elim h
    | ok fl =>
      cases fl with
      | next => exact False.elim h
      | brk => exact False.elim h
      | cont => exact False.elim h
      | ret u =>
        obtain ⟨v, H', os, bare, un, hok', r', q⟩ := h
        have q' : v = .bl true := q
        subst q'
        obtain rfl : u = Value.bool true := r'
        have oth : ∀ b o, s₁.heap.get? b = some o → b ∉ tabs.map (·.2) → s'.heap.get? b = some o := fun b o e m => by
          cases q : H b with
          | none => exact un.keep b o e q (by intro z; exact absurd (show b ∈ ([] : List Addr) from z) (by simp)) (by simp)
          | some u =>
            obtain ⟨ob, xs, rfl⟩ := hfrz b u (by rw [← HS b m]; exact q)
            have z2 := un.frzs b ob _ q
            obtain ⟨e1, _⟩ := hok b _ q
            obtain ⟨e2, _⟩ := hok' b _ z2
            rw [e] at e1
            cases e1
            exact e2
        have tab : ∀ b, b ∈ tabs.map (·.2) → ∃ more, s'.heap.get? b = some (PySem.W.tabObj more) := fun b m => by
          obtain ⟨more, z⟩ := un.tbls b #[] (HT b m)
          exact ⟨_, hok' b _ z⟩
        refine ⟨rfl, ⟨fun b o e => ?_, fun b o e => ?_⟩, os, bare⟩
        · by_cases m : b ∈ tabs.map (·.2)
          · obtain ⟨more, z⟩ := tab b m
            obtain ⟨t, ht, rfl⟩ := List.mem_map.mp m
            rw [tabO _ m] at e
            cases e
            refine .inr (.inl ⟨((hT t ht).1.tab (hT t ht).2).isCodeTable, rfl, #[], more, rfl, ?_⟩)
            rw [z]
            simp
          · exact .inl (oth b o e m)
        · by_cases m : b ∈ tabs.map (·.2)
          · obtain ⟨more, z⟩ := tab b m
            exact ⟨_, z⟩
          · exact ⟨o, oth b o e m⟩
  cases hk : K.lookup a with
  | some o =>
    have e := KX a o hk
    rw [ha] at e
    cases e
    refine core (fun _ => none) (.inr ⟨_, vs.toArray, _, hk, rfl, rfl, rfl, by rw [List.size_toArray, lenV]; exact hl, by simpa using rv⟩) (fun b u z => by have z' : (none : Option HO) = some u := z; cases z') (fun b z => absurd rfl z) (fun z => absurd rfl z) (fun b u z => by have z' : (none : Option HO) = some u := z; cases z')
  | none =>
    refine core (fun b => if b = a then some (.frz { cls := .type "list", data := .seq vs.toArray } (.lst (ns.map V.int))) else none) (.inl (.inr ⟨{ cls := .type "list", data := .seq vs.toArray }, if_pos rfl⟩)) (fun b u z => ?_) (fun b z => ?_) (fun _ => hk) fun b u z => ?_
    · by_cases hb : b = a
      · have z' := (if_pos hb).symm.trans z
        cases z'
        subst hb
        exact ⟨ha, by rw [List.length_map]; exact hl, vs, _, rv, ha⟩
      · have z' := (if_neg hb).symm.trans z
        cases z'
    · by_cases hb : b = a
      · exact hb
      · exact absurd (if_neg hb) z
    · by_cases hb : b = a
      · have z' := (if_pos hb).symm.trans z
        cases z'
        exact ⟨_, _, rfl⟩
      · have z' := (if_neg hb).symm.trans z
        cases z'
theorem walk_T {l : PySem.W.OpenLaw} {n k : Nat} {q : Program} {loose : List Str} {XP : (Str → Option Value) → Heap → Prop} {YP : World → Heap → Prop} {d : DefRec} {K : Params → PySem.W.Frag} {sp : World → Sp} {x : Str} {tabs : List (Addr × Addr)}
    (hn : l.most = some n) (hn2 : n ≤ sizeLine) (hdf : d.params.defaults = []) (hr : Room k callerA)
    (hY : ∀ (w : World) (h : Heap), YP w h → (K w.params).In h)
    (hT : ∀ (w : World) (mg mb : Str → Option Value) (loose' : List Str) (mean : ExcName → Option Value) (h : Heap), Top q loose' mean mg mb h → (K w.params).In h → PySem.W.TabsAt tabs h) (hKT : ∀ (w : World), ∀ T ∈ tabs.map (·.2), (K w.params).lookup T = none)
    (F : ∀ (w : World) (mg : Str → Option Value) (fa : Addr) (h : Heap), (K w.params).In h → h.Ns mainGlobals mg → mg d.name = some (.ref fa) →
      ∃ fd : FuncData, (∀ (s : Shared) (u : Value), BindsTo s fd ⟨[u], []⟩ [(x, u)]) ∧
        ∀ base : Heap, (K w.params).In base → base.Ns mainGlobals mg → (∀ T ∈ tabs.map (·.2), base.BuiltinsAt mg T) → FnOk l.prog w (K w.params) mg base CX0 k fa fd [x] (sp w))
    (hsp : ∀ (w : World) (H : Hp) (a : Addr) (ns : List Int), ns.length ≤ n → SqL (K w.params) H a (ns.map V.int) → (∀ T ∈ tabs.map (·.2), H T = some (.tbl #[])) → sp w [.ref a] H (fun v _ => v = .bl true) fun _ _ _ => False) :
    PySem.W.WalkO q loose XP YP l.row.toRowW d [] (fun f vs => PySem.call f vs) := by
  refine Att.attach_call hn hdf fun w s₀ s₁ mg mb fa o pm cd doc a vs ns G Y ho hd hcd hmg hobj hints hlen hg => ?_
  have KX := hY w _ Y
  obtain ⟨fd, hb, hF⟩ := F w mg fa _ KX G.T.g hmg
  exact law_callT KX G.T.g G.T.b G.T.builtins G.T.nolimit hg G.T.bmain (hT w mg mb _ _ _ G.T KX) (hKT w) hobj hints (Nat.le_trans hlen hn2) hr hF hb (fun H hS hTT => hsp w H a ns hlen hS hTT)
end L2

namespace L2
open PySem PySem.Spec PyProof.Rows
/-- list(x) of a list or a tuple, the module's part given -/
def rListK (K : PySem.W.Frag) : List V → Hp → VK → Prop := fun xs H Q => ∃ p ys, xs = [.ref p] ∧ (SqL K H p ys ∨ SqT K H p ys) ∧ ∀ l, H l = none → Q (.ref l) (upd H l (.lst ys))
end L2

namespace L2
open PySem PySem.Spec PyProof.Rows
/-! ### zip of two lists, walked by a pair of names -/
def Itz (K : PySem.W.Frag) (a b : Addr) : It :=
  ⟨fun i H => ∃ xs ys x y, SqL K H a xs ∧ SqL K H b ys ∧ xs[i]? = some x ∧ ys[i]? = some y,
   fun i H u H' => ∃ T x y, u = .ref T ∧ H T = none ∧ H' = upd H T (.tup [x, y]) ∧ ∀ xs ys, SqL K H a xs → SqL K H b ys → xs[i]? = some x ∧ ys[i]? = some y,
   fun i H => ∃ xs ys, SqL K H a xs ∧ SqL K H b ys ∧ (xs.length ≤ i ∨ ys.length ≤ i)⟩
section
variable {X : Cx} {pins : List (Addr × Obj)} {σ : St} {H : Hp} {s : Shared} {h' : Heap}
end
abbrev zipTn (z TI TO i1 i2 l1 l2 : Addr) : Nat → Heap → Prop := fun i h => IsZip h z TI TO .none ∧ IsPair h TI (.ref i1) (.ref i2) ∧ (∃ a b, IsPair h TO a b) ∧ h.IsListIter i1 l1 i ∧ h.IsListIter i2 l2 i
def iZip (K : PySem.W.Frag) (ta : TA) : TI := fun σ H R => ta σ H fun vs H1 => ∃ a b, vs = [.ref a, .ref b] ∧ (∃ xs, SqL K H1 a xs) ∧ (∃ ys, SqL K H1 b ys) ∧ R (Itz K a b) H1
end L2

namespace L2
open PySem PySem.Spec PyProof.Rows
end L2
namespace L2
open PySem PySem.Spec PyProof.Rows
/-- a row under other names -/
def sRen (N N' : List Str) (t : TS) : TS := fun D σ H => Hid N N' σ ∧ t { nx := fun σ' H' => Hid N N' σ' ∧ D.nx σ' H', rt := fun _ _ => False } σ H
end L2

namespace L2
open PySem PySem.Spec PyProof.Rows
def insSpec (l : Addr) (items : Array Value) (n : Nat) (x : Int) (y : Value) : PySem.Spec := fun _ R s => s.heap.get? l = some { cls := .type "list", dict := none, data := .seq items n, slots := #[] } ∧ R (.ok (.ret Value.none)) { s with heap := s.heap.update l (Obj.mapSeq fun xs => have k := if x < 0 then (x + (xs.size : Int)).toNat else min x.toNat xs.size; (xs.extract 0 k).push y ++ xs.extract k), toks := s.toks }
section
variable {X : Cx}
/-- xs.insert(i, y), i from 0 to how many there are -/
def rInsert : V → List V → Hp → VK → Prop := fun x vs H Q => ∃ (l : Addr) (xs : List V) (i : Nat) (y : V), x = .ref l ∧ vs = [.int i, y] ∧ H l = some (.lst xs) ∧ i ≤ xs.length ∧ xs.length < sizeLine ∧ i < 1000000 ∧ Q .non (upd H l (.lst (xs.take i ++ y :: xs.drop i)))
end
end L2

namespace L2
open PySem PySem.Spec PyProof.Rows

/-! ### a pen that holds the script itself: the script's address, the place, what is left -/
theorem Sq_same {K : PySem.W.Frag} {H H' : Hp} {a : Addr} {xs : List V} (s : Same H H') (h : SqL K H a xs) : SqL K H' a xs := by
  rcases h with h | h
  · rcases h with h | ⟨o, h⟩
    · exact .inl (.inl (s _ _ h))
    · exact .inl (.inr ⟨o, s _ _ h⟩)
  · exact .inr h
structure Pn (K : PySem.W.Frag) (S : Addr) (ns : List Int) (H : Hp) (a : Addr) : Prop where
  at_ : ∃ i r : Int, H a = some (.lst [.ref S, .int i, .int r])
  scr : SqL K H S (ns.map V.int)
  few : ns.length ≤ 63
section
variable {K : PySem.W.Frag} {S : Addr} {ns : List Int} {H H' : Hp} {a p : Addr}
theorem Pn.same (h : Pn K S ns H a) (g : Same H H') : Pn K S ns H' a := by
  obtain ⟨⟨i, r, e⟩, s, f⟩ := h
  exact ⟨⟨i, r, g _ _ e⟩, Sq_same g s, f⟩
theorem Pn.laid {o : HO} (h : Pn K S ns H a) (hp : H p = none) : Pn K S ns (upd H p o) a := h.same (same_laid hp o)
theorem Pn.ne (h : Pn K S ns H a) (hp : H p = none) : p ≠ a := by
  obtain ⟨⟨i, r, e⟩, _⟩ := h
  exact fun q => by rw [q, e] at hp; cases hp
theorem Pn.grw (h : Pn K S ns H a) (g : Same H H') : Grw a H H' := by
  obtain ⟨⟨i, r, e⟩, _⟩ := h
  exact grw_same e g
theorem Pn.upd (h : Pn K S ns H a) (i r : Int) : Pn K S ns (upd H a (.lst [.ref S, .int i, .int r])) a := by
  obtain ⟨⟨i0, r0, e⟩, s, f⟩ := h
  refine ⟨⟨i, r, upd_same⟩, ?_, f⟩
  rcases s with (s | ⟨o, s⟩) | s
  · refine .inl (.inl ?_)
    rw [upd_ne ?_]
    · exact s
    · intro z
      rw [z, e] at s
      cases ns with
      | nil => cases s
      | cons n ns => cases s
  · refine .inl (.inr ⟨o, ?_⟩)
    rw [upd_ne ?_]
    · exact s
    · intro z
      rw [z, e] at s
      cases s
  · exact .inr s
/-- a tuple is no pen -/
theorem Pn.tup {xs : List V} (h : Pn K S ns H a) (e : H p = some (.tup xs)) : hide a H p = some (.tup xs) := by
  obtain ⟨⟨i, r, e0⟩, _⟩ := h
  rw [hide_ne (fun z => by rw [z, e0] at e; cases e)]
  exact e
end
end L2

namespace L2
open PySem PySem.Spec PyProof.Rows

/-! ### the table of a set: places that rise -/
abbrev Ris (ps : Array Nat) : Prop := ps.toList.Pairwise (· < ·)
theorem ris_get {ps : Array Nat} (h : Ris ps) {i k : Nat} (hik : i < k) (hk : k < ps.size) : ps[i]'(by omega) < ps[k] := by
  have := List.pairwise_iff_getElem.mp h i k (by rw [Array.length_toList]; omega) (by rw [Array.length_toList]; exact hk) hik
  simpa using this
/-- how many places are below j, as the halving finds it -/
structure Cut (ps : Array Nat) (j b : Nat) : Prop where
  le : b ≤ ps.size
  lo : ∀ i (h : i < ps.size), i < b → ps[i] < j
  hi : ∀ i (h : i < ps.size), b ≤ i → j ≤ ps[i]
theorem cut_go {ps : Array Nat} {j : Nat} (h : Ris ps) : ∀ (fuel lo hi : Nat), hi ≤ ps.size → lo ≤ hi → hi - lo ≤ fuel → (∀ i (q : i < ps.size), i < lo → ps[i] < j) → (∀ i (q : i < ps.size), hi ≤ i → j ≤ ps[i]) → Cut ps j (SetTable.below.go ps j fuel lo hi)
  | 0, lo, hi, h1, h2, h3, h4, h5 => by
    have e : lo = hi := by omega
    subst e
    exact ⟨h1, h4, h5⟩
  | fuel + 1, lo, hi, h1, h2, h3, h4, h5 => by
    show Cut ps j (if lo < hi then if ps.getD ((lo + hi) / 2) j < j then SetTable.below.go ps j fuel ((lo + hi) / 2 + 1) hi else SetTable.below.go ps j fuel lo ((lo + hi) / 2) else lo)
    by_cases c : lo < hi
    · rw [if_pos c]
      have hm : (lo + hi) / 2 < ps.size := by omega
      have eg : ps.getD ((lo + hi) / 2) j = ps[(lo + hi) / 2] := by
        simp [Array.getD, hm]
      rw [eg]
      by_cases d : ps[(lo + hi) / 2] < j
      · rw [if_pos d]
        refine cut_go h fuel _ _ h1 (by omega) (by omega) (fun i q hi2 => ?_) h5
        by_cases e : i = (lo + hi) / 2
        · subst e; exact d
        · exact Nat.lt_trans (ris_get h (i := i) (k := (lo + hi) / 2) (by omega) hm) d
      · rw [if_neg d]
        refine cut_go h fuel _ _ (by omega) (by omega) (by omega) h4 (fun i q hi2 => ?_)
        by_cases e : i = (lo + hi) / 2
        · subst e; omega
        · have := ris_get h (i := (lo + hi) / 2) (k := i) (by omega) q
          omega
    · rw [if_neg c]
      have e : lo = hi := by omega
      subst e
      exact ⟨h1, h4, h5⟩
theorem below_cut {ps : Array Nat} (h : Ris ps) (j : Nat) : Cut ps j (SetTable.below ps j) :=
  cut_go h ps.size 0 ps.size (Nat.le_refl _) (Nat.zero_le _) (by omega) (fun i q z => by omega) (fun i q z => by omega)
theorem cut_mem {ps : Array Nat} {j b : Nat} (h : Ris ps) (c : Cut ps j b) (hm : j ∈ ps.toList) : ps[b]? = some j := by
  obtain ⟨k, hk, e⟩ := List.mem_iff_getElem.mp hm
  rw [Array.length_toList] at hk
  have e : ps[k] = j := by simpa using e
  have kb : b ≤ k := by
    by_cases q : k < b
    · have := c.lo k hk q; omega
    · omega
  have bk : b = k := by
    by_cases q : b = k
    · exact q
    · have h1 := ris_get h (i := b) (k := k) (by omega) hk
      have h2 := c.hi b (by omega) (Nat.le_refl _)
      omega
  subst bk
  rw [Array.getElem?_eq_getElem hk, e]
theorem slot_empty {t : SetTable} (h : Ris t.place) {j : Nat} (e : t.slot j = .empty) : j ∉ t.place.toList := fun hm => by
  have q := cut_mem h (below_cut h j) hm
  have e : (if (t.place[SetTable.below t.place j]? == some j) = true then SetTable.Slot.live (SetTable.below t.place j) else if SetTable.has t.dummies j = true then SetTable.Slot.dummy else SetTable.Slot.empty) = SetTable.Slot.empty := e
  rw [q] at e
  simp at e
theorem slot_nodummy {t : SetTable} (hd : t.dummies = #[]) (j : Nat) : t.slot j ≠ .dummy := by
  unfold SetTable.slot
  have : SetTable.has t.dummies j = false := by
    rw [hd]
    unfold SetTable.has
    rfl
  rw [this]
  intro e
  by_cases c : (t.place[SetTable.below t.place j]? == some j) = true
  · simp [c] at e
  · simp [c] at e
theorem adv_dummy (t : SetTable) (p : SetTable.Probe) (h : p.dummy = none) : (t.advance p).dummy = none := by
  unfold SetTable.advance
  by_cases c : p.more > 0
  · rw [if_pos c]; exact h
  · rw [if_neg c]; exact h
theorem probe_empty {t : SetTable} (hd : t.dummies = #[]) {hashAt : Nat → Int} {h : Int} : ∀ (fuel : Nat) (p : SetTable.Probe), p.dummy = none → ∀ {j d}, SetTable.probe.go t hashAt h fuel p = some (.empty j d) → d = none ∧ t.slot j = .empty
  | 0, p, hp, j, d, e => by cases e
  | fuel + 1, p, hp, j, d, e => by
    have e : (match t.slot p.j with
      | .empty => some (SetTable.Met.empty p.j p.dummy)
      | .dummy => SetTable.probe.go t hashAt h fuel (t.advance { p with dummy := some p.j })
      | .live i => if (hashAt i == h) = true then some (SetTable.Met.candidate p.j i (t.advance p)) else SetTable.probe.go t hashAt h fuel (t.advance p)) = some (.empty j d) := e
    cases q : t.slot p.j with
    | empty =>
      rw [q] at e
      cases e
      exact ⟨hp, q⟩
    | dummy => exact absurd q (slot_nodummy hd _)
    | live i =>
      rw [q] at e
      by_cases c : (hashAt i == h) = true
      · simp [c] at e
      · simp [c] at e
        exact probe_empty hd fuel _ (adv_dummy t p hp) e
theorem free_slot {t : SetTable} (hr : Ris t.place) (hd : t.dummies = #[]) {h : Int} {j : Nat} {d : Bool} (e : t.freeSlot h = some (j, d)) : d = false ∧ j ∉ t.place.toList := by
  unfold SetTable.freeSlot at e
  generalize q : t.probe (fun _ => h + 1) h (t.probeStart h) = r at e
  match r with
  | none => cases e
  | some (.candidate _ _ _) => cases e
  | some (.empty j' d') =>
    obtain ⟨e1, e2⟩ := probe_empty hd _ _ (show (t.probeStart h).dummy = none from rfl) q
    subst e1
    cases e
    exact ⟨rfl, slot_empty hr e2⟩
theorem insertAt_list {α : Type} (xs : Array α) (p : Nat) (x : α) (hp : p ≤ xs.size) : (SetTable.insertAt xs p x).toList = xs.toList.take p ++ x :: xs.toList.drop p := by
  unfold SetTable.insertAt
  simp [Array.toList_append, Array.toList_extract, List.extract_eq_drop_take]
  rw [List.take_of_length_le (by simp)]
theorem ris_insert {ps : Array Nat} (h : Ris ps) {j : Nat} (hn : j ∉ ps.toList) : Ris (SetTable.insertAt ps (SetTable.below ps j) j) := by
  have c := below_cut h j
  show (SetTable.insertAt ps (SetTable.below ps j) j).toList.Pairwise (· < ·)
  rw [insertAt_list _ _ _ c.le, List.pairwise_append]
  refine ⟨h.sublist (List.take_sublist _ _), List.pairwise_cons.mpr ⟨fun y hy => ?_, h.sublist (List.drop_sublist _ _)⟩, fun y hy z hz => ?_⟩
  · obtain ⟨k, hk, rfl⟩ := List.mem_iff_getElem.mp hy
    rw [List.length_drop, Array.length_toList] at hk
    rw [List.getElem_drop]
    have := c.hi (SetTable.below ps j + k) (by omega) (by omega)
    have ne : ps[SetTable.below ps j + k]'(by omega) ≠ j := fun q => hn (by
      rw [← q]
      exact Array.getElem_mem_toList _)
    have e : ps.toList[SetTable.below ps j + k]'(by rw [Array.length_toList]; omega) = ps[SetTable.below ps j + k]'(by omega) := by simp
    rw [e]
    omega
  · obtain ⟨k, hk, rfl⟩ := List.mem_iff_getElem.mp hy
    rw [List.length_take, Array.length_toList] at hk
    rw [List.getElem_take]
    have e : ps.toList[k]'(by rw [Array.length_toList]; omega) = ps[k]'(by omega) := by simp
    rw [e]
    have l1 := c.lo k (by omega) (by omega)
    rcases List.mem_cons.mp hz with rfl | hz
    · exact l1
    · obtain ⟨k2, hk2, rfl⟩ := List.mem_iff_getElem.mp hz
      rw [List.length_drop, Array.length_toList] at hk2
      rw [List.getElem_drop]
      have := c.hi (SetTable.below ps j + k2) (by omega) (by omega)
      have e2 : ps.toList[SetTable.below ps j + k2]'(by rw [Array.length_toList]; omega) = ps[SetTable.below ps j + k2]'(by omega) := by simp
      rw [e2]
      omega
theorem ris_range (n : Nat) : Ris (Array.range n) := by
  show (Array.range n).toList.Pairwise (· < ·)
  rw [Array.toList_range]
  exact List.pairwise_lt_range
theorem pw_filterMap {f : Nat → Option (Nat × Nat)} (hf : ∀ j x, f j = some x → x.1 = j) : ∀ (l : List Nat), l.Pairwise (· < ·) → ((l.filterMap f).map (·.1)).Pairwise (· < ·)
  | [], _ => List.Pairwise.nil
  | a :: l, h => by
    obtain ⟨h1, h2⟩ := List.pairwise_cons.mp h
    have ih := pw_filterMap hf l h2
    rw [List.filterMap_cons]
    cases q : f a with
    | none => exact ih
    | some x =>
      show (x.1 :: (l.filterMap f).map (·.1)).Pairwise (· < ·)
      refine List.pairwise_cons.mpr ⟨fun y hy => ?_, ih⟩
      obtain ⟨z, hz, rfl⟩ := List.mem_map.mp hy
      obtain ⟨k, hk, e⟩ := List.mem_filterMap.mp hz
      rw [hf a x q, hf k z e]
      exact h1 k hk
/-- a table that a walk may trust -/
structure Gd (t : SetTable) (b : Bool) : Prop where
  ris : Ris t.place
  dum : t.dummies = #[]
  led : t.led = b
theorem gd_standIn {t : SetTable} {b : Bool} (h : Gd t b) (n : Nat) : Gd (t.standIn n) b := ⟨ris_range n, rfl, h.led⟩
theorem gd_laid {mask finger moves : Nat} {led plain : Bool} {hashes : Array Int} {t : SetTable} {o : Array Nat} (e : SetTable.laid mask finger moves led plain hashes = some (t, o)) : Gd t led := by
  unfold SetTable.laid at e
  obtain ⟨owner, _, e⟩ := Option.bind_eq_some_iff.mp e
  cases e
  refine ⟨?_, rfl, rfl⟩
  refine pw_filterMap (f := fun j => Option.map (fun x => (j, x)) (owner.getD j none)) (fun j x h => ?_) (List.range (mask + 1)) List.pairwise_lt_range
  obtain ⟨y, _, rfl⟩ := Option.map_eq_some_iff.mp h
  rfl
theorem gd_layNew {t : SetTable} {b : Bool} {es : Array (Int × Value)} {h : Int} {x : Value} (g : Gd t b) : Gd (layNew t es h x).2.1 b ∧ (layNew t es h x).2.1.fits (layNew t es h x).1.size = true := by
  unfold layNew
  generalize q : t.freeSlot h = r
  match r with
  | none =>
    refine ⟨gd_standIn g _, ?_⟩
    show (t.standIn (es.size + 1)).fits (es.push (h, x)).size = true
    rw [Array.size_push]
    exact SetTable.standIn_fits _ _
  | some (slot, d) =>
    obtain ⟨_, hn⟩ := free_slot g.ris g.dum q
    refine ⟨?_, SetTable.orStandIn_fits _ _⟩
    show Gd ((t.put slot).1.orStandIn _) b
    unfold SetTable.orStandIn
    have gp : Gd (t.put slot).1 b := by
      refine ⟨ris_insert g.ris hn, ?_, g.led⟩
      show (if SetTable.has t.dummies slot = true then _ else t.dummies) = #[]
      have : SetTable.has t.dummies slot = false := by
        rw [g.dum]
        rfl
      rw [this]
      exact g.dum
    split
    · exact gp
    · exact gd_standIn gp _
theorem gd_relayAll {t : SetTable} {b : Bool} {es : Array (Int × Value)} {n : Nat} (g : Gd t b) : Gd (relayAll t es n).2.1 b ∧ (relayAll t es n).2.1.fits (relayAll t es n).1.size = true := by
  unfold relayAll
  generalize q : t.relaid (Array.map (fun x => x.fst) es) n = r
  match r with
  | none => exact ⟨gd_standIn g _, SetTable.standIn_fits _ _⟩
  | some (t', o) =>
    have gl := gd_laid q
    rw [g.led] at gl
    have key : ∀ r : Array (Int × Value) × SetTable × Bool, r = (if (coversAll o es.size && t'.fits (Array.filterMap (fun x => es[x]?) o).size) = true then (Array.filterMap (fun x => es[x]?) o, t', false) else (es, t.standIn es.size, true)) → Gd r.2.1 b ∧ r.2.1.fits r.1.size = true := by
      rintro r rfl
      by_cases c : (coversAll o es.size && t'.fits (Array.filterMap (fun x => es[x]?) o).size) = true
      · rw [if_pos c]
        rw [Bool.and_eq_true] at c
        exact ⟨gl, c.2⟩
      · rw [if_neg c]
        exact ⟨gd_standIn g _, SetTable.standIn_fits _ _⟩
    exact key _ rfl
theorem gd_plain {t : SetTable} {b p : Bool} (g : Gd t b) : Gd { t with plain := p } b := ⟨g.ris, g.dum, g.led⟩
end L2

namespace L2
open PySem PySem.Spec PyProof.Rows

instance decMemKey (k : Key) (ks : List Key) : Decidable (k ∈ ks) := @List.instDecidableMemOfLawfulBEq Key instBEqOfDecidableEq inferInstance k ks
/-! ### a set of keys, each once, whose table a walk may trust -/
def KeyE (P : Program) (w : World) (e : Int × Value) (k : Key) : Prop := (mixKind P w).is k e.2 = true ∧ e.1 = (mixKind P w).hash k ∧ e.2.scannable = true
def SetG (P : Program) (w : World) (h : Heap) (a : Addr) (ks : List Key) : Prop :=
  ∃ o es ep t, h.get? a = some o ∧ o.ExactSet ∧ o.data = .set es ep t ∧ (∃ fs, es.toList.Perm fs ∧ Paired (KeyE P w) fs ks) ∧ t.fits es.size = true ∧ Gd t (!w.params.followText "set-order") ∧ ks.Nodup
theorem Paired.mem1 {α β : Type} {F : α → β → Prop} : ∀ {xs : List α} {ys : List β}, Paired F xs ys → ∀ x ∈ xs, ∃ y ∈ ys, F x y
  | _, _, .nil, _, h => nomatch h
  | _, _, .cons f r, x, h => by
    rcases List.mem_cons.mp h with rfl | h
    · exact ⟨_, .head _, f⟩
    · obtain ⟨y, hy, q⟩ := Paired.mem1 r x h
      exact ⟨y, .tail _ hy, q⟩
theorem Paired.mem2 {α β : Type} {F : α → β → Prop} : ∀ {xs : List α} {ys : List β}, Paired F xs ys → ∀ y ∈ ys, ∃ x ∈ xs, F x y
  | _, _, .nil, _, h => nomatch h
  | _, _, .cons f r, y, h => by
    rcases List.mem_cons.mp h with rfl | h
    · exact ⟨_, .head _, f⟩
    · obtain ⟨x, hx, q⟩ := Paired.mem2 r y h
      exact ⟨x, .tail _ hx, q⟩
theorem Paired.snoc {α β : Type} {F : α → β → Prop} {x : α} {y : β} (f : F x y) : ∀ {xs : List α} {ys : List β}, Paired F xs ys → Paired F (xs ++ [x]) (ys ++ [y])
  | _, _, .nil => .cons f .nil
  | _, _, .cons g r => .cons g (Paired.snoc f r)
section
variable {prog : Program} {w : World} {A : Around} {E : Value → Shared → Prop} {s : Shared} {a : Addr} {ks : List Key}
theorem elems_of {es : List (Int × Value)} (h : ∃ fs, es.Perm fs ∧ Paired (KeyE prog w) fs ks) : ElemsOf (mixKind prog w) es := fun e he => by
  obtain ⟨fs, p, m⟩ := h
  obtain ⟨k, _, h1, h2, h3⟩ := Paired.mem1 m e (p.mem_iff.mp he)
  exact ⟨⟨k, h1, h2⟩, h3⟩
theorem elems_len {es : List (Int × Value)} (h : ∃ fs, es.Perm fs ∧ Paired (KeyE prog w) fs ks) : es.length = ks.length := by
  obtain ⟨fs, p, m⟩ := h
  rw [p.length_eq]
  exact Paired.length m
theorem find_in {es : List (Int × Value)} {k : Key} (h : ∃ fs, es.Perm fs ∧ Paired (KeyE prog w) fs ks) (hk : k ∈ ks) : ∃ j, es.findIdx? (fun e => (mixKind prog w).is k e.2) = some j := by
  obtain ⟨fs, p, m⟩ := h
  obtain ⟨e, he, q, _⟩ := Paired.mem2 m k hk
  have : (es.findIdx? (fun e => (mixKind prog w).is k e.2)).isSome = true := by
    rw [List.findIdx?_isSome]
    exact List.any_eq_true.mpr ⟨e, p.mem_iff.mpr he, q⟩
  exact Option.isSome_iff_exists.mp this
theorem find_out {es : List (Int × Value)} {k : Key} (h : ∃ fs, es.Perm fs ∧ Paired (KeyE prog w) fs ks) (hk : k ∉ ks) : es.findIdx? (fun e => (mixKind prog w).is k e.2) = none := by
  obtain ⟨fs, p, m⟩ := h
  rw [List.findIdx?_eq_none_iff]
  intro e he
  obtain ⟨k', hk', q, _⟩ := Paired.mem1 m e (p.mem_iff.mp he)
  refine Bool.eq_false_iff.mpr fun z => hk ?_
  rw [(mixKind prog w).inj _ _ _ z q]
  exact hk'
theorem hash_any {x : Value} {Q : Bool → Shared → Prop} (hs : x.scannable = true) (q : ∀ b, Q b s) : wpAny (model prog w) A (hashByValue 8 x) Q E s := by
  cases x with
  | none => exact (wpAny_pure (q true) : wpAny _ _ (pure true) _ _ _)
  | bool b => exact (wpAny_pure (q true) : wpAny _ _ (pure true) _ _ _)
  | int i t => exact (wpAny_pure (q true) : wpAny _ _ (pure true) _ _ _)
  | str z t => exact (wpAny_pure (q false) : wpAny _ _ (pure false) _ _ _)
  | bytes z t => exact (wpAny_pure (q false) : wpAny _ _ (pure false) _ _ _)
  | _ => cases hs
theorem put_set {o : Obj} {es : Array (Int × Value)} {ep : Nat} {t : SetTable} {es' : Array (Int × Value)} {t' : SetTable} {h : Heap} (ho : h.get? a = some o) (hx : o.ExactSet) (hd : o.data = .set es ep t) :
    ∃ o', (h.update a (Obj.putSet es' t')).get? a = some o' ∧ o'.ExactSet ∧ o'.data = .set es' (ep + 1) t' := by
  obtain ⟨c, d, dt, sl⟩ := o
  simp only at hd
  subst hd
  exact ⟨_, Heap.get?_update_self _ ho rfl, hx, rfl⟩
theorem fits_plain {t : SetTable} {n : Nat} {p : Bool} (h : t.fits n = true) : SetTable.fits { t with plain := p } n = true := h
theorem add_set {k : Key} {x : Value} {Q : Bool → Shared → Prop} (hk : (mixKind prog w).is k x = true) (hs : x.scannable = true) (G : SetG prog w s.heap a ks) (hb : ks.length + 1 < scanBound)
    (fin : ∀ b h', Heap.SameBut a s.heap h' → SetG prog w h' a (if k ∈ ks then ks else ks ++ [k]) → Q b { s with heap := h' }) : wpAny (model prog w) A (setAddHashed a x ((mixKind prog w).hash k)) Q E s := by
  obtain ⟨o, es, ep, t, ho, hex, hd, hf, fit, gd, nd⟩ := G
  have els := elems_of hf
  have len := elems_len hf
  rw [Array.length_toList] at len
  unfold setAddHashed
  refine wpAny_holding ?_
  rw [show (100000 : Nat) = 99999 + 1 from rfl, setAddHashedIn.eq_def]
  refine wpAny_bind (wpAny_setState_of ho hd fit ?_)
  dsimp only
  rw [byScan_of hs (by omega) els, if_pos rfl]
  refine wpAny_bind ?_
  unfold setAddByScan
  refine wpAny_bind (wpAny_rule ?_)
  refine wpAny_bind (wpAny_setScan_of hk ho hd fit els ?_)
  by_cases hin : k ∈ ks
  · obtain ⟨j, ej⟩ := find_in hf hin
    rw [ej]
    refine wpAny_pure (wpAny_pure (fin false s.heap ⟨rfl, fun _ _ => rfl⟩ ?_))
    rw [if_pos hin]
    exact ⟨o, es, ep, t, ho, hex, hd, hf, fit, gd, nd⟩
  · rw [find_out hf hin]
    rw [if_neg hin] at fin
    have lp := layNew_perm t es ((mixKind prog w).hash k) x
    obtain ⟨gl, fl⟩ := gd_layNew (es := es) (h := (mixKind prog w).hash k) (x := x) gd
    dsimp only
    generalize layNew t es ((mixKind prog w).hash k) x = L at lp gl fl ⊢
    obtain ⟨es1, t1, wd, gv⟩ := L
    dsimp only at lp gl fl ⊢
    have nd2 : (ks ++ [k]).Nodup := by
      rw [List.nodup_append]
      exact ⟨nd, List.nodup_cons.mpr ⟨fun h => (nomatch h), List.nodup_nil⟩, fun y hy z hz e => hin (by rw [← List.mem_singleton.mp hz, ← e]; exact hy)⟩
    have hf1 : ∃ fs, es1.toList.Perm fs ∧ Paired (KeyE prog w) fs (ks ++ [k]) := by
      obtain ⟨fs, p, m⟩ := hf
      refine ⟨fs ++ [((mixKind prog w).hash k, x)], lp.trans ?_, Paired.snoc ⟨hk, rfl, hs⟩ m⟩
      rw [Array.toList_push]
      exact p.append_right _
    have sz1 : es1.size ≤ sizeLine := by
      have := elems_len hf1
      rw [Array.length_toList, List.length_append, List.length_singleton] at this
      exact small_le (by unfold scanBound at hb; omega)
    have main : ∀ t2 : SetTable, Gd t2 (!w.params.followText "set-order") → t2.fits es1.size = true → wpAny (model prog w) A (do
        storeSet a es1 t2
        if (!wd && t2.tooFull) = true then
          match relayAll t2 es1 (SetTable.grown es1.size) with
          | (es, t, gave) => do
            (match gave with | true => rule "set.scan.the-table-gave-way" | false => pure ())
            storeSet a es t
            pure (some true)
        else pure (some true)) (fun r s' => wpAny (model prog w) A (match r with | some added => pure added | none => setAddHashedIn a x ((mixKind prog w).hash k) 99999) Q E s') E s := by
      intro t2 g2 f2
      refine wpAny_bind (wpAny_storeSet_of ho hd ?_ sz1)
      obtain ⟨o1, ho1, hx1, hd1⟩ := put_set (es' := es1) (t' := t2) ho hex hd
      by_cases c : (!wd && t2.tooFull) = true
      · rw [if_pos c]
        have rp := relayAll_perm t2 es1 (SetTable.grown es1.size)
        obtain ⟨gr, fr⟩ := gd_relayAll (es := es1) (n := SetTable.grown es1.size) g2
        generalize relayAll t2 es1 (SetTable.grown es1.size) = R at rp gr fr ⊢
        obtain ⟨es2, t3, gv2⟩ := R
        dsimp only at rp gr fr ⊢
        have sz2 : es2.size ≤ sizeLine := by
          have := rp.length_eq
          rw [Array.length_toList, Array.length_toList] at this
          omega
        have store : wpAny (model prog w) A (do
            storeSet a es2 t3
            pure (some true)) (fun r s' => wpAny (model prog w) A (match r with | some added => pure added | none => setAddHashedIn a x ((mixKind prog w).hash k) 99999) Q E s') E { s with heap := s.heap.update a (Obj.putSet es1 t2) } := by
          refine wpAny_bind (wpAny_storeSet_of ho1 hd1 (wpAny_pure (wpAny_pure (fin true _ ((Heap.SameBut.update _ _ _).trans (Heap.SameBut.update _ _ _)) ?_))) sz2)
          obtain ⟨o2, ho2, hx2, hd2⟩ := put_set (es' := es2) (t' := t3) ho1 hx1 hd1
          obtain ⟨fs, p, m⟩ := hf1
          exact ⟨o2, es2, _, t3, ho2, hx2, hd2, ⟨fs, rp.trans p, m⟩, fr, gr, nd2⟩
        cases gv2 with
        | true => exact wpAny_bind (wpAny_rule store)
        | false => exact wpAny_bind (wpAny_pure store)
      · rw [if_neg c]
        refine wpAny_pure (wpAny_pure (fin true _ (Heap.SameBut.update _ _ _) ?_))
        exact ⟨o1, es1, _, t2, ho1, hx1, hd1, hf1, f2, g2, nd2⟩
    have both : ∀ b : Bool, wpAny (model prog w) A (do
        storeSet a es1 (if b = true then t1 else { t1 with plain := false })
        if (!wd && (if b = true then t1 else { t1 with plain := false }).tooFull) = true then
          match relayAll (if b = true then t1 else { t1 with plain := false }) es1 (SetTable.grown es1.size) with
          | (es, t, gave) => do
            (match gave with | true => rule "set.scan.the-table-gave-way" | false => pure ())
            storeSet a es t
            pure (some true)
        else pure (some true)) (fun r s' => wpAny (model prog w) A (match r with | some added => pure added | none => setAddHashedIn a x ((mixKind prog w).hash k) 99999) Q E s') E s := fun b => by
      cases b with
      | true => exact main t1 gl fl
      | false => exact main { t1 with plain := false } (gd_plain gl) (fits_plain fl)
    have tail : wpAny (model prog w) A (if t1.plain = true then hashByValue 8 x >>= fun b => (do
        storeSet a es1 (if b = true then t1 else { t1 with plain := false })
        if (!wd && (if b = true then t1 else { t1 with plain := false }).tooFull) = true then
          match relayAll (if b = true then t1 else { t1 with plain := false }) es1 (SetTable.grown es1.size) with
          | (es, t, gave) => do
            (match gave with | true => rule "set.scan.the-table-gave-way" | false => pure ())
            storeSet a es t
            pure (some true)
        else pure (some true)) else pure true >>= fun b => (do
        storeSet a es1 (if b = true then t1 else { t1 with plain := false })
        if (!wd && (if b = true then t1 else { t1 with plain := false }).tooFull) = true then
          match relayAll (if b = true then t1 else { t1 with plain := false }) es1 (SetTable.grown es1.size) with
          | (es, t, gave) => do
            (match gave with | true => rule "set.scan.the-table-gave-way" | false => pure ())
            storeSet a es t
            pure (some true)
        else pure (some true))) (fun r s' => wpAny (model prog w) A (match r with | some added => pure added | none => setAddHashedIn a x ((mixKind prog w).hash k) 99999) Q E s') E s := by
      by_cases c : t1.plain = true
      · rw [if_pos c]
        exact wpAny_bind (hash_any hs both)
      · rw [if_neg c]
        exact wpAny_bind (wpAny_pure (both true))
    cases gv with
    | true => exact wpAny_bind (wpAny_rule tail)
    | false => exact wpAny_bind (wpAny_pure tail)
end
end L2

namespace L2
open PySem PySem.Spec PyProof.Rows
theorem chk_new (a : Value) : checkBuiltinCall "set.__new__" ⟨[.type "set", a], []⟩ = pure () := by kernel_rfl
theorem cls_new (a : Value) : Builtin.Frozenset.newClass "set" ⟨[.type "set", a], []⟩ = pure (.type "set", [a]) := by kernel_rfl
def ddK : List Key → List Key → List Key
  | acc, [] => acc
  | acc, k :: r => ddK (if k ∈ acc then acc else acc ++ [k]) r
theorem ddK_snoc (k : Key) : ∀ (l acc : List Key), ddK acc (l ++ [k]) = if k ∈ ddK acc l then ddK acc l else ddK acc l ++ [k]
  | [], acc => rfl
  | x :: l, acc => ddK_snoc k l _
theorem ddK_len : ∀ (l acc : List Key), (ddK acc l).length ≤ acc.length + l.length
  | [], acc => Nat.le_refl _
  | x :: l, acc => by
    have := ddK_len l (if x ∈ acc then acc else acc ++ [x])
    show (ddK (if x ∈ acc then acc else acc ++ [x]) l).length ≤ _
    rw [List.length_cons]
    by_cases h : x ∈ acc
    · rw [if_pos h] at this ⊢; omega
    · rw [if_neg h] at this ⊢
      rw [List.length_append, List.length_singleton] at this
      omega
theorem ddK_mem : ∀ (l acc : List Key) (k : Key), k ∈ ddK acc l ↔ k ∈ acc ∨ k ∈ l
  | [], acc, k => ⟨.inl, fun h => h.elim id (fun h => nomatch h)⟩
  | x :: l, acc, k => by
    show k ∈ ddK (if x ∈ acc then acc else acc ++ [x]) l ↔ _
    rw [ddK_mem l _ k]
    by_cases h : x ∈ acc
    · rw [if_pos h, List.mem_cons]
      constructor
      · rintro (q | q)
        · exact .inl q
        · exact .inr (.inr q)
      · rintro (q | rfl | q)
        · exact .inl q
        · exact .inl h
        · exact .inr q
    · rw [if_neg h, List.mem_cons, List.mem_append, List.mem_singleton]
      constructor
      · rintro ((q | q) | q)
        · exact .inl q
        · exact .inr (.inl q)
        · exact .inr (.inr q)
      · rintro (q | q | q)
        · exact .inl (.inl q)
        · exact .inl (.inr q)
        · exact .inr q
theorem ddK_nd : ∀ (l acc : List Key), acc.Nodup → (ddK acc l).Nodup
  | [], acc, h => h
  | x :: l, acc, h => by
    refine ddK_nd l _ ?_
    by_cases c : x ∈ acc
    · rw [if_pos c]; exact h
    · rw [if_neg c, List.nodup_append]
      exact ⟨h, List.nodup_cons.mpr ⟨fun h => (nomatch h), List.nodup_nil⟩, fun y hy z hz e => c (by rw [← List.mem_singleton.mp hz, ← e]; exact hy)⟩
section
variable {prog : Program} {w : World} {A : Around} {E : Value → Shared → Prop} {s : Shared}
abbrev bareSetG (w : World) : Obj := { cls := .type "set", dict := none, data := .set #[] 0 (.fresh 0 0 (!w.params.followText "set-order")) }
theorem code_set_newG (a : Value) {Q₁ : Value → Shared → Prop}
    (h : Q₁ (.ref s.heap.objs.size) { s with heap := s.heap.push (bareSetG w) }) :
    codeAny (model prog w) A (.call (.builtin "set.__new__") ⟨[.type "set", a], []⟩) (wants Q₁ E) s := by
  refine codeAny_call_builtin PySem.F.plain_set_new PySem.F.entry_set_new ?_
  rw [chk_new]
  refine wpAny_pure ?_
  unfold Builtin.«set.__new__»
  rw [cls_new]
  refine wpAny_bind (wpAny_pure (wpAny_bind ?_))
  unfold newSet setsByText
  refine wpAny_bind (wpAny_bind (wpAny_askSetting (wpAny_pure ?_)))
  exact wpAny_newObj_type (wpAny_pure h)
theorem setG_keep {h h' : Heap} {a : Addr} {ks : List Key} (q : SetG prog w h a ks) (k : ∀ o, h.get? a = some o → h'.get? a = some o) : SetG prog w h' a ks := by
  obtain ⟨o, es, ep, t, ho, r⟩ := q
  exact ⟨o, es, ep, t, k o ho, r⟩
theorem setG_bare {h : Heap} {a : Addr} (e : h.get? a = some (bareSetG w)) : SetG prog w h a [] :=
  ⟨_, #[], 0, _, e, ⟨rfl, rfl, rfl⟩, rfl, ⟨[], List.Perm.refl _, .nil⟩, by rfl, ⟨List.Pairwise.nil, rfl, rfl⟩, List.nodup_nil⟩
end
section
variable {prog : Program} {w : World} {A : Around} {R : Result → Shared → Prop} {I : Addr} {fp wr : List Addr} {n : Nat} {P : Nat → Value → Prop} {St : Nat → Heap → Prop}
theorem upd_loopK (W : Walks prog w A.in1 I fp wr n P St) (S : Addr) (hS : S ∉ fp) (ks : List Key) (hzn : ks.length = n) (hv : ∀ (i : Nat) v, P i v → ∃ k, ks[i]? = some k ∧ (mixKind prog w).is k v = true ∧ v.scannable = true) (hb : n + 1 < scanBound) :
    ∀ (m i : Nat) (s : Shared), n - i = m → i ≤ n → St i s.heap → SetG prog w s.heap S (ddK [] (ks.take i)) →
      (∀ h' tk, (∀ b o, b ∉ S :: wr → s.heap.get? b = some o → h'.get? b = some o) → SetG prog w h' S (ddK [] ks) → R (.ok (.ret .none)) { s with heap := h', toks := tk }) →
      codeAny (model prog w) A (.builtin "set.update.loop" ⟨[.ref S, .ref I], []⟩) R s := by
  have hSw : S ∉ wr := fun q => hS (W.sub _ q)
  intro m
  induction m with
  | zero =>
    intro i s hk hi st so fin
    obtain rfl : i = n := by omega
    refine codeAny_builtin PyProof.Rows.F.entry_set_update_loop ?_
    rw [Around.under_plainId PyProof.Rows.F.plain_set_update_loop _]
    refine wpAny_bind (m := pyNext (.ref I)) (W.done s _ _ st fun h' tk kp => wpAny_pure (fin h' tk (fun b o nb e => kp b o (fun q => nb (List.mem_cons_of_mem _ q)) e) ?_))
    rw [← hzn, List.take_length] at so
    exact setG_keep so fun o e => kp S o hSw e
  | succ m ih =>
    intro i s hk hi st so fin
    have hlt : i < n := by omega
    refine codeAny_builtin PyProof.Rows.F.entry_set_update_loop ?_
    rw [Around.under_plainId PyProof.Rows.F.plain_set_update_loop _]
    refine wpAny_bind (m := pyNext (.ref I)) (W.item i s _ _ hlt st fun v h1 tk1 pv st1 kp1 => ?_)
    obtain ⟨k, hkk, hk1, hk2⟩ := hv i v pv
    have so1 := setG_keep so fun o e => kp1 S o hSw e
    refine wpAny_bind (m := holding [v] (setAdd S v)) (wpAny_holding ?_)
    unfold setAdd
    refine wpAny_holding (wpAny_bind ((mixKind prog w).pyHash hk1 ?_))
    have room := ddK_len (ks.take i) []
    rw [List.length_take, List.length_nil] at room
    refine add_set hk1 hk2 (s := { s with heap := h1, toks := tk1 + 1 }) so1 (by omega) fun b h2 sb so2 => ?_
    have et : ks.take (i + 1) = ks.take i ++ [k] := by rw [List.take_add_one, hkk]; rfl
    rw [← ddK_snoc, ← et] at so2
    refine wpAny_pure ⟨plainId_quiet PyProof.Rows.F.plain_set_update_loop _, ih (i + 1) _ (by omega) hlt (W.frame _ _ _ st1 fun b hb o e => (sb.2 b fun q => hS (by rw [← q]; exact hb)).trans e) so2 fun h' tk kp so' => fin h' tk (fun b o nb e => kp b o nb ?_) so'⟩
    have nS : b ≠ S := fun q => nb (by rw [q]; exact List.mem_cons_self)
    exact (sb.2 b nS).trans (kp1 b o (fun q => nb (List.mem_cons_of_mem _ q)) e)
end
section
variable {prog : Program} {w : World} {A : Around} {E : Value → Shared → Prop} {s : Shared}
theorem kV_is2 {k : Key} {u : Value} (r : RelV (kV k) u) : (mixKind prog w).is k u = true ∧ u.scannable = true := by
  cases k with
  | inl i => obtain ⟨t, rfl⟩ := r; exact ⟨mixKind_int prog w i t, rfl⟩
  | inr x => obtain ⟨t, rfl⟩ := r; exact ⟨mixKind_str prog w x t, rfl⟩
/-- what set.__init__ does with a list of ints and texts -/
theorem init_keys {l : Addr} {its : List Value} {ks : List Key} {R : Value → Shared → Prop} (hh : A.handled = none) (hl : s.heap.IsList l its.toArray) (hv : Vals (ks.map kV) its) (hb : its.length + 1 < scanBound)
    (h : ∀ (h' : Heap) (tk : Nat), SetG prog w h' s.heap.objs.size (ddK [] ks) → (∀ b o, b < s.heap.objs.size → s.heap.get? b = some o → h'.get? b = some o) → R .none { s with heap := h', toks := tk }) :
    codeAny (model prog w) A (.call (.builtin "set.__init__") ⟨[.ref s.heap.objs.size, .ref l], []⟩) (wants R E) { s with heap := s.heap.push (bareSetG w) } := by
  have own : (s.heap.push (bareSetG w)).get? s.heap.objs.size = some (bareSetG w) := Heap.get?_push_size _ rfl
  have ty : Shared.TypeIs { s with heap := s.heap.push (bareSetG w) } (.ref s.heap.objs.size) "set" := ⟨_, own, rfl⟩
  refine codeAny_call_builtin PySem.F.called_set.init.plain PySem.F.entry_set_init (check_set_init_1 ty ?_)
  obtain ⟨⟨c0, d0, dt0, sl0⟩, ho, hc, nl, hd⟩ := hl
  simp only at hc hd
  subst hc hd
  have ho1 : (s.heap.push (bareSetG w)).get? l = some { cls := .type "list", dict := d0, data := .seq its.toArray nl, slots := sl0 } := Heap.get?_push_of_some _ ho
  have hl1 : (s.heap.push (bareSetG w)).IsList l its.toArray := ⟨_, ho1, rfl, nl, rfl⟩
  have f1 := PySem.F.sub_list_set
  have f2 := PySem.F.sub_list_frozenset
  have f3 : (Value.type "list" == Value.type "dict") = false := by decide
  unfold Builtin.«set.__init__» noKeywords Builtin.Frozenset.updateFrom
  generalize hP : pyIter = PI
  wp_walk
  subst hP
  refine wpAny_pyIter_list hl1 (wpAny_bind (wpAny_runValue ?_))
  have lt0 : l < s.heap.objs.size := Heap.lt_size ho
  have hz : ks.length = its.length := by
    have := hv.length
    rw [List.length_map] at this
    exact this
  have ne0 : l ≠ (s.heap.push (bareSetG w)).objs.size := by rw [Heap.size_push]; exact Nat.ne_of_lt (Nat.lt_succ_of_lt lt0)
  have nin : s.heap.objs.size ∉ [(s.heap.push (bareSetG w)).objs.size, l] := by
    rw [Heap.size_push]
    simp only [List.mem_cons, List.not_mem_nil, or_false, not_or]
    exact ⟨Nat.ne_of_lt (Nat.lt_succ_self _), Nat.ne_of_gt lt0⟩
  have hh3 : A.in1.in1.handled = none := by simp [hh]
  refine upd_loopK (Walks.list hh3 _ l ne0 its.toArray) s.heap.objs.size nin ks (by rw [List.size_toArray]; exact hz) (fun i v e => ?_) (by rw [List.size_toArray]; exact hb) (its.toArray.size - 0) 0 _ (by omega) (Nat.zero_le _) ?st ?_ ?_
  case st => exact ⟨⟨_, Heap.get?_push_size _ rfl, rfl, rfl⟩, hl1.push _⟩
  · have e' : its[i]? = some v := by simpa using e
    have hi : i < ks.length := by
      rw [hz]
      exact (List.getElem?_eq_some_iff.mp e').1
    obtain ⟨u, hu, ru⟩ := hv.get (i := i) (x := kV ks[i]) (by rw [List.getElem?_map, List.getElem?_eq_getElem hi]; rfl)
    rw [e'] at hu
    cases hu
    exact ⟨ks[i], List.getElem?_eq_getElem hi, kV_is2 ru⟩
  · have g2 : ((s.heap.push (bareSetG w)).push { cls := .type "list_iterator", data := .fields #[.ref l, .int 0 0] }).get? s.heap.objs.size = some (bareSetG w) := Heap.get?_push_of_some _ own
    exact setG_bare g2
  · intro h' tk kp so
    refine wpAny_pure (wpAny_pure (h h' tk so fun b o hb2 e => kp b o ?_ (Heap.get?_push_of_some _ (Heap.get?_push_of_some _ e))))
    simp only [List.mem_cons, List.not_mem_nil, or_false, not_or]
    exact ⟨Nat.ne_of_lt hb2, by rw [Heap.size_push]; exact Nat.ne_of_lt (Nat.lt_succ_of_lt hb2)⟩
theorem call_set_keys {l : Addr} {its : List Value} {ks : List Key} {Q : Value → Shared → Prop} (hh : A.handled = none) (hl : s.heap.IsList l its.toArray) (hv : Vals (ks.map kV) its) (hb : its.length + 1 < scanBound)
    (h : ∀ (h' : Heap) (tk : Nat), SetG prog w h' s.heap.objs.size (ddK [] ks) → (∀ b o, b < s.heap.objs.size → s.heap.get? b = some o → h'.get? b = some o) → Q (.ref s.heap.objs.size) { s with heap := h', toks := tk }) :
    wpAny (model prog w) A (call (.type "set") [.ref l]) Q E s := by
  obtain ⟨c, tl, hmro⟩ := PySem.F.called_set.mro
  have k1 := PySem.F.called_set.made
  have k2 := PySem.F.called_set.sub
  have k3 := PySem.F.called_set.notType
  have k4 := PySem.F.called_set.canCreate
  have k5 := PySem.F.typeCall_set_1 (.ref l)
  refine wpAny_call (codeAny_of_tree ?_)
  show wpAny _ _ (callAny (.type "set") _) _ _ _
  refine wpAny_pure ⟨Code.quiet_builtin _ (by decide +kernel), codeAny_builtin PySem.F.entry_type_call ?_⟩
  rw [Around.under_plain (weight_type_call_type "set" [.ref l] []) rfl]
  repeat (any_goals (first | assumption | wp_step))
  refine codeAny_mono (code_set_newG (.ref l) (E := E) (Q₁ := fun obj s1 => obj = .ref s.heap.objs.size ∧ s1 = { s with heap := s.heap.push (bareSetG w) }) ⟨rfl, rfl⟩) fun r s1 hr => ?_
  cases r with
  | error e => exact hr
  | ok fl =>
    cases fl with
    | ret obj =>
      obtain ⟨rfl, rfl⟩ := hr
      have own : (s.heap.push (bareSetG w)).get? s.heap.objs.size = some (bareSetG w) := Heap.get?_push_size _ rfl
      have ty : Shared.TypeIs { s with heap := s.heap.push (bareSetG w) } (.ref s.heap.objs.size) "set" := ⟨_, own, rfl⟩
      have k6 := PySem.F.called_set.init.lookup
      have k7 := PySem.F.called_set.init.bind (.ref s.heap.objs.size)
      repeat (any_goals (first | assumption | wp_step))
      refine codeAny_mono (init_keys (R := fun r s2 => r = .none ∧ ∃ h' tk, s2 = { s with heap := h', toks := tk } ∧ SetG prog w h' s.heap.objs.size (ddK [] ks) ∧ (∀ b o, b < s.heap.objs.size → s.heap.get? b = some o → h'.get? b = some o)) (E := E) (by simp [hh]) hl hv hb fun h' tk so kp => ⟨rfl, h', tk, rfl, so, kp⟩) fun r2 s2 hr2 => ?_
      cases r2 with
      | error e => exact hr2
      | ok fl2 =>
        cases fl2 with
        | ret r =>
          obtain ⟨rfl, h', tk, rfl, so, kp⟩ := hr2
          repeat (any_goals (first | assumption | wp_step))
          exact h _ _ so kp
        | _ => exact hr2.elim
    | _ => exact hr.elim
end
/-- a set of ints and texts that nothing changes -/
def keySet (prog : Program) (w : World) (a : Addr) (ks : List Key) : HO := .ext fun h => SetG prog w h a ks
section
variable {X : Cx}
theorem call_setK (hc : X.calm = true) : CallR X (.type "set") (fun xs H Q => ∃ (p : Addr) (ks : List Key), xs = [.ref p] ∧ SqL X.K H p (ks.map kV) ∧ ks.length < 4000 ∧ ∀ a, H a = none → Q (.ref a) (upd H a (keySet X.prog X.w a (ddK [] ks)))) := by
  intro pins s σ H xs us Q I r h
  obtain ⟨p, ks, rfl, hq, hz, q⟩ := h
  obtain ⟨u, rfl, ru⟩ := vals1 r
  cases ru
  obtain ⟨its, rv, pl, _⟩ := I.list hq
  have hl := rv.length
  rw [List.length_map] at hl
  refine call_set_keys (I.ok.hd hc) pl.isList rv (by unfold scanBound; omega) fun h' tk so kp => ?_
  refine ⟨.ref s.heap.objs.size, _, I.laid (t' := tk) (fun b o e => kp b o (Heap.lt_size e) e) (Nat.le_refl _) (show ObjOk X.prog X.w _ h' _ (keySet X.prog X.w s.heap.objs.size (ddK [] ks)) from ?_), rfl, q _ (I.hok.fresh (Nat.le_refl _))⟩
  refine ⟨so, ?_, fun h1 h2 a k => ?_⟩
  · obtain ⟨o, _, _, _, ho, _⟩ := so
    exact ⟨o, ho⟩
  · exact setG_keep a k
end
end L2

namespace L2
open PySem PySem.Spec PyProof.Rows
theorem slot_sit_next : Slot "set_iterator" (Str.ofString "__next__") "set_iterator.__next__" := Slot.of (owner := "set_iterator") (n := "__next__") (by kernel_rfl) (by kernel_rfl) (by kernel_rfl) (by kernel_rfl) (.inl (by kernel_rfl)) (by kernel_rfl) (by kernel_rfl)
theorem slot_sit_iter : Slot "set_iterator" (Str.ofString "__iter__") "set_iterator.__iter__" := Slot.of (owner := "set_iterator") (n := "__iter__") (by kernel_rfl) (by kernel_rfl) (by kernel_rfl) (by kernel_rfl) (.inl (by kernel_rfl)) (by kernel_rfl) (by kernel_rfl)
theorem args_sit_next (a : Value) : argsOk "set_iterator.__next__" { pos := [a] } := by kernel_rfl
theorem args_sit_iter (a : Value) : argsOk "set_iterator.__iter__" { pos := [a] } := by kernel_rfl
theorem entry_sit_next : entryFor PySem.table "set_iterator.__next__" = some PySem.Builtin.«set_iterator.__next__» := by kernel_rfl
theorem entry_set_iter : entryFor PySem.table "set.__iter__" = some PySem.Builtin.«frozenset.__iter__» := by kernel_rfl
theorem first_stop : firstArgMember (.type "StopIteration") [] = pure .none := by kernel_rfl
theorem own_stop : ownMembersOf (.type "StopIteration") [] = #[] := by kernel_rfl
section
variable {prog : Program} {w : World} {A : Around} {E : Value → Shared → Prop} {s : Shared}
theorem raise_stop {α : Type} {Q : α → Shared → Prop} (hh : A.handled = none) (k : ∀ h' e, (∀ b o, s.heap.get? b = some o → h'.get? b = some o) → Shared.TypeIs { s with heap := h' } (.ref e) "StopIteration" → E (.ref e) { s with heap := h' }) :
    wpAny (model prog w) A (do
      let x ← newExc (.type "StopIteration") []
      raiseNew x : Sem α) Q E s := by
  refine wpAny_bind ?_
  unfold newExc
  refine wpAny_bind (wpAny_newTuple ?_ (Nat.zero_le _))
  rw [first_stop, own_stop]
  refine wpAny_bind (wpAny_pure (wpAny_newObj_type (wpAny_raiseNew_none hh (k _ _ (fun b o e => Heap.get?_push_of_some _ (Heap.get?_push_of_some _ e)) ⟨_, Heap.get?_push_size _ rfl, rfl⟩))))
theorem next_of {it : Addr} {Q : Option Value → Shared → Prop} (ty : s.TypeIs (.ref it) "set_iterator")
    (h : wpAny (model prog w) A.in1 (Builtin.«set_iterator.__next__» ⟨[.ref it], []⟩) (fun fin s' => ∃ v, fin = .done (.ret v) ∧ Q (some v) s') (fun e s' => s'.TypeIs e "StopIteration" ∧ Q none s') s) :
    wpAny (model prog w) A (pyNext (.ref it)) Q E s := by
  unfold pyNext
  refine wpAny_bind (wpAny_attempt ?_)
  refine wpAny_callSpecial?_slotG ty slot_sit_next.toG ?_
  refine wpAny_mono (wpAny_call_entry slot_sit_next ty entry_sit_next (Q := fun v s' => Q (some v) s') h (args_sit_next _)) (fun v s' q => wpAny_pure q) (fun e s' q => ?_)
  exact wpAny_bind (wpAny_isInstance q.1 isSubtype_stop (by rw [if_pos rfl]; exact wpAny_pure q.2))
/-- the object of a walk over the set at a -/
abbrev sitO (first : Value) (i : Nat) (a : Addr) (n ep : Nat) : Obj := { cls := .type "set_iterator", data := .fields #[first, .int i 0, .ref a, .int n 0, .int ep 0] }
theorem by_text {Q : Bool → Shared → Prop} (q : Q (w.params.followText "set-order") s) : wpAny (model prog w) A setsByText Q E s := by
  unfold setsByText
  exact wpAny_bind (wpAny_askSetting (wpAny_pure q))
variable {a : Addr} {o : Obj} {es : Array (Int × Value)} {ep : Nat} {t : SetTable}
theorem next_text {slot given : Nat} {Q : Option (Value × Nat) → Shared → Prop} (ht : w.params.followText "set-order" = true) (ho : s.heap.get? a = some o) (hd : o.data = .set es ep t) (fit : t.fits es.size = true)
    (q : Q ((pickOrder (w.params.setOrder a ep) es)[given]?.map fun e => (e.2, slot)) s) : wpAny (model prog w) A (setNext a slot given ep) Q E s := by
  unfold setNext
  refine wpAny_bind (wpAny_setState_of ho hd fit ?_)
  refine wpAny_bind (by_text ?_)
  rw [ht, if_pos rfl, if_neg (by simp)]
  refine wpAny_bind ?_
  unfold setWalk
  refine wpAny_bind (wpAny_setState_of ho hd fit ?_)
  refine wpAny_bind (by_text ?_)
  rw [ht, if_pos rfl]
  exact wpAny_bind (wpAny_askSetting (wpAny_pure (wpAny_pure q)))
theorem next_place {slot given : Nat} {Q : Option (Value × Nat) → Shared → Prop} (ht : w.params.followText "set-order" = false) (ho : s.heap.get? a = some o) (hd : o.data = .set es ep t) (fit : t.fits es.size = true) (g : Gd t true)
    (np : (!t.plain && decide (es.size > 1)) = false)
    (q : Q (match es[SetTable.below t.place slot]?, t.place[SetTable.below t.place slot]? with
      | some e, some j => some (e.2, j + 1)
      | _, _ => none) s) : wpAny (model prog w) A (setNext a slot given ep) Q E s := by
  unfold setNext
  refine wpAny_bind (wpAny_setState_of ho hd fit ?_)
  refine wpAny_bind (by_text ?_)
  rw [ht, if_neg (by decide)]
  show wpAny _ _ (if (!t.plain && decide (es.size > 1)) = true then _ else _) _ _ _
  rw [np, if_neg (by decide)]
  refine wpAny_bind (show wpAny _ _ (if (!t.led && !es.isEmpty) = true then _ else pure ()) _ _ _ from ?_)
  rw [g.led, if_neg (by simp)]
  refine wpAny_pure (wpAny_pure ?_)
  cases h1 : es[SetTable.below t.place slot]? with
  | none => rw [h1] at q; exact q
  | some e =>
    rw [h1] at q
    cases h2 : t.place[SetTable.below t.place slot]? with
    | none => rw [h2] at q; exact q
    | some j => rw [h2] at q; exact q
theorem next_drawn {place : Nat} {e : Int × Value} {Q : Value → Shared → Prop} (ho : s.heap.get? a = some o) (hd : o.data = .set es ep t) (fit : t.fits es.size = true) (he : es[place]? = some e)
    (q : Q e.2 s) : wpAny (model prog w) A (setNextDrawn a place ep) Q E s := by
  unfold setNextDrawn
  refine wpAny_bind (wpAny_setState_of ho hd fit ?_)
  dsimp only
  rw [if_neg (by simp), he]
  exact wpAny_pure q
/-- the walk's next step, up to where the kinds of walk part -/
theorem next_head {it : Addr} {first : Value} {i : Nat} {Q : PySem.Fin → Shared → Prop} (hit : s.heap.get? it = some (sitO first i a es.size ep)) (ho : s.heap.get? a = some o) (hd : o.data = .set es ep t) (fit : t.fits es.size = true)
    (q : wpAny (model prog w) A (match first with
      | .int slot _ => do
        let r ← setNext a slot.toNat i ep
        match r with
          | some (x, next) => do
            setField (.ref it) 0 (rawInt next)
            setField (.ref it) 1 (rawInt (i + 1))
            ret x
          | none => do
            setField (.ref it) 2 .none
            let x ← newExc (.type "StopIteration") []
            raiseNew x
      | x => do
        let y ← seqItems? first
        match y with
          | some places =>
            match places[i]? with
            | some (.int place _) => do
              let x ← setNextDrawn a place.toNat ep
              setField (.ref it) 1 (rawInt (i + 1))
              ret x
            | some val => unsupported "internal:set_iterator"
            | none => do
              setField (.ref it) 0 (rawInt 0)
              setField (.ref it) 2 .none
              let x ← newExc (.type "StopIteration") []
              raiseNew x
          | x => unsupported "internal:set_iterator") Q E s) : wpAny (model prog w) A (Builtin.«set_iterator.__next__» ⟨[.ref it], []⟩) Q E s := by
  unfold Builtin.«set_iterator.__next__»
  refine wpAny_bind (show wpAny _ _ (pure (Value.ref it, [])) _ _ _ from wpAny_pure ?_)
  refine wpAny_bind (wpAny_fieldsOf hit rfl ?_)
  refine wpAny_bind (wpAny_setEntries_of ho hd fit ?_)
  rw [if_neg (by simp)]
  exact q
end
end L2

namespace L2
open PySem PySem.Spec PyProof.Rows
theorem perm_erase {α : Type} : ∀ (l : List α) (i : Nat) (x : α), l[i]? = some x → (x :: l.eraseIdx i).Perm l
  | [], i, x, h => by simp at h
  | a :: l, 0, x, h => by
    have e : a = x := by simpa using h
    subst e
    exact List.Perm.refl _
  | a :: l, i + 1, x, h => by
    have ih := perm_erase l i x (by simpa using h)
    show (x :: a :: l.eraseIdx i).Perm (a :: l)
    exact (List.Perm.swap a x _).trans (ih.cons a)
theorem pick_go {α : Type} (next : Nat → Nat) : ∀ (fuel k : Nat) (left : List α) (out : Array α), left.length ≤ fuel → (pickOrder.go next fuel k left out).toList.Perm (out.toList ++ left)
  | 0, k, left, out, h => by
    have e : left = [] := List.eq_nil_of_length_eq_zero (by omega)
    subst e
    rw [List.append_nil]
    exact List.Perm.refl _
  | fuel + 1, k, left, out, h => by
    show (match left[next k % left.length]? with
      | some x => pickOrder.go next fuel (k + 1) (left.eraseIdx (next k % left.length)) (out.push x)
      | none => out).toList.Perm _
    cases e : left[next k % left.length]? with
    | none =>
      have l0 : left = [] := by
        cases left with
        | nil => rfl
        | cons a l =>
          rw [List.getElem?_eq_none_iff] at e
          have := Nat.mod_lt (next k) (show 0 < (a :: l).length by simp)
          omega
      subst l0
      rw [List.append_nil]
    | some x =>
      have lt := (List.getElem?_eq_some_iff.mp e).1
      have ih := pick_go next fuel (k + 1) (left.eraseIdx (next k % left.length)) (out.push x) (by rw [List.length_eraseIdx_of_lt lt]; omega)
      refine ih.trans ?_
      rw [Array.toList_push, List.append_assoc]
      exact (perm_erase left _ x e).append_left _
theorem pick_perm {α : Type} (next : Nat → Nat) (xs : Array α) : (pickOrder next xs).toList.Perm xs.toList := by
  have := pick_go next xs.size 0 xs.toList #[] (by rw [Array.length_toList]; exact Nat.le_refl _)
  show (pickOrder.go next xs.size 0 xs.toList #[]).toList.Perm xs.toList
  simpa using this
section
variable {prog : Program} {w : World} {A : Around} {E : Value → Shared → Prop} {s : Shared}
theorem draw_order {α : Type} : ∀ (n : Nat) (l : List α) (s : Shared) {Q : List α → Shared → Prop}, l.length = n → (∀ o d, o.Perm l → Q o { s with drawn := d }) → wpAny (model prog w) A (drawOrder n l) Q E s
  | 0, l, s, Q, h, q => by
    have e : l = [] := List.eq_nil_of_length_eq_zero h
    subst e
    exact (wpAny_pure (q [] s.drawn (List.Perm.refl _)) : wpAny _ _ (pure []) _ _ _)
  | n + 1, [], s, Q, h, q => by simp at h
  | n + 1, a :: l, s, Q, h, q => by
    show wpAny _ _ (choose Source.order (a :: l).length >>= fun i => match (a :: l)[i]? with
      | some x => do
        let r ← drawOrder n ((a :: l).eraseIdx i)
        pure (x :: r)
      | none => unsupported "internal:drawOrder") _ _ _
    refine wpAny_bind ?_
    intro Γ p hΓ
    unfold choose
    rw [Sem.wp_choose]
    refine ⟨by simp, ?_⟩
    have lt : (model prog w).w.draws Source.order (s.drawn.get Source.order) % (a :: l).length < (a :: l).length := Nat.mod_lt _ (by simp)
    generalize (model prog w).w.draws Source.order (s.drawn.get Source.order) % (a :: l).length = i at lt ⊢
    obtain ⟨x, hx⟩ : ∃ x, (a :: l)[i]? = some x := ⟨_, List.getElem?_eq_getElem lt⟩
    have main : wpAny (model prog w) A (match (a :: l)[i]? with
      | some x => do
        let r ← drawOrder n ((a :: l).eraseIdx i)
        pure (x :: r)
      | none => unsupported "internal:drawOrder") Q E { s with drawn := s.drawn.bump Source.order } := by
      rw [hx]
      refine wpAny_bind (draw_order n _ _ ?_ fun o d hp => wpAny_pure (q _ _ ?_))
      · rw [List.length_eraseIdx_of_lt lt]
        simpa using h
      · exact (hp.cons x).trans (perm_erase _ _ _ hx)
    exact main
end
/-! ### the walk by places -/
def slotAt (ps : Array Nat) : Nat → Nat
  | 0 => 0
  | i + 1 => ps.getD i 0 + 1
theorem cut_uniq {ps : Array Nat} {j b c : Nat} (h1 : Cut ps j b) (h2 : Cut ps j c) : b = c := by
  have k1 := h1.le
  have k2 := h2.le
  by_cases e : b < c
  · have x := h2.lo b (by omega) e
    have y := h1.hi b (by omega) (Nat.le_refl _)
    omega
  · by_cases e2 : c < b
    · have x := h1.lo c (by omega) e2
      have y := h2.hi c (by omega) (Nat.le_refl _)
      omega
    · omega
theorem below_slot {ps : Array Nat} (h : Ris ps) {i : Nat} (hi : i ≤ ps.size) : SetTable.below ps (slotAt ps i) = i := by
  refine cut_uniq (below_cut h _) ⟨hi, fun k hk lt => ?_, fun k hk le => ?_⟩
  · cases i with
    | zero => omega
    | succ i =>
      have e : slotAt ps (i + 1) = ps[i]'(by omega) + 1 := by
        show ps.getD i 0 + 1 = _
        simp [Array.getD, show i < ps.size by omega]
      rw [e]
      by_cases c : k = i
      · subst c; omega
      · have := ris_get h (i := k) (k := i) (by omega) (by omega)
        omega
  · cases i with
    | zero => exact Nat.zero_le _
    | succ i =>
      have e : slotAt ps (i + 1) = ps[i]'(by omega) + 1 := by
        show ps.getD i 0 + 1 = _
        simp [Array.getD, show i < ps.size by omega]
      rw [e]
      have := ris_get h (i := i) (k := k) (by omega) hk
      omega
theorem entry_sit_iter : entryFor PySem.table "set_iterator.__iter__" = some PySem.Builtin.«dict_keyiterator.__iter__» := by kernel_rfl
section
variable {prog : Program} {w : World} {A : Around} {a it : Addr} {o : Obj} {es : Array (Int × Value)} {ep : Nat} {t : SetTable}
theorem sit_self {first : Value} {i n : Nat} (s : Shared) (Q E : Value → Shared → Prop) (hit : s.heap.get? it = some (sitO first i a n ep)) (q : Q (.ref it) s) : wpAny (model prog w) A (pyIter (.ref it)) Q E s := by
  have ty : s.TypeIs (.ref it) "set_iterator" := ⟨_, hit, rfl⟩
  refine wpAny_pyIter_slot ty slot_sit_iter (wpAny_call_entry slot_sit_iter ty entry_sit_iter ?_ (args_sit_iter _))
  unfold Builtin.«dict_keyiterator.__iter__»
  refine wpAny_bind (show wpAny _ _ (pure (Value.ref it, [])) _ _ _ from wpAny_pure ?_)
  exact wpAny_pure ⟨_, rfl, "set_iterator", _, ty, slot_sit_next.lookup, q⟩
theorem walk_place (hh : A.handled = none) (hne : a ≠ it) (ht : w.params.followText "set-order" = false) (hd : o.data = .set es ep t) (fit : t.fits es.size = true) (g : Gd t true) (np : (!t.plain && decide (es.size > 1)) = false) :
    Walks prog w A it [it, a] [it] es.size (fun i v => (es.toList.map (·.2))[i]? = some v) (fun i h => i ≤ es.size ∧ h.get? it = some (sitO (.int (slotAt t.place i : Nat) 0) i a es.size ep) ∧ h.get? a = some o) where
  sub := fun b hb => by rw [List.mem_singleton.mp hb]; exact .head _
  frame := fun i h h' st k => ⟨st.1, k it (.head _) _ st.2.1, k a (.tail _ (.head _)) _ st.2.2⟩
  item := fun i s Q E hi st q => by
    obtain ⟨_, hit, ho⟩ := st
    have sz : t.place.size = es.size := by
      unfold SetTable.fits at fit
      rw [Bool.and_eq_true] at fit
      simpa using fit.1
    refine next_of ⟨_, hit, rfl⟩ (next_head hit ho hd fit ?_)
    refine wpAny_bind (next_place ht ho hd fit g np ?_)
    rw [show ((slotAt t.place i : Nat) : Int).toNat = slotAt t.place i from rfl, below_slot g.ris (by omega), Array.getElem?_eq_getElem hi, Array.getElem?_eq_getElem (by omega)]
    refine wpAny_bind (wpAny_setField_rec hit (by simp) fun h1 e1 sb1 => ?_)
    refine wpAny_bind (wpAny_setField_rec e1 (by simp) fun h2 e2 sb2 => ?_)
    refine wpAny_pure ⟨_, rfl, q _ h2 s.toks ?_ ⟨by omega, ?_, ?_⟩ fun b o nb e => ?_⟩
    · rw [List.getElem?_map, Array.getElem?_toList, Array.getElem?_eq_getElem hi]
      rfl
    · rw [e2]
      have es1 : slotAt t.place (i + 1) = t.place[i]'(by omega) + 1 := by
        show t.place.getD i 0 + 1 = _
        simp [Array.getD, show i < t.place.size by omega]
      rw [es1]
      rfl
    · rw [sb2.2 a hne, sb1.2 a hne]
      exact ho
    · have ne : b ≠ it := fun z => nb (by rw [z]; exact .head _)
      rw [sb2.2 b ne, sb1.2 b ne]
      exact e
  done := fun s Q E st q => by
    obtain ⟨_, hit, ho⟩ := st
    have sz : t.place.size = es.size := by
      unfold SetTable.fits at fit
      rw [Bool.and_eq_true] at fit
      simpa using fit.1
    refine next_of ⟨_, hit, rfl⟩ (next_head hit ho hd fit ?_)
    refine wpAny_bind (next_place ht ho hd fit g np ?_)
    rw [show ((slotAt t.place es.size : Nat) : Int).toNat = slotAt t.place es.size from rfl, below_slot g.ris (by omega), Array.getElem?_eq_none (Nat.le_refl _)]
    refine wpAny_bind (wpAny_setField_rec hit (by simp) fun h1 e1 sb1 => ?_)
    refine raise_stop (by simpa using hh) fun h' e k ty => ⟨ty, q h' s.toks fun b o nb eb => k b o ?_⟩
    have ne : b ≠ it := fun z => nb (by rw [z]; exact .head _)
    show h1.get? b = some o
    rw [sb1.2 b ne]
    exact eb
  self := fun i s Q E st q => sit_self s Q E st.2.1 q
theorem walk_text (hh : A.handled = none) (hne : a ≠ it) (ht : w.params.followText "set-order" = true) (hd : o.data = .set es ep t) (fit : t.fits es.size = true) :
    Walks prog w A it [it, a] [it] es.size (fun i v => ((pickOrder (w.params.setOrder a ep) es).toList.map (·.2))[i]? = some v) (fun i h => h.get? it = some (sitO (.int 0 0) i a es.size ep) ∧ h.get? a = some o) where
  sub := fun b hb => by rw [List.mem_singleton.mp hb]; exact .head _
  frame := fun i h h' st k => ⟨k it (.head _) _ st.1, k a (.tail _ (.head _)) _ st.2⟩
  item := fun i s Q E hi st q => by
    obtain ⟨hit, ho⟩ := st
    have sz : (pickOrder (w.params.setOrder a ep) es).size = es.size := by
      have := (pick_perm (w.params.setOrder a ep) es).length_eq
      simpa using this
    refine next_of ⟨_, hit, rfl⟩ (next_head hit ho hd fit ?_)
    refine wpAny_bind (next_text ht ho hd fit ?_)
    rw [Array.getElem?_eq_getElem (by omega)]
    refine wpAny_bind (wpAny_setField_rec hit (by simp) fun h1 e1 sb1 => ?_)
    refine wpAny_bind (wpAny_setField_rec e1 (by simp) fun h2 e2 sb2 => ?_)
    refine wpAny_pure ⟨_, rfl, q _ h2 s.toks ?_ ⟨?_, ?_⟩ fun b o nb e => ?_⟩
    · rw [List.getElem?_map, Array.getElem?_toList, Array.getElem?_eq_getElem (by omega)]
      rfl
    · rw [e2]
      rfl
    · rw [sb2.2 a hne, sb1.2 a hne]
      exact ho
    · have ne : b ≠ it := fun z => nb (by rw [z]; exact .head _)
      rw [sb2.2 b ne, sb1.2 b ne]
      exact e
  done := fun s Q E st q => by
    obtain ⟨hit, ho⟩ := st
    have sz : (pickOrder (w.params.setOrder a ep) es).size = es.size := by
      have := (pick_perm (w.params.setOrder a ep) es).length_eq
      simpa using this
    refine next_of ⟨_, hit, rfl⟩ (next_head hit ho hd fit ?_)
    refine wpAny_bind (next_text ht ho hd fit ?_)
    rw [Array.getElem?_eq_none (by omega)]
    refine wpAny_bind (wpAny_setField_rec hit (by simp) fun h1 e1 sb1 => ?_)
    refine raise_stop (by simpa using hh) fun h' e k ty => ⟨ty, q h' s.toks fun b o nb eb => k b o ?_⟩
    have ne : b ≠ it := fun z => nb (by rw [z]; exact .head _)
    show h1.get? b = some o
    rw [sb1.2 b ne]
    exact eb
  self := fun i s Q E st q => sit_self s Q E st.1 q
abbrev plO (ord : List Nat) : Obj := { cls := .type "tuple", data := .seq (ord.map fun i => rawInt (i : Nat)).toArray }
theorem walk_drawn {T : Addr} {ord : List Nat} (hh : A.handled = none) (hne : a ≠ it) (hT : T ≠ it) (hp : ord.Perm (List.range es.size)) (hd : o.data = .set es ep t) (fit : t.fits es.size = true) :
    Walks prog w A it [it, a, T] [it] es.size (fun i v => (ord.map fun j => (es.getD j (0, .none)).2)[i]? = some v) (fun i h => h.get? it = some (sitO (.ref T) i a es.size ep) ∧ h.get? a = some o ∧ h.get? T = some (plO ord)) where
  sub := fun b hb => by rw [List.mem_singleton.mp hb]; exact .head _
  frame := fun i h h' st k => ⟨k it (.head _) _ st.1, k a (.tail _ (.head _)) _ st.2.1, k T (.tail _ (.tail _ (.head _))) _ st.2.2⟩
  item := fun i s Q E hi st q => by
    obtain ⟨hit, ho, hpl⟩ := st
    have ol : ord.length = es.size := by rw [hp.length_eq, List.length_range]
    have lt : ord[i]'(by omega) < es.size := List.mem_range.mp (hp.mem_iff.mp (List.getElem_mem _))
    refine next_of ⟨_, hit, rfl⟩ (next_head hit ho hd fit ?_)
    refine wpAny_bind (wpAny_seqItems hpl rfl ?_)
    have eo : (ord.map fun i => rawInt (i : Nat)).toArray[i]? = some (.int (ord[i]'(by omega) : Nat) 0) := by
      rw [List.getElem?_toArray, List.getElem?_map, List.getElem?_eq_getElem (by omega)]
      rfl
    dsimp only
    rw [eo]
    refine wpAny_bind (next_drawn ho hd fit (place := (((ord[i]'(by omega) : Nat) : Int)).toNat) (e := es[ord[i]'(by omega)]) (by rw [show (((ord[i]'(by omega) : Nat) : Int)).toNat = ord[i]'(by omega) from rfl, Array.getElem?_eq_getElem lt]) ?_)
    refine wpAny_bind (wpAny_setField_rec hit (by simp) fun h1 e1 sb1 => ?_)
    refine wpAny_pure ⟨_, rfl, q _ h1 s.toks ?_ ⟨?_, ?_, ?_⟩ fun b o nb e => ?_⟩
    · rw [List.getElem?_map, List.getElem?_eq_getElem (by omega)]
      simp [Array.getD, lt]
    · rw [e1]
      rfl
    · rw [sb1.2 a hne]
      exact ho
    · rw [sb1.2 T hT]
      exact hpl
    · have ne : b ≠ it := fun z => nb (by rw [z]; exact .head _)
      rw [sb1.2 b ne]
      exact e
  done := fun s Q E st q => by
    obtain ⟨hit, ho, hpl⟩ := st
    have ol : ord.length = es.size := by rw [hp.length_eq, List.length_range]
    refine next_of ⟨_, hit, rfl⟩ (next_head hit ho hd fit ?_)
    refine wpAny_bind (wpAny_seqItems hpl rfl ?_)
    have eo : (ord.map fun i => rawInt (i : Nat)).toArray[es.size]? = none := by
      rw [List.getElem?_toArray, List.getElem?_map, List.getElem?_eq_none (by omega)]
      rfl
    dsimp only
    rw [eo]
    refine wpAny_bind (wpAny_setField_rec hit (by simp) fun h1 e1 sb1 => ?_)
    refine wpAny_bind (wpAny_setField_rec e1 (by simp) fun h2 e2 sb2 => ?_)
    refine raise_stop (by simpa using hh) fun h' e k ty => ⟨ty, q h' s.toks fun b o nb eb => k b o ?_⟩
    have ne : b ≠ it := fun z => nb (by rw [z]; exact .head _)
    show h2.get? b = some o
    rw [sb2.2 b ne, sb1.2 b ne]
    exact eb
  self := fun i s Q E st q => sit_self s Q E st.1 q
end
end L2

namespace L2
open PySem PySem.Spec PyProof.Rows
theorem paired_perm {α β : Type} {F : α → β → Prop} {xs ys : List α} (p : xs.Perm ys) : ∀ {zs : List β}, Paired F ys zs → ∃ zs', zs'.Perm zs ∧ Paired F xs zs' := by
  induction p with
  | nil => intro zs h; exact ⟨zs, List.Perm.refl _, h⟩
  | cons x _ ih =>
    intro zs h
    cases h with
    | cons f r =>
      obtain ⟨zs', p, q⟩ := ih r
      exact ⟨_ :: zs', p.cons _, .cons f q⟩
  | swap x y l =>
    intro zs h
    cases h with
    | cons f r =>
      cases r with
      | cons g r =>
        exact ⟨_, List.Perm.swap _ _ _, .cons g (.cons f r)⟩
  | trans _ _ ih1 ih2 =>
    intro zs h
    obtain ⟨z1, p1, q1⟩ := ih2 h
    obtain ⟨z2, p2, q2⟩ := ih1 q1
    exact ⟨z2, p2.trans p1, q2⟩
theorem paired_map {α β γ : Type} {F : α → β → Prop} {G : γ → β → Prop} {f : α → γ} (h : ∀ a b, F a b → G (f a) b) : ∀ {xs : List α} {zs : List β}, Paired F xs zs → Paired G (xs.map f) zs
  | _, _, .nil => .nil
  | _, _, .cons g r => .cons (h _ _ g) (paired_map h r)
def IsK (P : Program) (w : World) (v : Value) (k : Key) : Prop := (mixKind P w).is k v = true
theorem vals_set {P : Program} {w : World} {es : List (Int × Value)} {vs : List (Int × Value)} {ks : List Key} (h : ∃ fs, es.Perm fs ∧ Paired (KeyE P w) fs ks) (p : vs.Perm es) : ∃ ks', ks'.Perm ks ∧ Paired (IsK P w) (vs.map (·.2)) ks' := by
  obtain ⟨fs, p1, m⟩ := h
  obtain ⟨ks', p2, q⟩ := paired_perm (p.trans p1) m
  exact ⟨ks', p2, paired_map (fun _ _ z => z.1) q⟩
section
variable {prog : Program} {w : World} {A : Around} {E : Value → Shared → Prop} {s : Shared} {a : Addr} {ks : List Key}
theorem iter_set {Q : Value → Shared → Prop} (G : SetG prog w s.heap a ks) (hb : ks.length ≤ sizeLine)
    (q : ∀ (it : Addr) (h' : Heap) (d : Drawn) (vs : List Value) (fp : List Addr) (St : Nat → Heap → Prop), s.heap.objs.size ≤ it → (∀ b o, s.heap.get? b = some o → h'.get? b = some o) → (∀ b ∈ fp, b = a ∨ s.heap.objs.size ≤ b) →
      (∀ A' : Around, A'.handled = none → Walks prog w A' it fp [it] ks.length (fun i v => vs[i]? = some v) St) → St 0 h' → vs.length = ks.length → (∃ ks', ks'.Perm ks ∧ Paired (IsK prog w) vs ks') → Q (.ref it) { s with heap := h', drawn := d }) :
    wpAny (model prog w) A (pyIter (.ref a)) Q E s := by
  obtain ⟨o, es, ep, t, ho, hex, hd, hf, fit, gd, nd⟩ := G
  have len := elems_len hf
  rw [Array.length_toList] at len
  have lta : a < s.heap.objs.size := Heap.lt_size ho
  have ty : s.TypeIs (.ref a) "set" := ⟨o, ho, hex.1⟩
  refine wpAny_pyIter_slot ty PySem.F.slot_set_iter (wpAny_call_entry PySem.F.slot_set_iter ty entry_set_iter ?_ (PySem.F.args_set_iter_1 _))
  unfold Builtin.«frozenset.__iter__»
  refine wpAny_bind (show wpAny _ _ (pure a) _ _ _ from wpAny_pure ?_)
  unfold Builtin.Frozenset.sizeOf
  refine wpAny_bind (wpAny_bind (wpAny_setEntries_of ho hd fit (wpAny_pure ?_)))
  unfold setDrawn
  refine wpAny_bind (wpAny_bind (wpAny_setState_of ho hd fit (wpAny_bind (by_text (wpAny_pure ?_)))))
  show wpAny _ _ (if (!w.params.followText "set-order" && (!t.plain && decide (es.size > 1))) = true then _ else _) _ _ _
  have fin : ∀ (first : Value) (s1 : Shared) (it : Addr), it = s1.heap.objs.size → s1.heap.get? a = some o → (∀ b o, s.heap.get? b = some o → s1.heap.get? b = some o) → s.heap.objs.size ≤ it → s1 = { s with heap := s1.heap, drawn := s1.drawn } →
      (∀ h', h' = s1.heap.push (sitO first 0 a es.size ep) → ∃ (vs : List Value) (fp : List Addr) (St : Nat → Heap → Prop), (∀ b ∈ fp, b = a ∨ s.heap.objs.size ≤ b) ∧
      (∀ A' : Around, A'.handled = none → Walks prog w A' it fp [it] es.size (fun i v => vs[i]? = some v) St) ∧ St 0 h' ∧ vs.length = ks.length ∧ (∃ ks', ks'.Perm ks ∧ Paired (IsK prog w) vs ks')) →
      wpAny (model prog w) A.in1 (do
        let e ← setEpoch a
        let x ← newFields "set_iterator" [first, rawInt 0, .ref a, rawInt es.size, rawInt e]
        ret x) (fun fin s' => ∃ v, fin = .done (.ret v) ∧ ∃ T' r, s'.TypeIs v T' ∧ typeLookup (.type T') (Str.ofString "__next__") = pure (some r) ∧ Q v s') E s1 := by
    intro first s1 it hit ho1 kp le es1 hw
    refine wpAny_bind (wpAny_setEpoch_of ho1 hd fit ?_)
    unfold newFields
    refine wpAny_bind (wpAny_newObj_type ?_)
    obtain ⟨vs, fp, St, h1, h2, h3, h4, h5⟩ := hw _ rfl
    refine wpAny_pure ⟨_, rfl, "set_iterator", _, ⟨_, Heap.get?_push_size _ rfl, rfl⟩, slot_sit_next.lookup, ?_⟩
    rw [es1, ← hit]
    rw [len] at h2
    exact q it _ s1.drawn vs fp St le (fun b o e => Heap.get?_push_of_some _ (kp b o e)) h1 h2 h3 h4 h5
  by_cases ht : w.params.followText "set-order" = true
  · rw [ht]
    rw [if_neg (by simp)]
    refine wpAny_bind (wpAny_pure ?_)
    refine fin (rawInt 0) s s.heap.objs.size rfl ho (fun _ _ e => e) (Nat.le_refl _) rfl fun h' eh => ?_
    subst eh
    refine ⟨(pickOrder (w.params.setOrder a ep) es).toList.map (·.2), [s.heap.objs.size, a], _, ?_, fun A' hA => walk_text hA (Nat.ne_of_lt lta) ht hd fit, ⟨Heap.get?_push_size _ rfl, Heap.get?_push_of_some _ ho⟩, ?_, vals_set hf (pick_perm _ _)⟩
    · intro b hb
      rcases List.mem_cons.mp hb with rfl | hb
      · exact .inr (Nat.le_refl _)
      · exact .inl (List.mem_singleton.mp hb)
    · rw [List.length_map, (pick_perm _ _).length_eq, Array.length_toList, len]
  · have ht : w.params.followText "set-order" = false := Bool.eq_false_iff.mpr ht
    rw [ht] at gd ⊢
    by_cases hdr : (!t.plain && decide (es.size > 1)) = true
    · rw [hdr, if_pos (by decide)]
      refine wpAny_bind (draw_order es.size (List.range es.size) s (List.length_range) fun ord d hp => ?_)
      have ol : ord.length = es.size := by rw [hp.length_eq, List.length_range]
      refine wpAny_bind (wpAny_newTuple ?_ (by rw [List.length_map]; omega))
      refine fin (.ref s.heap.objs.size) _ (s.heap.objs.size + 1) (by simp [Heap.size_push]) (Heap.get?_push_of_some _ ho) (fun b o e => Heap.get?_push_of_some _ e) (by omega) rfl fun h' eh => ?_
      subst eh
      have hpe : (ord.map fun j => es.getD j (0, .none)).Perm es.toList := by
        have e : es.toList = (List.range es.size).map fun j => es.getD j (0, .none) := by
          refine List.ext_getElem? fun i => ?_
          rw [Array.getElem?_toList, List.getElem?_map]
          by_cases hi : i < es.size
          · rw [Array.getElem?_eq_getElem hi, List.getElem?_range hi]
            simp [Array.getD, hi]
          · rw [Array.getElem?_eq_none (by omega), List.getElem?_eq_none (by rw [List.length_range]; omega)]
            rfl
        rw [e]
        exact hp.map _
      have v := vals_set hf hpe
      rw [List.map_map] at v
      refine ⟨ord.map fun j => (es.getD j (0, .none)).2, [s.heap.objs.size + 1, a, s.heap.objs.size], _, ?_, fun A' hA => walk_drawn (it := s.heap.objs.size + 1) (T := s.heap.objs.size) hA (Nat.ne_of_lt (Nat.lt_succ_of_lt lta)) (Nat.ne_of_lt (Nat.lt_succ_self _)) hp hd fit, ⟨?_, Heap.get?_push_of_some _ (Heap.get?_push_of_some _ ho), Heap.get?_push_of_some _ (Heap.get?_push_size _ rfl)⟩, ?_, v⟩
      · intro b hb
        rcases List.mem_cons.mp hb with rfl | hb
        · exact .inr (by omega)
        · rcases List.mem_cons.mp hb with rfl | hb
          · exact .inl rfl
          · rw [List.mem_singleton.mp hb]
            exact .inr (Nat.le_refl _)
      · have := Heap.get?_push_size (h := s.heap.push (plO ord)) (o := sitO (.ref s.heap.objs.size) 0 a es.size ep) rfl
        rw [Heap.size_push] at this
        exact this
      · rw [List.length_map, ol, len]
    · have hdr := Bool.eq_false_iff.mpr hdr
      rw [hdr, if_neg (by simp)]
      refine wpAny_bind (wpAny_pure ?_)
      refine fin (rawInt 0) s s.heap.objs.size rfl ho (fun _ _ e => e) (Nat.le_refl _) rfl fun h' eh => ?_
      subst eh
      refine ⟨es.toList.map (·.2), [s.heap.objs.size, a], _, ?_, fun A' hA => walk_place hA (Nat.ne_of_lt lta) ht hd fit gd hdr, ⟨Nat.zero_le _, Heap.get?_push_size _ rfl, Heap.get?_push_of_some _ ho⟩, ?_, vals_set hf (List.Perm.refl _)⟩
      · intro b hb
        rcases List.mem_cons.mp hb with rfl | hb
        · exact .inr (Nat.le_refl _)
        · exact .inl (List.mem_singleton.mp hb)
      · rw [List.length_map, Array.length_toList, len]
theorem wp_ite_pos {α : Type} {M : Model} {c : Bool} {X Y : Sem α} {Q : α → Shared → Prop} (h : c = true) (q : wpAny M A X Q E s) : wpAny M A (if c = true then X else Y) Q E s := by
  rw [if_pos h]; exact q
theorem hint_set {Q : Bool → Shared → Prop} (ty : s.TypeIs (.ref a) "set") (q : Q false s) : wpAny (model prog w) A (Builtin.List.listLengthHint (.ref a)) Q E s := by
  have k1 : typeLookup (.type "set") (Str.ofString "__len__") = pure (some (.builtin "set.__len__")) := by kernel_rfl
  have k2 : splitId "set.__len__" = some ("set", "__len__") := by kernel_rfl
  have k3 : isSubtype (.type "set") (.type "set") = pure true := PySem.F.called_set.sub
  unfold Builtin.List.listLengthHint
  refine wpAny_bind (wpAny_specialOf ty k1 ?_)
  dsimp only
  rw [k2]
  refine wpAny_bind (wpAny_isInstance ty k3 ?_)
  rw [if_neg (by decide)]
  refine wp_ite_pos (by kernel_rfl) (wpAny_bind (wpAny_typeOf ty ?_))
  exact wpAny_pure q
theorem ne_list : (Value.type "set" == Value.type "list") = false := by decide
theorem ne_tup : (Value.type "set" == Value.type "tuple") = false := by decide
theorem extend_set {S : Addr} {res : Value} {c₀ : Nat} {R : Result → Shared → Prop} (G : SetG prog w s.heap a ks) (hh : A.handled = none) (hb : ks.length ≤ sizeLine) (hS : S ≠ a) (eS : s.heap.get? S = some { cls := .type "list", data := .seq #[] c₀ })
    (q : ∀ (g : Heap) (tk : Nat) (d : Drawn) (xs : Array Value) (c : Nat), (∀ b o, b ≠ S → s.heap.get? b = some o → g.get? b = some o) → g.get? S = some { cls := .type "list", data := .seq xs c } → (∃ ks', ks'.Perm ks ∧ Paired (IsK prog w) xs.toList ks') → R (.ok (.ret res)) { s with heap := g, toks := tk, drawn := d }) :
    wpAny (model prog w) A.in1 (Builtin.List.listExtendWith (.ref S) (.ref a) res) (fun fin s' => match fin with
      | .done f => R (.ok f) s'
      | .again c' => c'.quiet = true ∧ codeAny (model prog w) A c' R s') (fun e s' => R (.error e) s') s := by
  have ty : s.TypeIs (.ref a) "set" := by
    obtain ⟨o, es, ep, t, ho, hex, _⟩ := G
    exact ⟨o, ho, hex.1⟩
  unfold Builtin.List.listExtendWith
  refine wpAny_bind (wpAny_typeOf ty ?_)
  have sm : Builtin.List.listSameRef (.ref S) (.ref a) = false := by
    unfold Builtin.List.listSameRef
    simpa using hS
  rw [sm, ne_list, ne_tup, if_neg (by decide)]
  refine wpAny_bind (iter_set G hb fun it h1 d vs fp St le kp hf W st len pk => ?_)
  refine wpAny_bind (wpAny_holding (hint_set (s := { s with heap := h1, drawn := d }) ?_ ?_))
  · obtain ⟨o, e, c⟩ := ty
    exact ⟨o, kp _ _ e, c⟩
  have lS : S < s.heap.objs.size := Heap.lt_size eS
  have nS : S ∉ fp := fun hm => by
    rcases hf S hm with z | z
    · exact hS z
    · exact absurd lS (Nat.not_lt.mpr z)
  have hA : A.in1.handled = none := by simpa using hh
  have loop : ∀ (s2 : Shared) (c : Nat), St 0 s2.heap → s2.heap.get? S = some { cls := .type "list", data := .seq #[] c } → (∀ b o, b ≠ S → h1.get? b = some o → s2.heap.get? b = some o) → s2 = { s with heap := s2.heap, drawn := d } →
      codeAny (model prog w) A (.builtin "list.extend.loop" ⟨[.ref S, .ref it, res], []⟩) R s2 := by
    intro s2 c st2 e2 k2 es2
    refine codeAny_extend_loopS (W A.in1 hA).toS hb S nS res ks.length 0 s2 #[] c (by omega) (Nat.zero_le _) st2 e2 (ItemsOf.nil _) fun s' xs c' mv eS' hx => ?_
    have ex : s' = { s with heap := s'.heap, toks := s'.toks, drawn := d } := by
      have h1 := mv.gens
      have h2 := mv.drawn
      have h3 := mv.os
      rw [es2] at h1 h2 h3
      obtain ⟨a1, a2, a3, a4, a5⟩ := s'
      simp only at h1 h2 h3
      subst h1 h2 h3
      rfl
    have vx : xs.toList = vs := by
      refine List.ext_getElem? fun j => ?_
      obtain ⟨sz, at_⟩ := hx
      rw [Array.getElem?_toList]
      by_cases hj : j < xs.size
      · have := at_ j xs[j] (Array.getElem?_eq_getElem hj)
        rw [Array.getElem?_eq_getElem hj, this]
      · rw [Array.getElem?_eq_none (by omega), List.getElem?_eq_none (by omega)]
    rw [ex]
    refine q s'.heap s'.toks d xs c' (fun b o nb e => mv.heap b o ?_ (k2 b o nb (kp b o e))) eS' (by rw [vx]; exact pk)
    intro hm
    rcases List.mem_cons.mp hm with z | z
    · exact nb z
    · have := List.mem_singleton.mp z
      have l2 : b < s.heap.objs.size := Heap.lt_size e
      rw [this] at l2
      exact absurd l2 (Nat.not_lt.mpr le)
  refine wp_ite_pos (by kernel_rfl) (wpAny_bind (wpAny_rule ?_))
  unfold Builtin.List.listTouch
  have u1 := get?_update_seq (c := "list") (kp _ _ eS) (fun x => x.push Value.none)
  have u2 := get?_update_seq (c := "list") u1 (fun x => x.pop)
  refine wpAny_bind (wpAny_bind (listUpdate_at (kp _ _ eS) rfl (listUpdate_at u1 rfl ?_ (by simp [sizeLine_eq]) (by simp)) (by simp) (by simp [sizeLine_eq])))
  obtain ⟨c2, u3⟩ : ∃ c2, ((h1.update S (Obj.mapSeq fun x => x.push Value.none)).update S (Obj.mapSeq fun x => x.pop)).get? S = some { cls := .type "list", data := .seq #[] c2 } := ⟨_, u2⟩
  have k2 : ∀ b o, b ≠ S → h1.get? b = some o → ((h1.update S (Obj.mapSeq fun x => x.push Value.none)).update S (Obj.mapSeq fun x => x.pop)).get? b = some o := fun b o nb e => by
    rw [Heap.get?_update_ne _ _ _ _ nb, Heap.get?_update_ne _ _ _ _ nb]
    exact e
  refine wpAny_pure ⟨plainId_quiet PySem.F.plain_extend_loop _, loop _ c2 ((W A.in1 hA).frame 0 _ _ st fun b hb o e => k2 b o (fun z => nS (by rw [← z]; exact hb)) e) u3 k2 rfl⟩
def ColSet (P : Program) (w : World) (s : Shared) (ks : List Key) (q : Result) (s' : Shared) : Prop :=
  ∃ (g : Heap) (tk c : Nat) (d : Drawn) (xs : Array Value), q = .ok (.ret (.ref s.heap.objs.size)) ∧ s' = { s with heap := g, toks := tk, drawn := d } ∧ (∀ b o, s.heap.get? b = some o → g.get? b = some o) ∧ g.get? s.heap.objs.size = some { cls := .type "list", dict := none, data := .seq xs c, slots := #[] } ∧ (∃ ks', ks'.Perm ks ∧ Paired (IsK P w) xs.toList ks')
theorem collect_set {R : List Value → Shared → Prop} (G : SetG prog w s.heap a ks) (hh : A.handled = none) (hb : ks.length ≤ sizeLine)
    (h : ∀ (g : Heap) (tk : Nat) (d : Drawn) (xs : Array Value), (∀ b o, s.heap.get? b = some o → g.get? b = some o) → s.heap.objs.size < g.objs.size → (∃ ks', ks'.Perm ks ∧ Paired (IsK prog w) xs.toList ks') → R xs.toList { s with heap := g, toks := tk, drawn := d }) : wpAny (model prog w) A (collect (.ref a)) R E s := by
  have lt1 : a < s.heap.objs.size := by
    obtain ⟨o, es, ep, t, ho, _⟩ := G
    exact Heap.lt_size ho
  unfold collect
  refine wpAny_bind (wpAny_runValue (codeAny_builtin entry_proto_collect' ?_)); rw [Around.under_plainId PySem.F.plain_proto_collect _]
  refine wpAny_bind (m := newList []) (wpAny_newObj_type (wpAny_pure ⟨plainId_quiet PySem.F.plain_list_iadd _, codeAny_builtin entry_list_iadd' ?_⟩)); rw [Around.under_plainId PySem.F.plain_list_iadd _]
  have own : (s.heap.push { cls := .type "list", data := .seq ([] : List Value).toArray }).get? s.heap.objs.size = some { cls := .type "list", data := .seq #[] } := Heap.get?_push_size _ rfl
  have run := extend_set (A := A) (s := { s with heap := s.heap.push { cls := .type "list", data := .seq ([] : List Value).toArray } }) (R := ColSet prog w s ks) (setG_keep G fun o e => Heap.get?_push_of_some _ e) hh hb (Nat.ne_of_gt lt1) (res := .ref s.heap.objs.size) own
    (fun g tk d xs c hk hS hx => ⟨g, tk, c, d, xs, rfl, rfl, fun b o e => hk b o (Nat.ne_of_lt (Heap.lt_size e)) (Heap.get?_push_of_some _ e), hS, hx⟩)
  refine wpAny_mono run (fun fin s' y => ?_) (fun _ _ y => by obtain ⟨_, _, _, _, _, e, _⟩ := y; cases e)
  cases fin with
  | done f =>
    obtain ⟨g, tk, c, d, xs, e, rfl, hk, hS, hx⟩ := y
    cases e
    exact wpAny_bind (m := load s.heap.objs.size) (wpAny_load hS (wpAny_pure (h g tk d xs hk (Heap.lt_size hS) hx)))
  | again c1 =>
    refine ⟨y.1, codeAny_mono y.2 fun q s2 z => ?_⟩
    obtain ⟨g, tk, c, d, xs, rfl, rfl, hk, hS, hx⟩ := z
    exact wpAny_bind (m := load s.heap.objs.size) (wpAny_load hS (wpAny_pure (h g tk d xs hk (Heap.lt_size hS) hx)))
end
end L2

namespace L2
open PySem PySem.Spec PyProof.Rows
theorem Inv.drawnAs {X : Cx} {pins : List (Addr × Obj)} {σ : St} {H : Hp} {s : Shared} (I : Inv X pins σ H s) (d : Drawn) : Inv X pins σ H { s with drawn := d } :=
  I.call (h' := s.heap) (g' := s.gens) (t' := s.toks) (d' := d) (ch := []) Un.refl I.hok I.bare (fun _ z => nomatch z)
theorem paired_strs {P : Program} {w : World} : ∀ {vs : List Value} {ks : List Key}, Paired (IsK P w) vs ks → (∀ k ∈ ks, ∃ z, k = Sum.inr z) → ∃ zs : List Str, ks = zs.map Sum.inr ∧ StrsAre vs zs
  | _, _, .nil, _ => ⟨[], rfl, .nil⟩
  | _, _, .cons f r, h => by
    obtain ⟨z, rfl⟩ := h _ (.head _)
    obtain ⟨zs, rfl, q⟩ := paired_strs r fun k hk => h k (.tail _ hk)
    obtain ⟨t, rfl⟩ := kV_rel f
    exact ⟨z :: zs, rfl, .cons z t q⟩
theorem perm_inr {xs ys : List Str} (h : (xs.map (Sum.inr : Str → Key)).Perm (ys.map Sum.inr)) : xs.Perm ys := by
  have := h.filterMap Sum.getRight?
  rw [List.filterMap_map, List.filterMap_map] at this
  simpa [Function.comp_def] using this
section
variable {X : Cx}
/-- sorted(s) of a set of texts -/
def rSortSS (P : Program) (w : World) : List V → Hp → VK → Prop := fun xs H Q => ∃ (d : Addr) (zs : List Str), xs = [.ref d] ∧ H d = some (keySet P w d (zs.map Sum.inr)) ∧ zs.length < 64 ∧ ∀ p, H p = none → Q (.ref p) (upd H p (.lst ((srtS zs).map V.str)))
theorem call_sortSS (hc : X.calm = true) : CallR X (.builtin "sorted") (rSortSS X.prog X.w) := by
  intro pins s σ H xs us Q I rx h
  obtain ⟨d, zs, rfl, hd, h64, q⟩ := h
  obtain ⟨u, rfl, ru⟩ := vals1 rx
  cases ru
  have G : SetG X.prog X.w s.heap d (zs.map Sum.inr) := (I.hok d _ hd).1
  have hh : X.A.in1.handled = none := by simpa using I.ok.hd hc
  refine Calls.call_function_entry kind_sorted plain_sorted entry_sorted (args_sorted1 _) ?_
  unfold Builtin.«sorted»
  refine wpAny_bind (m := checkCount "sorted" 1 1 _) (wpAny_pure ?_)
  refine wpAny_bind (collect_set (A := X.A.in1) G hh (small_le (by rw [List.length_map]; omega)) fun g tk dr acc hk hsz hacc => ?_)
  obtain ⟨ks', pk, pr⟩ := hacc
  obtain ⟨zs', rfl, hS⟩ := paired_strs pr fun k hk => by
    obtain ⟨z, _, rfl⟩ := List.mem_map.mp (pk.mem_iff.mp hk)
    exact ⟨z, rfl⟩
  have pz := perm_inr pk
  have al : acc.toList.length = zs.length := by
    have e1 := Paired.length pr
    rw [List.length_map] at e1
    rw [e1, pz.length_eq]
  refine wpAny_bind (wpAny_newList ?_ (by exact small_le (by omega)))
  have hoL : (g.push (seqObj "list" acc.toList.toArray 0)).get? g.objs.size = some (seqObj "list" acc.toList.toArray 0) := Heap.get?_push_size _ rfl
  refine wpAny_bind (wpAny_holding (wpAny_call_entry slot_list_sort ⟨_, hoL, rfl⟩ entry_list_sort (list_sort_treeK strKind_oneLt hoL hS.keysOf (fun v1 v2 rest e => keyKind_strs (by rw [← e]; exact hS)) (by omega) fun st' b1 b2 => ⟨_, rfl, ?_⟩) (args_list_sort _)))
  refine wpAny_pure ⟨_, rfl, ?_⟩
  obtain ⟨ss, a1, a2, a3⟩ := sorted_out_str hS b1 b2
  have ess := srtS_of (a2.trans pz) a3
  subst ess
  obtain ⟨e2, he2⟩ := sortedHeap_at (vs := acc.toList) (out := (arrOf st').map (·.2)) hoL
  have hz : s.heap.objs.size ≤ g.objs.size := Nat.le_of_lt hsz
  refine ⟨.ref g.objs.size, _, (I.drawnAs dr).laid (t' := tk) (o := .lst ((srtS zs).map V.str)) (fun b o e => ?_) hz ?_, rfl, q _ (I.hok.fresh hz)⟩
  · have e' := hk b o e
    have hlt := Heap.lt_size e'
    rw [sortedHeap_old (Nat.ne_of_lt hlt) (by rw [size_push']; exact Nat.lt_succ_of_lt hlt)]
    exact Heap.get?_push_of_some _ e'
  · refine ⟨?_, ((arrOf st').map (·.2)).toList, e2, vals_strs a1, by rw [Array.toArray_toList]; exact he2⟩
    rw [List.length_map, (srtS_perm zs).length_eq]
    exact small_le (by omega)
/-- sorted(s) of a set of ints -/
def rSortSI (P : Program) (w : World) : List V → Hp → VK → Prop := fun xs H Q => ∃ (d : Addr) (ns : List Int), xs = [.ref d] ∧ H d = some (keySet P w d (ns.map Sum.inl)) ∧ ns.length < 64 ∧ ∀ p, H p = none → Q (.ref p) (upd H p (.lst ((srtI ns).map V.int)))
end
/-! ### the distinct ones of a list -/
def uniS (zs : List Str) : List Str := (ddK [] (zs.map Sum.inr)).filterMap Sum.getRight?
def uniI (ns : List Int) : List Int := (ddK [] (ns.map Sum.inl)).filterMap Sum.getLeft?
theorem ddK_inr (zs : List Str) : ddK [] (zs.map Sum.inr) = (uniS zs).map Sum.inr := by
  have h : ∀ k ∈ ddK [] (zs.map (Sum.inr : Str → Key)), ∃ z, k = Sum.inr z := fun k hk => by
    rcases (ddK_mem _ _ _).mp hk with q | q
    · exact nomatch q
    · obtain ⟨z, _, rfl⟩ := List.mem_map.mp q
      exact ⟨z, rfl⟩
  unfold uniS
  generalize ddK [] (zs.map (Sum.inr : Str → Key)) = l at h ⊢
  induction l with
  | nil => rfl
  | cons k l ih =>
    obtain ⟨z, rfl⟩ := h k (.head _)
    rw [List.filterMap_cons]
    show Sum.inr z :: l = Sum.inr z :: _
    rw [← ih fun k hk => h k (.tail _ hk)]
theorem uniS_mem {zs : List Str} {z : Str} : z ∈ uniS zs ↔ z ∈ zs := by
  have h := ddK_mem (zs.map Sum.inr) [] (Sum.inr z : Key)
  rw [ddK_inr, List.mem_map, List.mem_map] at h
  constructor
  · intro q
    rcases h.mp ⟨z, q, rfl⟩ with e | ⟨y, hy, e⟩
    · exact nomatch e
    · cases e; exact hy
  · intro q
    obtain ⟨y, hy, e⟩ := h.mpr (.inr ⟨z, q, rfl⟩)
    cases e; exact hy
theorem uniS_nd (zs : List Str) : (uniS zs).Nodup := by
  have h := ddK_nd (zs.map (Sum.inr : Str → Key)) [] List.nodup_nil
  rw [ddK_inr] at h
  exact List.Pairwise.of_map Sum.inr (fun a b hab e => hab (by rw [e])) h
section
variable {X : Cx}
theorem call_setT (hc : X.calm = true) : CallR X (.type "set") (fun xs H Q => ∃ (p : Addr) (zs : List Str), xs = [.ref p] ∧ SqL X.K H p (zs.map V.str) ∧ zs.length < 4000 ∧ ∀ a, H a = none → Q (.ref a) (upd H a (keySet X.prog X.w a ((uniS zs).map Sum.inr)))) := by
  intro pins s σ H xs us Q I r h
  obtain ⟨p, zs, rfl, hq, hz, q⟩ := h
  refine call_setK hc pins s σ H _ us Q I r ⟨p, zs.map Sum.inr, rfl, ?_, by rw [List.length_map]; exact hz, fun a na => ?_⟩
  · rw [List.map_map]; exact hq
  · rw [ddK_inr]; exact q a na
end
end L2

namespace L2
open PySem PySem.Spec PyProof.Rows
section
variable {X : Cx} {pins : List (Addr × Obj)} {σ : St} {H : Hp} {s : Shared}
/-- d.values(), the dict frozen or not -/
def rViewR (w : Addr → Addr → HO) : V → List V → Hp → VK → Prop := fun x vs H Q => ∃ d kvs, x = .ref d ∧ vs = [] ∧ Rd H d (.dK kvs) ∧ ∀ a, H a = none → Q (.ref a) (upd H a (w a d))
def tVals (to : TE) : TE := fun σ H Q => to σ H fun x H1 => ∃ d kvs, x = .ref d ∧ Rd H1 d (.dK kvs) ∧ ∀ a, H1 a = none → Q (.ref a) (upd H1 a (vView a d))
/-! ### the values of a dict, walked -/
def Itv (d : Addr) (kvs : List (Key × V)) (o : Obj) : It := ⟨fun i H => i < kvs.length ∧ H d = some (.frz o (.dK kvs)), fun i H x H' => H' = H ∧ ∃ p, kvs[i]? = some p ∧ x = p.2, fun i H => kvs.length ≤ i ∧ H d = some (.frz o (.dK kvs))⟩
def iVals (tl : TE) : TI := fun σ H R => tl σ H fun x H1 => ∃ (v d : Addr) (o : Obj) (kvs : List (Key × V)), x = .ref v ∧ H1 v = some (vView v d) ∧ H1 d = some (.frz o (.dK kvs)) ∧ R (Itv d kvs o) H1
/-- sorted(d.values()) -/
def rSortV : List V → Hp → VK → Prop := fun xs H Q => ∃ (v d : Addr) (kvs : List (Key × V)) (ns : List Int), xs = [.ref v] ∧ H v = some (vView v d) ∧ H d = some (.dK kvs) ∧ kvs.map (·.2) = ns.map V.int ∧ ns.length < 64 ∧ ∀ p, H p = none → Q (.ref p) (upd H p (.lst ((srtI ns).map V.int)))
end
end L2

namespace L2
open PySem PySem.Spec PyProof.Rows
/-! ### bunches of a merging -/
abbrev Bn := List Str × Int
def bnD (b : Bn) : PyData := .tuple [.tuple (b.1.map PyData.str), .int b.2]
def papD (bs : List Bn) : PyData := .list (bs.map bnD)
def lvls (room : Int) (ps qs : Ps) : List Int := srtI (uniI ((keysM ps qs).map fun z => min (sumM ps qs z) (cutT room ps qs)))
def marksAt (ps qs : Ps) (v : Int) : List Str := (srtS (keysM ps qs)).filter fun z => decide (v ≤ sumM ps qs z)
def bunI (ps qs : Ps) (l : List Int) (i : Nat) : Bn := (marksAt ps qs (l.getD i 0), l.getD i 0 - (0 :: l).getD i 0)
def bunL (ps qs : Ps) (l : List Int) (n : Nat) : List Bn := (List.range n).map (bunI ps qs l)
def bunsT (a b : Ty) : List Bn := if cutT a.room a.cs b.cs = 0 then [] else bunL a.cs b.cs (lvls a.room a.cs b.cs) (lvls a.room a.cs b.cs).length
def BnW (b : Bn) : Prop := (∀ z ∈ b.1, z ∈ words) ∧ b.1.length ≤ 40
/-- bunches laid in the heap -/
inductive BnsAt (H : Hp) : List V → List Bn → Prop
  | nil : BnsAt H [] []
  | cons {a c : Addr} {xs : List V} {b : Bn} {bs : List Bn} (h : H a = some (.tup [.ref c, .int b.2])) (e : H c = some (.tup (b.1.map V.str))) (r : BnsAt H xs bs) : BnsAt H (.ref a :: xs) (b :: bs)
theorem BnsAt.mono {H H' : Hp} (g : Same H H') : ∀ {xs : List V} {bs : List Bn}, BnsAt H xs bs → BnsAt H' xs bs
  | _, _, .nil => .nil
  | _, _, .cons h e r => .cons (g _ _ h) (g _ _ e) (r.mono g)
theorem BnsAt.append {H : Hp} : ∀ {xs ys : List V} {bs cs : List Bn}, BnsAt H xs bs → BnsAt H ys cs → BnsAt H (xs ++ ys) (bs ++ cs)
  | _, _, _, _, .nil, s => s
  | _, _, _, _, .cons h e r, s => .cons h e (r.append s)
theorem BnsAt.length {H : Hp} : ∀ {xs : List V} {bs : List Bn}, BnsAt H xs bs → xs.length = bs.length
  | _, _, .nil => rfl
  | _, _, .cons _ _ r => congrArg (· + 1) r.length
theorem strs_dvs {H : Hp} : ∀ zs : List Str, DVs H (zs.map V.str) (zs.map PyData.str)
  | [] => .nil
  | z :: zs => .cons (.str z) (strs_dvs zs)
theorem BnsAt.dvs {H : Hp} : ∀ {xs : List V} {bs : List Bn}, BnsAt H xs bs → DVs H xs (bs.map bnD)
  | _, _, .nil => .nil
  | _, _, .cons (b := b) h e r => .cons (.tup h (.cons (.tup e (strs_dvs b.1)) (.cons (.int _) .nil))) r.dvs
theorem BnsAt.get {H : Hp} : ∀ {xs : List V} {bs : List Bn}, BnsAt H xs bs → ∀ {i : Nat} {x : V}, xs[i]? = some x → ∃ (a c : Addr) (b : Bn), x = .ref a ∧ bs[i]? = some b ∧ H a = some (.tup [.ref c, .int b.2]) ∧ H c = some (.tup (b.1.map V.str))
  | _, _, .nil, i, x, hx => by simp at hx
  | _, _, .cons (a := a) (c := c) (b := b) h e r, 0, x, hx => by
    have : V.ref a = x := by simpa using hx
    subst this
    exact ⟨a, c, b, rfl, rfl, h, e⟩
  | _, _, .cons h e r, i + 1, x, hx => by
    obtain ⟨a, c, b, h1, h2, h3, h4⟩ := r.get (i := i) (x := x) (by simpa using hx)
    exact ⟨a, c, b, h1, by simpa using h2, h3, h4⟩
/-- a paper at p -/
def PapAt (H : Hp) (p : Addr) (bs : List Bn) : Prop := ∃ xs, H p = some (.lst xs) ∧ BnsAt H xs bs
theorem PapAt.mono {H H' : Hp} {p : Addr} {bs : List Bn} (h : PapAt H p bs) (g : Same H H') : PapAt H' p bs := by
  obtain ⟨xs, e, r⟩ := h
  exact ⟨xs, g _ _ e, r.mono g⟩
theorem PapAt.dv {H : Hp} {p : Addr} {bs : List Bn} (h : PapAt H p bs) : DV H (.ref p) (papD bs) := by
  obtain ⟨xs, e, r⟩ := h
  exact .lst e r.dvs
end L2

namespace L2
open PySem PySem.Spec PyProof.Rows
/-! ### try: y = f(..) except S: suite -/
def tTryA (K : PySem.W.Frag) (S : Addr) (sp : Sp) (i : Nat) (ta : TA) (tb : TS) : TS := fun D σ H => ta σ H fun vs H1 => sp vs H1 (fun v H2 => D.nx (σ.set i (some v)) H2) (fun cv _ H2 => ∃ C, cv = .ref C ∧ PySem.W.exmOne K (.ref C) (.ref S) = some true ∧
  ∀ a, H2 a = none → tb { nx := D.nx, rt := fun _ _ => False } σ (upd H2 a (xo C a)))
section
variable {X : Cx} {x c n : Str} {p pos cpos epos np ap hpos : Pos} {e : Expr} {es : List Expr} {ta : TA} {tb : TS} {b₀ : Stmt} {suite : List Stmt} {j k i : Nat} {ps : List Str} {sp : Sp} {S : Addr}
theorem ps_tryA (hx : ∀ e s, X.xe e s → False) (hst : X.stack = X.env :: X.outer) (hfr : X.env.frame = some X.env.locals) (h : HasX X.prog X.w X.K X.mg X.base x j ps sp) (hr : Room k X.A) (ha : PA X (e :: es) ta)
    (hN : X.N.Nodup) (hi : X.N[i]? = some n) (hk : X.env.scope.names.lookup n = some .local) (hS : X.mg c = some (.ref S)) (hb : ∀ a E, PSs (X.held a E) (b₀ :: suite) tb)
    (hg : Gl X x := by rfl) (hc : Gl X c := by rfl) (hj : j ≤ k := by first | decide | omega) (hdb : (x == ("__debug__" : Str)) = false := by decide) (hdc : (c == ("__debug__" : Str)) = false := by decide)
    (he : starEach (e :: es) X.env = (false, eval e X.env) :: starEach es X.env := by rfl) (hpl : (backTo pos (starEach es X.env)).any (·.1) = false := by rfl) (hs : swapsWith (.Call (.Name x p) (e :: es) [] pos) (some (.Name n ap)) epos.line X.env = pure false := by rfl) :
    PS X (.Try [.Assign [.Name n ap] (.Call (.Name x p) (e :: es) [] pos) epos] [.ExceptHandler (some (.Name c np)) none (b₀ :: suite) hpos] [] [] cpos) (tTryA X.K S sp i ta tb) := by
  intro pins s σ H D I h0
  obtain ⟨f, fd, F, bi, kp, m⟩ := h.ex
  refine wpAny_Try_except (wpAny_execs_cons ?_)
  refine wpAny_Assign_Name (wpAny_Call_Name_kw (ld_glob I hg m ?_ hdb)) hs
  refine PySem.W.callWith_K (h₀ := X.base) I.ok.mod.kin kp (wpAny_mono (ha pos pins s σ H _ I h0) (fun us s1 q1 => ?_) fun e s z => (hx e s z).elim) he hpl
  obtain ⟨vs, H1, I1, r, q⟩ := q1
  refine ⟨I1.kIn, ?_⟩
  have hl : us.length = ps.length := by rw [← r.length]; exact F.len _ _ _ _ q
  have hbi := bi s1 us I1.kIn (by rw [List.append_nil]; exact hl)
  rw [List.append_nil] at hbi
  refine wpAny_call (codeAny_mono ((F.mono hj).run X.A X.stack s1 H1 ⟨us, []⟩ us vs _ _ hr I1.env0 hbi r q) fun r s' hq => ?_)
  cases r with
  | ok fl =>
    cases fl with
    | ret u =>
      obtain ⟨v, H2, I2, rv, q2⟩ := I1.after hq
      exact store_ok I2 hN hi (.inl hk) rv (fun s3 I3 => wpAny_execs_nil (wpAny_execs_nil ⟨_, H2, I3, q2⟩)) (.inr hk)
    | next => exact False.elim hq
    | brk => exact False.elim hq
    | cont => exact False.elim hq
  | error e =>
    obtain ⟨a, T, C, H2, rfl, os, bare, un, hok, Fl, na, nT, h2a, h2T, C', hC', hm, q2⟩ := hq
    cases hC'
    rw [hst] at Fl
    have frames : X.A.frames = some (X.env :: X.outer) := by rw [I.ok.frames, hst]
    refine wpAny_mono (look_on (Q := fun _ s3 => wpAny (model X.prog X.w) X.A (handleBy (.ref a) X.env [.ExceptHandler (some (.Name c np)) none (b₀ :: suite) hpos]) (SP X pins D) X.xe s3) frames hfr Fl fun h3 T3 F3 k3 t3 => ?_) (fun _ _ z => z) fun _ _ z => z
    rw [← hst] at k3
    have un3 := un.kp k3 na nT
    have fr0 : ∀ b ∈ frs X.stack, H2 b = none := (I1.past os bare un hok).stkFree
    have hok3 := hok.kp k3 h2a h2T fr0
    have gone : ∀ b, s'.heap.get? b = none → s1.heap.get? b = none := fun b e => by
      cases z : s1.heap.get? b with
      | none => rfl
      | some o =>
        obtain ⟨o', e'⟩ := un.there b o z (by simp)
        rw [e] at e'
        cases e'
    have nT3 : s1.heap.get? T3 = none := by
      rcases t3 with z | z
      · exact gone _ z
      · rw [z]; exact nT
    have h2T3 : H2 T3 = none := by
      rcases t3 with z | z
      · exact hok.no z
      · rw [z]; exact h2T
    have I3 : Inv X pins σ H2 { s' with heap := h3 } := I1.past os bare un3 hok3
    refine wpAny_handleBy_cons (codeAny_handlers_test ?_) (by intro q; cases q)
    have I3h : Inv (X.held a (notedBy (model X.prog X.w) (X.A.mark (some (.ref a))) X.env fun x s2 => cameBackBy (model X.prog X.w) X.A X.env X.xe x s2)) pins σ H2 { s' with heap := h3 } := I3.held _ _
    refine ld_glob I3h hc hS ?_ hdc
    obtain ⟨oe, ws, oT, ts, a0, e1, ⟨e2, _⟩, _⟩ := F3.ex
    have LT : PySem.W.Looks (model X.prog X.w) h3 (typeOf (.ref a)) (.ref C) := fun A Q E s kk q => by
      obtain ⟨hh, g, d, tk, os⟩ := s
      refine wpAny_bind (wpAny_loadPart (kk _ _ e1) ?_)
      rw [e2]
      exact wpAny_pure q
    refine PySem.W.exm_one (M := model X.prog X.w) I3.kIn LT hm _ _ _ _ (fun _ _ e => e) ?_
    refine codeAny_handlers_suite ?_
    rw [← hst] at F3
    have F3' : Fly (X.env :: X.outer) a T3 (.ref C) ({ s' with heap := h3 } : Shared).heap := by rw [← hst]; exact F3
    refine land_again F3' fun h4 T4 F4 k4 t4 => ?_
    rw [← hst] at k4
    have un4 := un3.kp k4 na nT3
    have hok4 := hok3.kp k4 h2a h2T3 fr0
    obtain ⟨oe, ws, oT, ts, a0, e1, ⟨e2, _⟩, _⟩ := F4.ex
    have hok5 := hok4.more (o := xo C a) h2a (xo_ok e1 e2)
    have un5 := un4.more (o := xo C a) na h2a
    have I5 : Inv X pins σ (upd H2 a (xo C a)) { s' with heap := h4 } := I1.past os bare un5 hok5
    refine wpAny_mono (hb a _ pins _ _ _ _ (I5.held _ _) (q2 a h2a)) (fun fl s7 q7 => ?_) fun _ _ z => z
    cases fl with
    | next =>
      obtain ⟨σ', H', I7, q7⟩ := q7
      exact ⟨_, H', I7.unheld I.ok, q7⟩
    | ret u => obtain ⟨_, _, _, _, _, z⟩ := q7; exact z.elim
    | brk => obtain ⟨_, _, _, z⟩ := q7; exact z.elim
    | cont => obtain ⟨_, _, _, z⟩ := q7; exact z.elim
end
end L2

namespace K13
open PySem L2

def top (i : Nat) : Stmt := PySem.Challenge.pw_sumshare_k13_whole_frequent_marks_of_tre.main.body.getD i (.Pass ⟨0, 0, 0, 0⟩)
abbrev s_frequent : Stmt := top 6
theorem sc_frequent : FnScope ["tally", "top", "bottom", "room", "counts", "let", "total", "bar", "sure", "perhaps"] ["tally", "top", "bottom"] (defScope s_frequent) := ⟨rfl, rfl, rfl, by decide +kernel, rfl, by decide +kernel, by decide +kernel⟩
theorem nd_frequent_18_11 : (["mark", "count", "tally", "top", "bottom", "room", "counts", "let", "total", "bar", "sure", "perhaps"] : List Str).Nodup := by decide +kernel
theorem nd_frequent_19_14 : (["mark", "count", "tally", "top", "bottom", "room", "counts", "let", "total", "bar", "sure", "perhaps"] : List Str).Nodup := by decide +kernel
abbrev s_cut_of : Stmt := top 8
theorem sc_cut_of : FnScope ["room", "sums"] ["room", "sums"] (defScope s_cut_of) := ⟨rfl, rfl, rfl, by decide +kernel, rfl, by decide +kernel, by decide +kernel⟩
abbrev s_added_counts : Stmt := top 10
theorem sc_added_counts : FnScope ["one", "other", "sums", "key", "count"] ["one", "other"] (defScope s_added_counts) := ⟨rfl, rfl, rfl, by decide +kernel, rfl, by decide +kernel, by decide +kernel⟩
abbrev s_steps_in : Stmt := top 12
theorem sc_steps_in : FnScope ["tree", "steps", "waiting", "here"] ["tree"] (defScope s_steps_in) := ⟨rfl, rfl, rfl, by decide +kernel, rfl, by decide +kernel, by decide +kernel⟩
abbrev s_grown : Stmt := top 13
theorem sc_grown : FnScope ["tree", "of_stream", "of_two", "kept", "step", "other", "one"] ["tree", "of_stream", "of_two"] (defScope s_grown) := ⟨rfl, rfl, rfl, by decide +kernel, rfl, by decide +kernel, by decide +kernel⟩
abbrev s_empty_tally : Stmt := top 15
theorem sc_empty_tally : FnScope ["room"] ["room"] (defScope s_empty_tally) := ⟨rfl, rfl, rfl, by decide +kernel, rfl, by decide +kernel, by decide +kernel⟩
abbrev s_thing_tally : Stmt := top 16
theorem sc_thing_tally : FnScope ["room", "thing", "day", "mark", "number", "many"] ["room", "thing"] (defScope s_thing_tally) := ⟨rfl, rfl, rfl, by decide +kernel, rfl, by decide +kernel, by decide +kernel⟩
abbrev s_added_sums : Stmt := top 17
theorem sc_added_sums : FnScope ["one", "other"] ["one", "other"] (defScope s_added_sums) := ⟨rfl, rfl, rfl, by decide +kernel, rfl, by decide +kernel, by decide +kernel⟩
abbrev s_merged_tally : Stmt := top 18
theorem sc_merged_tally : FnScope ["one", "other", "sums", "room", "cut", "counts"] ["one", "other"] (defScope s_merged_tally) := ⟨rfl, rfl, rfl, by decide +kernel, rfl, by decide +kernel, by decide +kernel⟩
theorem nd_merged_tally_67_13 : (["mark", "one", "other", "sums", "room", "cut", "counts"] : List Str).Nodup := by decide +kernel
abbrev s_tally_of : Stmt := top 19
theorem sc_tally_of : FnScope ["room", "stream", "tally", "thing"] ["room", "stream"] (defScope s_tally_of) := ⟨rfl, rfl, rfl, by decide +kernel, rfl, by decide +kernel, by decide +kernel⟩
abbrev s_grown_tally : Stmt := top 20
theorem sc_grown_tally : FnScope ["room", "tree"] ["room", "tree"] (defScope s_grown_tally) := ⟨rfl, rfl, rfl, by decide +kernel, rfl, by decide +kernel, by decide +kernel⟩
abbrev s_l_pen : Stmt := top 22
theorem sc_l_pen : FnScope ["_law_script", "_law_k", "_law_cell"] ["_law_script", "_law_k"] (defScope s_l_pen) := ⟨rfl, rfl, rfl, by decide +kernel, rfl, by decide +kernel, by decide +kernel⟩
abbrev s_l_draw : Stmt := top 23
theorem sc_l_draw : FnScope ["_law_pen_here", "_law_size", "_law_drawn", "_law_number"] ["_law_pen_here", "_law_size"] (defScope s_l_draw) := ⟨rfl, rfl, rfl, by decide +kernel, rfl, by decide +kernel, by decide +kernel⟩
abbrev s_l_word : Stmt := top 24
theorem sc_l_word : FnScope ["_law_pen_here", "_law_k", "_law_some"] ["_law_pen_here", "_law_k"] (defScope s_l_word) := ⟨rfl, rfl, rfl, by decide +kernel, rfl, by decide +kernel, by decide +kernel⟩
abbrev s_l_many : Stmt := top 25
theorem sc_l_many : FnScope ["_law_pen_here"] ["_law_pen_here"] (defScope s_l_many) := ⟨rfl, rfl, rfl, by decide +kernel, rfl, by decide +kernel, by decide +kernel⟩
abbrev s_l_thing : Stmt := top 26
theorem sc_l_thing : FnScope ["_law_pen_here", "_law_marks", "_law_deep", "_law_day", "_law_number"] ["_law_pen_here", "_law_marks", "_law_deep"] (defScope s_l_thing) := ⟨rfl, rfl, rfl, by decide +kernel, rfl, by decide +kernel, by decide +kernel⟩
abbrev s_l_stream : Stmt := top 27
theorem sc_l_stream : FnScope ["_law_pen_here", "_law_marks", "_law_deep", "_law_most"] ["_law_pen_here", "_law_marks", "_law_deep", "_law_most"] (defScope s_l_stream) := ⟨rfl, rfl, rfl, by decide +kernel, rfl, by decide +kernel, by decide +kernel⟩
theorem nd_l_stream_110_11 : (["_law_k", "_law_pen_here", "_law_marks", "_law_deep", "_law_most"] : List Str).Nodup := by decide +kernel
abbrev s_l_tree : Stmt := top 28
theorem sc_l_tree : FnScope ["_law_pen_here", "_law_marks", "_law_deep", "_law_most", "_law_parts", "_law_left", "_law_one"] ["_law_pen_here", "_law_marks", "_law_deep", "_law_most", "_law_parts"] (defScope s_l_tree) := ⟨rfl, rfl, rfl, by decide +kernel, rfl, by decide +kernel, by decide +kernel⟩
abbrev s_l_stream_of : Stmt := top 29
theorem sc_l_stream_of : FnScope ["_law_tree_here"] ["_law_tree_here"] (defScope s_l_stream_of) := ⟨rfl, rfl, rfl, by decide +kernel, rfl, by decide +kernel, by decide +kernel⟩
abbrev s_l_room : Stmt := top 30
theorem sc_l_room : FnScope ["_law_pen_here"] ["_law_pen_here"] (defScope s_l_room) := ⟨rfl, rfl, rfl, by decide +kernel, rfl, by decide +kernel, by decide +kernel⟩
abbrev s_l_times : Stmt := top 31
theorem sc_l_times : FnScope ["_law_stream_here", "_law_mark"] ["_law_stream_here", "_law_mark"] (defScope s_l_times) := ⟨rfl, rfl, rfl, by decide +kernel, rfl, by decide +kernel, by decide +kernel⟩
theorem nd_l_times_124_15 : (["_law_thing_here", "_law_stream_here", "_law_mark"] : List Str).Nodup := by decide +kernel
abbrev s_l_heavy : Stmt := top 32
theorem sc_l_heavy : FnScope ["_law_pen_here", "_law_tree_here", "_law_stream_here", "_law_all_things", "_law_many_here", "_law_thing_here"] ["_law_pen_here", "_law_tree_here"] (defScope s_l_heavy) := ⟨rfl, rfl, rfl, by decide +kernel, rfl, by decide +kernel, by decide +kernel⟩
theorem nd_l_heavy_127_26 : (["_law_thing_here", "_law_pen_here", "_law_tree_here", "_law_stream_here", "_law_all_things", "_law_many_here", "#5"] : List Str).Nodup := by decide +kernel
abbrev s_l_told : Stmt := top 33
theorem sc_l_told : FnScope ["_law_tally", "_law_top", "_law_bottom", "_law_found"] ["_law_tally", "_law_top", "_law_bottom"] (defScope s_l_told) := ⟨rfl, rfl, rfl, by decide +kernel, rfl, by decide +kernel, by decide +kernel⟩
abbrev s_l_right : Stmt := top 34
theorem sc_l_right : FnScope ["_law_tally", "_law_stream_here", "_law_top", "_law_bottom", "_law_found", "_law_all_things", "_law_mark", "_law_is_above"] ["_law_tally", "_law_stream_here", "_law_top", "_law_bottom"] (defScope s_l_right) := ⟨rfl, rfl, rfl, by decide +kernel, rfl, by decide +kernel, by decide +kernel⟩
theorem nd_l_right_142_26 : (["_law_thing_here", "_law_tally", "_law_stream_here", "_law_top", "_law_bottom", "_law_found", "_law_all_things", "_law_mark", "_law_is_above"] : List Str).Nodup := by decide +kernel
theorem nd_l_right_145_67 : (["_law_mark", "_law_tally", "_law_stream_here", "_law_top", "_law_bottom", "_law_found", "_law_all_things", "#6", "_law_is_above"] : List Str).Nodup := by decide +kernel
theorem nd_l_right_147_32 : (["_law_thing_here", "_law_tally", "_law_stream_here", "_law_top", "_law_bottom", "_law_found", "_law_all_things", "_law_mark", "_law_is_above"] : List Str).Nodup := by decide +kernel
abbrev s_law : Stmt := top 35
theorem sc_law : FnScope ["_law_script", "_law_k", "_law_pen_here", "_law_room_here", "_law_tree_here", "_law_stream_here", "_law_tally", "_law_all_things", "_law_shares", "_law_thing_here", "_law_times_here", "_law_top", "_law_bottom"] ["_law_script"] (defScope s_law) := ⟨rfl, rfl, rfl, by decide +kernel, rfl, by decide +kernel, by decide +kernel⟩
theorem nd_law_160_30 : (["_law_thing_here", "_law_script", "_law_k", "_law_pen_here", "_law_room_here", "_law_tree_here", "_law_stream_here", "_law_tally", "_law_all_things", "_law_shares", "#9", "_law_times_here", "_law_top", "_law_bottom"] : List Str).Nodup := by decide +kernel
/-- a draw: a number below the size; the pen has turned -/
def spDraw : Sp := fun vs H Q _ => ∃ (a : Addr) (n : Int), vs = [.ref a, .int n] ∧ PenAt H a ∧ 0 < n ∧ n < 1000000000000000000000000000000000000000000000000000000000000 ∧
  ∀ (d : Int) (H' : Hp), 0 ≤ d → d < n → PenAt H' a → Grw a H H' → Q (.int d) H'
def spPen (K : PySem.W.Frag) : Sp := fun vs H Q _ => ∃ (a : Addr) (ns : List Int) (k : Int), vs = [.ref a, .int k] ∧ SqL K H a (ns.map V.int) ∧ 0 ≤ k ∧
  ∀ (p : Addr) (H' : Hp), H p = none → Same H H' → PenAt H' p → Q (.ref p) H'
def spWord : Sp := fun vs H Q _ => ∃ (x : V) (k : Int), vs = [x, .int k] ∧ ∀ (z : Str) (H' : Hp), z ∈ words → Same H H' → Q (.str z) H'
def spMany : Sp := fun vs H Q _ => ∃ (a : Addr), vs = [.ref a] ∧ PenAt H a ∧ ∀ (m : Int) (H' : Hp), 1 ≤ m → m ≤ 1000000000 → PenAt H' a → Grw a H H' → Q (.int m) H'
def spThing : Sp := fun vs H Q _ => ∃ (a : Addr) (n k : Int), vs = [.ref a, .int n, .int k] ∧ PenAt H a ∧ 0 < n ∧ n < 1073741824 ∧ 0 ≤ k ∧ k < 30 ∧
  ∀ (r : Addr) (t : Th) (H' : Hp), t.Ok → hide a H' r = some (.tup t.vs) → PenAt H' a → Grw a H H' → Q (.ref r) H'
def spStream : Sp := fun vs H Q _ => ∃ (a : Addr) (n k l : Int), vs = [.ref a, .int n, .int k, .int l] ∧ PenAt H a ∧ 0 < n ∧ n < 1073741824 ∧ 0 ≤ k ∧ k < 30 ∧ 0 ≤ l ∧ l < 1000 ∧
  ∀ (r : Addr) (ts : List Th) (H' : Hp), (∀ t ∈ ts, t.Ok) → (ts.length : Int) ≤ l → DV (hide a H') (.ref r) (.list (ts.map Th.D)) → PenAt H' a → Grw a H H' → Q (.ref r) H'
section
variable {P : Program} {w : World} {K : PySem.W.Frag} {mg : Str → Option Value} {base : Heap} {f : Addr} {fd : FuncData}
theorem ok_draw (F : Fun K "_law_draw" "_law_draw" s_l_draw f fd) : FnOk P w K mg base CX0 1 f fd ["_law_pen_here", "_law_size"] spDraw := by
  refine F.ok sc_l_draw (fun vs H Q E h => ?_) (fun cdv A outer s H vs Q E hr h => ?_)
  · obtain ⟨a, n, rfl, _⟩ := h
    rfl
  obtain ⟨a, n, rfl, ⟨p, q, r, e⟩, h0, h1, hq⟩ := h
  refine ⟨_, (@pss_cons _ _ _ _ _ (ps_asg (@pe_op _ _ _ _ _ _ _ _ op_add (@pe_ix _ _ _ _ _ _ _ ix_list (pv 0) pe_int (fun _ _ => rfl)) pe_int) (pg_sub (pv 0) pe_int set_list))
  (@pss_cons _ _ _ _ _ (@ps_if _ _ _ _ _ _ _ _ (@pt_cmpR _ _ _ _ _ _ _ _ op_gt (@pe_ix _ _ _ _ _ _ _ ix_list (pv 0) pe_int (fun _ _ => rfl)) pe_int (nomark _)) (@pss_cons _ _ _ _ _ (@ps_set _ _ 2 _ _ _ _ sc_l_draw.nd rfl (Or.inl rfl) (@pe_op _ _ _ _ _ _ _ _ op_mod (@pe_ix _ _ _ _ _ _ _ ix_list (pv 0) pe_int (fun _ _ => rfl)) (pv 1)) (by rfl) (by first | exact .inl rfl | exact .inr rfl))
  (@pss_cons _ _ _ _ _ (ps_asg (@pe_op _ _ _ _ _ _ _ _ op_fdivB (@pe_ix _ _ _ _ _ _ _ ix_list (pv 0) pe_int (fun _ _ => rfl)) (pv 1)) (pg_sub (pv 0) pe_int set_list))
  (@pss_one _ _ _ (@ps_ret _ _ _ _ (pv 2))))) pss_nil)
  (@pss_cons _ _ _ _ _ (@ps_set _ _ 3 _ _ _ _ sc_l_draw.nd rfl (Or.inl rfl) (@pe_op _ _ _ _ _ _ _ _ op_mod (@pe_op _ _ _ _ _ _ _ _ op_mul (@pe_op _ _ _ _ _ _ _ _ op_add (@pe_op _ _ _ _ _ _ _ _ op_add (@pe_ix _ _ _ _ _ _ _ ix_list (pv 0) pe_int (fun _ _ => rfl)) (@pe_op _ _ _ _ _ _ _ _ op_mul pe_int (@pe_ix _ _ _ _ _ _ _ ix_list (pv 0) pe_int (fun _ _ => rfl)))) pe_int) pe_int) pe_int) (by rfl) (by first | exact .inl rfl | exact .inr rfl))
  (@pss_cons _ _ _ _ _ (@ps_set _ _ 3 _ _ _ _ sc_l_draw.nd rfl (Or.inl rfl) (@pe_op _ _ _ _ _ _ _ _ op_mod (@pe_op _ _ _ _ _ _ _ _ op_mul (pv 3) (@pe_op _ _ _ _ _ _ _ _ op_add (@pe_op _ _ _ _ _ _ _ _ op_add (@pe_op _ _ _ _ _ _ _ _ op_mod (pv 3) pe_int) (@pe_ix _ _ _ _ _ _ _ ix_list (pv 0) pe_int (fun _ _ => rfl))) pe_int)) pe_int) (by rfl) (by first | exact .inl rfl | exact .inr rfl))
  (@pss_one _ _ _ (@ps_ret _ _ _ _ (@pe_op _ _ _ _ _ _ _ _ op_mod (@pe_op _ _ _ _ _ _ _ _ op_fdiv (@pe_op _ _ _ _ _ _ _ _ op_mod (@pe_op _ _ _ _ _ _ _ _ op_mul (pv 3) (@pe_op _ _ _ _ _ _ _ _ op_add (@pe_op _ _ _ _ _ _ _ _ op_mod (pv 3) pe_int) pe_int)) pe_int) pe_int) (pv 1)))))))), ?_⟩
  refine ⟨_, rfl, a, _, 2, _, rfl, rfl, SqL.of e, at3_2 _ _ _, _, _, rfl, rfl, _, rfl, a, _, 2, _, rfl, rfl, e, rfl, ?_⟩
  have e1 : upd H a (.lst [.int p, .int q, .int (r + 1)]) a = some (.lst [.int p, .int q, .int (r + 1)]) := upd_same
  refine ⟨_, rfl, a, _, 0, _, rfl, rfl, SqL.of e1, at3_0 _ _ _, _, _, rfl, rfl, _, rfl, ?_⟩
  refine ite2 (fun c => ?_) (fun c => ?_)
  · refine ⟨_, rfl, a, _, 0, _, rfl, rfl, SqL.of e1, at3_0 _ _ _, _, rfl, _, _, rfl, rfl, h0, ?_⟩
    refine ⟨_, rfl, a, _, 0, _, rfl, rfl, SqL.of e1, at3_0 _ _ _, _, rfl, _, _, rfl, rfl, ⟨h0, h1⟩, _, rfl, a, _, 0, _, rfl, rfl, e1, rfl, ?_⟩
    refine ⟨_, rfl, ?_⟩
    refine hq (p % n) _ (Int.emod_nonneg _ (by omega)) (Int.emod_lt_of_pos _ h0) ⟨_, _, _, upd_same⟩ ?_
    rw [upd_upd]
    exact grw_upd
  · refine ⟨_, rfl, a, _, 1, _, rfl, rfl, SqL.of e1, at3_1 _ _ _, _, rfl, a, _, 2, _, rfl, rfl, SqL.of e1, at3_2 _ _ _, _, _, rfl, rfl, mulL rfl rfl, _, _, rfl, rfl, _, _, rfl, rfl, _, _, rfl, rfl, mulR rfl rfl, _, _, rfl, rfl, posI rfl, ?_⟩
    refine ⟨_, rfl, _, rfl, _, _, rfl, rfl, posI rfl, _, rfl, a, _, 2, _, rfl, rfl, SqL.of e1, at3_2 _ _ _, _, _, rfl, rfl, _, _, rfl, rfl, _, _, rfl, rfl, mulM _ _ _ rfl rfl, _, _, rfl, rfl, posI rfl, ?_⟩
    refine ⟨_, rfl, _, rfl, _, _, rfl, rfl, posI rfl, _, _, rfl, rfl, _, _, rfl, rfl, mulM _ _ _ rfl rfl, _, _, rfl, rfl, posI rfl, _, _, rfl, rfl, cdivI rfl rfl, _, rfl, _, _, rfl, rfl, h0, ?_⟩
    exact hq _ _ (Int.emod_nonneg _ (by omega)) (Int.emod_lt_of_pos _ h0) ⟨_, _, _, e1⟩ grw_upd
theorem ok_pen (F : Fun K "_law_pen" "_law_pen" s_l_pen f fd) (z_len : mg "len" = none) : FnOk P w K mg base CX0 1 f fd ["_law_script", "_law_k"] (spPen K) := by
  refine F.ok sc_l_pen (fun vs H Q E h => ?_) (fun cdv A outer s H vs Q E hr h => ?_)
  · obtain ⟨a, ns, k, rfl, _⟩ := h
    rfl
  obtain ⟨a, ns, k, rfl, hS, h0, hq⟩ := h
  have hl : (ns.map V.int).length = ns.length := List.length_map _
  refine ⟨_, (@pss_cons _ _ _ _ _ (@ps_set _ _ 2 _ _ _ _ sc_l_pen.nd rfl (Or.inl rfl) (@pe_op _ _ _ _ _ _ _ _ op_add (@pe_op _ _ _ _ _ _ _ _ op_mul pe_int (pv 1)) pe_int) (by rfl) (by first | exact .inl rfl | exact .inr rfl))
  (@pss_cons _ _ _ _ _ (@ps_if _ _ _ _ _ _ _ _ (@pt_cmpR _ _ _ _ _ _ _ _ op_lt (pv 1) (pe_callB call_len_seq rfl z_len PySem.boot_len (@pa_cons _ _ _ _ _ (pv 0) pa_nil (by rfl))) (nomark _)) (@pss_one _ _ _ (@ps_set _ _ 2 _ _ _ _ sc_l_pen.nd rfl (Or.inl rfl) (@pe_ix _ _ _ _ _ _ _ ix_list (pv 0) (pv 1) (fun _ _ => rfl)) (by rfl) (by first | exact .inl rfl | exact .inr rfl))) (@pss_one _ _ _ (@ps_if _ _ _ _ _ _ _ _ (@pt_cmpR _ _ _ _ _ _ _ _ op_gt (pe_callB call_len_seq rfl z_len PySem.boot_len (@pa_cons _ _ _ _ _ (pv 0) pa_nil (by rfl))) pe_int (nomark _)) (@pss_one _ _ _ (@ps_set _ _ 2 _ _ _ _ sc_l_pen.nd rfl (Or.inl rfl) (@pe_op _ _ _ _ _ _ _ _ op_add (@pe_ix _ _ _ _ _ _ _ ix_list (pv 0) (@pe_op _ _ _ _ _ _ _ _ op_mod (pv 1) (pe_callB call_len_seq rfl z_len PySem.boot_len (@pa_cons _ _ _ _ _ (pv 0) pa_nil (by rfl)))) (fun _ _ => rfl)) (@pe_op _ _ _ _ _ _ _ _ op_mul pe_int (pv 1))) (by rfl) (by first | exact .inl rfl | exact .inr rfl))) pss_nil)))
  (@pss_cons _ _ _ _ _ (@ps_if _ _ _ _ _ _ _ _ (@pt_cmpR _ _ _ _ _ _ _ _ op_ge (pv 2) (@pe_op _ _ _ _ _ _ _ _ op_pow pe_int pe_int) (nomark _)) (@pss_one _ _ _ (@ps_ret _ _ _ _ (@pe_lst _ _ _ _ (@pa_cons _ _ _ _ _ (@pe_op _ _ _ _ _ _ _ _ op_sub (pv 2) (@pe_op _ _ _ _ _ _ _ _ op_pow pe_int pe_int)) (@pa_cons _ _ _ _ _ (@pe_op _ _ _ _ _ _ _ _ op_mod (pv 2) pe_int) (@pa_cons _ _ _ _ _ pe_int pa_nil (by rfl)) (by rfl)) (by rfl))))) pss_nil)
  (@pss_one _ _ _ (@ps_ret _ _ _ _ (@pe_lst _ _ _ _ (@pa_cons _ _ _ _ _ pe_int (@pa_cons _ _ _ _ _ (@pe_op _ _ _ _ _ _ _ _ op_add (@pe_op _ _ _ _ _ _ _ _ op_mod (pv 2) pe_int) (@pe_op _ _ _ _ _ _ _ _ op_mul pe_int (pv 1))) (@pa_cons _ _ _ _ _ pe_int pa_nil (by rfl)) (by rfl)) (by rfl)))))))), ?_⟩
  refine ⟨_, rfl, _, _, rfl, rfl, mulL rfl rfl, _, _, rfl, rfl, ?_⟩
  refine ⟨_, rfl, _, rfl, a, _, rfl, .inl hS, _, _, rfl, rfl, _, rfl, ?_⟩
  have atn : ∀ i : Int, 0 ≤ i → i < ns.length → ∃ v : Int, atI (ns.map V.int) i = some (.int v) := fun i h1 h2 => by
    obtain ⟨v, hv, hm⟩ := atI_in (xs := ns.map V.int) h1 (by rw [hl]; exact h2)
    obtain ⟨n, _, rfl⟩ := List.mem_map.mp hm
    exact ⟨n, hv⟩
  have fin : ∀ x y z : Int, ∀ p, H p = none → Q (.ref p) (upd H p (.lst [.int x, .int y, .int z])) := fun x y z p hp => hq p _ hp (same_laid hp _) ⟨x, y, z, upd_same⟩
  refine ite2 (fun c => ?_) (fun c => ?_)
  · have c := of_decide_eq_true c
    rw [hl] at c
    obtain ⟨v, hv⟩ := atn k h0 c
    refine ⟨_, rfl, _, rfl, a, _, _, _, rfl, rfl, hS, hv, ?_⟩
    refine ⟨_, rfl, _, _, rfl, rfl, powI rfl rfl rfl, _, _, rfl, rfl, _, rfl, ?_⟩
    refine ite2 (fun c => ?_) (fun c => ?_)
    · refine ⟨_, rfl, _, _, rfl, rfl, powI rfl rfl rfl, _, _, rfl, rfl, _, rfl, _, _, rfl, rfl, posI rfl, leN rfl, fin _ _ _⟩
    · refine ⟨_, rfl, _, _, rfl, rfl, posI rfl, _, rfl, _, _, rfl, rfl, mulL rfl rfl, _, _, rfl, rfl, leN rfl, fin _ _ _⟩
  · refine ⟨_, rfl, a, _, rfl, .inl hS, _, _, rfl, rfl, _, rfl, ?_⟩
    refine ite2 (fun c => ?_) (fun c => ?_)
    · have c := of_decide_eq_true c
      rw [hl] at c
      have hm := Int.emod_nonneg k (show (ns.length : Int) ≠ 0 by omega)
      have hm2 := Int.emod_lt_of_pos k c
      obtain ⟨v, hv⟩ := atn (k % (ns.length : Int)) hm hm2
      refine ⟨_, rfl, _, rfl, _, rfl, a, _, rfl, .inl hS, _, _, rfl, rfl, by rw [hl]; exact c, a, _, _, _, rfl, rfl, hS, by rw [hl]; exact hv, _, rfl, _, _, rfl, rfl, mulL rfl rfl, _, _, rfl, rfl, ?_⟩
      refine ⟨_, rfl, _, _, rfl, rfl, powI rfl rfl rfl, _, _, rfl, rfl, _, rfl, ?_⟩
      refine ite2 (fun c => ?_) (fun c => ?_)
      · refine ⟨_, rfl, _, _, rfl, rfl, powI rfl rfl rfl, _, _, rfl, rfl, _, rfl, _, _, rfl, rfl, posI rfl, leN rfl, fin _ _ _⟩
      · refine ⟨_, rfl, _, _, rfl, rfl, posI rfl, _, rfl, _, _, rfl, rfl, mulL rfl rfl, _, _, rfl, rfl, leN rfl, fin _ _ _⟩
    · refine ⟨_, rfl, _, _, rfl, rfl, powI rfl rfl rfl, _, _, rfl, rfl, _, rfl, ?_⟩
      refine ite2 (fun c => ?_) (fun c => ?_)
      · refine ⟨_, rfl, _, _, rfl, rfl, powI rfl rfl rfl, _, _, rfl, rfl, _, rfl, _, _, rfl, rfl, posI rfl, leN rfl, fin _ _ _⟩
      · refine ⟨_, rfl, _, _, rfl, rfl, posI rfl, _, rfl, _, _, rfl, rfl, mulL rfl rfl, _, _, rfl, rfl, leN rfl, fin _ _ _⟩
theorem ok_word (F : Fun K "_law_word" "_law_word" s_l_word f fd) : FnOk P w K mg base CX0 1 f fd ["_law_pen_here", "_law_k"] spWord := by
  refine F.ok sc_l_word (fun vs H Q E h => ?_) (fun cdv A outer s H vs Q E hr h => ?_)
  · obtain ⟨x, k, rfl, _⟩ := h
    rfl
  obtain ⟨x, k, rfl, hq⟩ := h
  refine ⟨_, (@pss_cons _ _ _ _ _ (@ps_set _ _ 2 _ _ _ _ sc_l_word.nd rfl (Or.inl rfl) pe_str (by rfl) (by first | exact .inl rfl | exact .inr rfl))
  (@pss_cons _ _ _ _ _ (@ps_set _ _ 2 _ _ _ _ sc_l_word.nd rfl (Or.inl rfl) (@pe_op _ _ _ _ _ _ _ _ op_add_str (pv 2) pe_str) (by rfl) (by first | exact .inl rfl | exact .inr rfl))
  (@pss_one _ _ _ (@ps_ret _ _ _ _ (@pe_ix _ _ _ _ _ _ _ ix_list (pe_bm PySem.F.plainAttrs_str PySem.F.slot_str_split PySem.F.type_str_split mt_split (pv 2) (@pa_cons _ _ _ _ _ pe_str pa_nil (by rfl))) (@pe_op _ _ _ _ _ _ _ _ op_mod (pv 1) pe_int) (fun _ _ => rfl)))))), ?_⟩
  refine ⟨_, rfl, wordA, wordB, rfl, rfl, word_ab, ?_⟩
  refine ⟨_, rfl, rfl, wordA ++ wordB, " ", words, rfl, rfl, word_k, word_e, word_o, word_l, word_parts, by decide, fun l hl => ?_⟩
  obtain ⟨v, hv, hm⟩ := atI_in (xs := words.map V.str) (i := k % 26) (Int.emod_nonneg _ (by decide)) (by rw [List.length_map]; exact Int.emod_lt_of_pos _ (by decide))
  obtain ⟨z, hz, rfl⟩ := List.mem_map.mp hm
  refine ⟨_, rfl, _, _, rfl, rfl, posI rfl, l, _, _, _, rfl, rfl, SqL.of upd_same, hv, ?_⟩
  exact hq z _ hz (same_laid hl _)
theorem ok_many (h_l_draw : Has P w K mg base "_law_draw" 1 ["_law_pen_here", "_law_size"] spDraw) (F : Fun K "_law_many" "_law_many" s_l_many f fd) : FnOk P w K mg base CX0 2 f fd ["_law_pen_here"] spMany := by
  refine F.ok sc_l_many (fun vs H Q E h => ?_) (fun cdv A outer s H vs Q E hr h => ?_)
  · obtain ⟨a, rfl, _⟩ := h
    rfl
  obtain ⟨a, rfl, hp, hq⟩ := h
  refine ⟨_, (@pss_cons _ _ _ _ _ (@ps_if _ _ _ _ _ _ _ _ (@pt_cmpR _ _ _ _ _ _ _ _ op_eq (pe_callH h_l_draw hr (@pa_cons _ _ _ _ _ (pv 0) (@pa_cons _ _ _ _ _ pe_int pa_nil (by rfl)) (by rfl))) pe_int (nomark _)) (@pss_one _ _ _ (@ps_ret _ _ _ _ (@pe_op _ _ _ _ _ _ _ _ op_add pe_int (pe_callH h_l_draw hr (@pa_cons _ _ _ _ _ (pv 0) (@pa_cons _ _ _ _ _ (@pe_op _ _ _ _ _ _ _ _ op_sub (@pe_op _ _ _ _ _ _ _ _ op_pow pe_int pe_int) pe_int) pa_nil (by rfl)) (by rfl)))))) pss_nil)
  (@pss_one _ _ _ (@ps_ret _ _ _ _ (@pe_op _ _ _ _ _ _ _ _ op_add pe_int (pe_callH h_l_draw hr (@pa_cons _ _ _ _ _ (pv 0) (@pa_cons _ _ _ _ _ (@pe_ix _ _ _ _ _ _ _ ix_list (@pe_lst _ _ _ _ (@pa_cons _ _ _ _ _ pe_int (@pa_cons _ _ _ _ _ pe_int (@pa_cons _ _ _ _ _ pe_int pa_nil (by rfl)) (by rfl)) (by rfl))) (pe_callH h_l_draw hr (@pa_cons _ _ _ _ _ (pv 0) (@pa_cons _ _ _ _ _ pe_int pa_nil (by rfl)) (by rfl))) (fun _ _ => rfl)) pa_nil (by rfl)) (by rfl))))))), ?_⟩
  refine ⟨_, rfl, a, 6, rfl, hp, posI rfl, ltI rfl, fun d1 H1 _ _ hp1 g1 => ⟨rfl, _, rfl, ?_⟩⟩
  refine ite2 (fun c => ?_) (fun c => ?_)
  · refine ⟨_, rfl, _, _, rfl, rfl, powI rfl rfl rfl, _, _, rfl, rfl, a, _, rfl, hp1, posI rfl, ltI rfl, fun d2 H2 x0 x1 hp2 g2 => ⟨_, _, rfl, rfl, ?_⟩⟩
    have x1 : d2 < 999999999 := x1
    exact hq _ _ (by omega) (by omega) hp2 (g1.trans g2)
  · refine ⟨_, rfl, leN rfl, fun p hn => ⟨_, rfl, a, 3, rfl, hp1.laid hn, posI rfl, ltI rfl, fun d2 H2 x0 x1 hp2 g2 => ?_⟩⟩
    obtain ⟨v, hv, hm⟩ := at3 (x := .int 1) (y := .int 2) (z := .int 9) x0 x1
    have hpa := hp1.ne hn
    have e2 : H2 p = some (.lst [.int 1, .int 2, .int 9]) := grw_get g2 hpa upd_same
    refine ⟨p, _, _, v, rfl, rfl, SqL.of e2, hv, ?_⟩
    obtain ⟨n, rfl, n0, n1⟩ : ∃ n : Int, v = .int n ∧ 0 < n ∧ n < 10 := by
      rcases hm with rfl | rfl | rfl
      · exact ⟨_, rfl, by decide, by decide⟩
      · exact ⟨_, rfl, by decide, by decide⟩
      · exact ⟨_, rfl, by decide, by decide⟩
    refine ⟨a, n, rfl, hp2, n0, by omega, fun d3 H3 y0 y1 hp3 g3 => ⟨_, _, rfl, rfl, ?_⟩⟩
    exact hq _ _ (by omega) (by omega) hp3 (g1.trans ((grw_laid hn).trans (g2.trans g3)))
theorem ok_thing (h_l_draw : Has P w K mg base "_law_draw" 1 ["_law_pen_here", "_law_size"] spDraw) (h_l_word : Has P w K mg base "_law_word" 1 ["_law_pen_here", "_law_k"] spWord) (h_l_many : Has P w K mg base "_law_many" 2 ["_law_pen_here"] spMany)
    (F : Fun K "_law_thing" "_law_thing" s_l_thing f fd) : FnOk P w K mg base CX0 3 f fd ["_law_pen_here", "_law_marks", "_law_deep"] spThing := by
  refine F.ok sc_l_thing (fun vs H Q E h => ?_) (fun cdv A outer s H vs Q E hr h => ?_)
  · obtain ⟨a, n, k, rfl, _⟩ := h
    rfl
  obtain ⟨a, n, k, rfl, hp, n0, n1, k0, k1, hq⟩ := h
  refine ⟨_, (@pss_cons _ _ _ _ _ (@ps_set _ _ 3 _ _ _ _ sc_l_thing.nd rfl (Or.inl rfl) (@pe_op _ _ _ _ _ _ _ _ op_mul (pe_callH h_l_draw hr (@pa_cons _ _ _ _ _ (pv 0) (@pa_cons _ _ _ _ _ pe_int pa_nil (by rfl)) (by rfl))) (@pe_ix _ _ _ _ _ _ _ ix_list (@pe_lst _ _ _ _ (@pa_cons _ _ _ _ _ pe_int (@pa_cons _ _ _ _ _ pe_int (@pa_cons _ _ _ _ _ pe_int pa_nil (by rfl)) (by rfl)) (by rfl))) (pe_callH h_l_draw hr (@pa_cons _ _ _ _ _ (pv 0) (@pa_cons _ _ _ _ _ pe_int pa_nil (by rfl)) (by rfl))) (fun _ _ => rfl))) (by rfl) (by first | exact .inl rfl | exact .inr rfl))
  (@pss_cons _ _ _ _ _ (@ps_set _ _ 4 _ _ _ _ sc_l_thing.nd rfl (Or.inl rfl) (pe_callH h_l_draw hr (@pa_cons _ _ _ _ _ (pv 0) (@pa_cons _ _ _ _ _ (@pe_op _ _ _ _ _ _ _ _ op_shl pe_int (pv 2)) pa_nil (by rfl)) (by rfl))) (by rfl) (by first | exact .inl rfl | exact .inr rfl))
  (@pss_cons _ _ _ _ _ (@ps_if _ _ _ _ _ _ _ _ (@pt_cmpR _ _ _ _ _ _ _ _ op_eq (pe_callH h_l_draw hr (@pa_cons _ _ _ _ _ (pv 0) (@pa_cons _ _ _ _ _ pe_int pa_nil (by rfl)) (by rfl))) pe_int (nomark _)) (@pss_one _ _ _ (@ps_set _ _ 4 _ _ _ _ sc_l_thing.nd rfl (Or.inl rfl) (@pe_op _ _ _ _ _ _ _ _ op_fdiv (pv 4) pe_int) (by rfl) (by first | exact .inl rfl | exact .inr rfl))) pss_nil)
  (@pss_one _ _ _ (@ps_ret _ _ _ _ (@pe_tup _ _ _ _ _ (@pa_cons _ _ _ _ _ (pv 3) (@pa_cons _ _ _ _ _ (pe_callH h_l_word hr (@pa_cons _ _ _ _ _ (pv 0) (@pa_cons _ _ _ _ _ (pe_callH h_l_draw hr (@pa_cons _ _ _ _ _ (pv 0) (@pa_cons _ _ _ _ _ (pv 1) pa_nil (by rfl)) (by rfl))) pa_nil (by rfl)) (by rfl))) (@pa_cons _ _ _ _ _ (pv 4) (@pa_cons _ _ _ _ _ (pe_callH h_l_many hr (@pa_cons _ _ _ _ _ (pv 0) pa_nil (by rfl))) pa_nil (by rfl)) (by rfl)) (by rfl)) (by rfl)))))))), ?_⟩
  refine ⟨_, rfl, a, 9, rfl, hp, posI rfl, ltI rfl, fun d1 H1 x0 x1 hp1 g1 => ⟨leN rfl, fun p hn => ⟨_, rfl, a, 3, rfl, hp1.laid hn, posI rfl, ltI rfl, fun d2 H2 y0 y1 hp2 g2 => ?_⟩⟩⟩
  obtain ⟨v, hv, hm⟩ := at3 (x := .int 1) (y := .int 1) (z := .int 1000) y0 y1
  have e2 : H2 p = some (.lst [.int 1, .int 1, .int 1000]) := grw_get g2 (hp1.ne hn) upd_same
  have gg := g1.trans ((grw_laid hn).trans g2)
  obtain ⟨m, rfl, m0⟩ : ∃ m : Int, v = .int m ∧ 0 < m := by
    rcases hm with rfl | rfl | rfl
    · exact ⟨_, rfl, by decide⟩
    · exact ⟨_, rfl, by decide⟩
    · exact ⟨_, rfl, by decide⟩
  refine ⟨p, _, _, _, rfl, rfl, SqL.of e2, hv, _, _, rfl, rfl, Or.inl ⟨by omega, by omega⟩, ?_⟩
  have day0 : 0 ≤ d1 * m := Int.mul_nonneg x0 (by omega)
  obtain ⟨kn, rfl⟩ := Int.eq_ofNat_of_zero_le k0
  have hsh : (1 : Int) * 2 ^ kn ≤ 536870912 ∧ 0 < (1 : Int) * 2 ^ kn := by
    have a1 : (2 : Nat) ^ kn ≤ 2 ^ 29 := Nat.pow_le_pow_right (by decide) (by omega)
    have a2 : 0 < (2 : Nat) ^ kn := Nat.pow_pos (by decide)
    have a3 : ((2 ^ kn : Nat) : Int) = (2 : Int) ^ kn := by push_cast; rfl
    rw [Int.one_mul, ← a3]
    have a4 : (2 : Nat) ^ 29 = 536870912 := by decide
    omega
  refine ⟨_, rfl, _, rfl, _, _, rfl, rfl, ⟨by omega, by omega, by decide⟩, a, _, rfl, hp2, hsh.2, by show (1 : Int) * 2 ^ kn < _; omega, fun d3 H3 z0 z1 hp3 g3 => ?_⟩
  have z1 : d3 < (1 : Int) * 2 ^ kn := z1
  refine ⟨_, rfl, a, 3, rfl, hp3, posI rfl, ltI rfl, fun d4 H4 _ _ hp4 g4 => ⟨rfl, _, rfl, ?_⟩⟩
  have g5 := gg.trans (g3.trans g4)
  refine ite2 (fun c => ?_) (fun c => ?_)
  · refine ⟨_, rfl, _, _, rfl, rfl, cdivI rfl rfl, ?_⟩
    refine ⟨_, rfl, _, rfl, _, rfl, _, rfl, a, _, rfl, hp4, n0, by omega, fun d5 H5 _ _ hp5 g6 => ⟨_, _, rfl, fun z H6 hz g7 => ⟨_, rfl, _, rfl, a, rfl, hp5.same g7, fun mm H7 q0 q1 hp7 g8 => ⟨leN rfl, fun r hr7 => ?_⟩⟩⟩⟩
    refine hq r ⟨d1 * m, z, d3 / 4, mm⟩ _ ⟨day0, hz, Int.ediv_nonneg z0 (by decide), q0, by have := Int.ediv_le_self 4 z0; show d3 / 4 < _; omega, q1⟩ (by rw [hide_ne (hp7.ne hr7)]; exact upd_same) (hp7.laid hr7) ?_
    obtain ⟨_, _, _, e5⟩ := hp5
    exact g5.trans (g6.trans ((grw_same e5 g7).trans (g8.trans (grw_laid hr7))))
  · refine ⟨_, rfl, _, rfl, _, rfl, _, rfl, a, _, rfl, hp4, n0, by omega, fun d5 H5 _ _ hp5 g6 => ⟨_, _, rfl, fun z H6 hz g7 => ⟨_, rfl, _, rfl, a, rfl, hp5.same g7, fun mm H7 q0 q1 hp7 g8 => ⟨leN rfl, fun r hr7 => ?_⟩⟩⟩⟩
    refine hq r ⟨d1 * m, z, d3, mm⟩ _ ⟨day0, hz, z0, q0, by show d3 < _; omega, q1⟩ (by rw [hide_ne (hp7.ne hr7)]; exact upd_same) (hp7.laid hr7) ?_
    obtain ⟨_, _, _, e5⟩ := hp5
    exact g5.trans (g6.trans ((grw_same e5 g7).trans (g8.trans (grw_laid hr7))))
theorem ok_stream (h_l_draw : Has P w K mg base "_law_draw" 1 ["_law_pen_here", "_law_size"] spDraw) (h_l_thing : Has P w K mg base "_law_thing" 3 ["_law_pen_here", "_law_marks", "_law_deep"] spThing) (z_range : mg "range" = none)
    (F : Fun K "_law_stream" "_law_stream" s_l_stream f fd) : FnOk P w K mg base CX0 4 f fd ["_law_pen_here", "_law_marks", "_law_deep", "_law_most"] spStream := by
  refine F.ok sc_l_stream (fun vs H Q E h => ?_) (fun cdv A outer s H vs Q E hr h => ?_)
  · obtain ⟨a, n, k, l, rfl, _⟩ := h
    rfl
  obtain ⟨a, n, k, l, rfl, hp, n0, n1, k0, k1, l0, l1, hq⟩ := h
  refine ⟨_, (@pss_one _ _ _ (@ps_ret _ _ _ _ (pe_comp (own := ["_law_k"]) (CompOk.of rfl rfl (by rfl) (by rfl) (by rfl)) (pi_range1 rfl z_range (@pa_cons _ _ _ _ _ (pe_callH h_l_draw hr (@pa_cons _ _ _ _ _ (pv 0) (@pa_cons _ _ _ _ _ (@pe_op _ _ _ _ _ _ _ _ op_add (pv 3) pe_int) pa_nil (by rfl)) (by rfl))) pa_nil (by rfl)))
    (fun _ _ _ _ _ => (pg_name (i := 0) nd_l_stream_110_11 rfl (Or.inl rfl) (Or.inr rfl))) (fun _ _ _ _ _ => pts_nil)
    (fun _ _ _ _ _ => (pe_callH h_l_thing hr (@pa_cons _ _ _ _ _ (pv 1) (@pa_cons _ _ _ _ _ (pv 2) (@pa_cons _ _ _ _ _ (pv 3) pa_nil (by rfl)) (by rfl)) (by rfl))))))), ?_⟩
  refine ⟨_, rfl, _, rfl, _, _, rfl, rfl, a, _, rfl, hp, by omega, by omega, fun d H1 x0 x1 hp1 g1 => ⟨d, rfl, by omega, by omega, ?_⟩⟩
  refine comp_range (fun i ys H' => PenAt H' a ∧ Grw a H H' ∧ ∃ ts : List Th, ts.length = i ∧ (∀ t ∈ ts, t.Ok) ∧ DVs (hide a H') ys (ts.map Th.D)) ⟨hp1, g1, [], rfl, (fun _ h => nomatch h), DVs.nil⟩ ?_ ?_
  · rintro i ys H2 C hi ⟨hp2, g2, ts, hl, hok, dv⟩ hC
    have hyl := dv.length
    rw [List.length_map] at hyl
    refine ⟨small_lt (by omega), Wk.refl _, _, rfl, _, rfl, _, rfl, a, n, k, rfl, hp2, n0, n1, k0, k1, fun r t H3 ht hr3 hp3 g3 => hC _ _ ⟨hp3, g2.trans g3, ts ++ [t], by rw [List.length_append, hl]; rfl, ?_, ?_⟩⟩
    · intro t' ht'
      rcases List.mem_append.mp ht' with h | h
      · exact hok t' h
      · rw [List.mem_singleton.mp h]; exact ht
    · rw [List.map_append]
      exact (dv.mono g3).append (.cons (Th.dv hr3) .nil)
  · rintro ys H2 ⟨hp2, g2, ts, hl, hok, dv⟩
    have hyl := dv.length
    rw [List.length_map] at hyl
    refine ⟨small_le (by omega), fun p hn => hq p ts _ hok (by omega) ?_ (hp2.laid hn) (g2.trans (grw_laid hn))⟩
    have e : hide a (upd H2 p (.lst ys)) p = some (.lst ys) := by rw [hide_ne (hp2.ne hn)]; exact upd_same
    exact .lst e (dv.mono (grw_laid hn))
end
end K13

namespace K13
open PySem L2
/-! ### the steps of a tree -/
def stepsT : Tr → List (Option (List Th))
  | .leaf ts => [some ts]
  | .node l r => stepsT l ++ stepsT r ++ [none]
def stepsO : Option Tr → List (Option (List Th))
  | none => [none]
  | some t => stepsT t
theorem steps_len : ∀ t : Tr, (stepsT t).length = t.size
  | .leaf ts => rfl
  | .node l r => by
    show (stepsT l ++ stepsT r ++ [none]).length = l.size + r.size + 1
    rw [List.length_append, List.length_append, steps_len l, steps_len r]
    rfl
def wtO : Option Tr → Nat
  | none => 1
  | some t => 2 * t.size
abbrev wsz (tk : List (Option Tr)) : Nat := (tk.map wtO).sum
theorem wsz_len : ∀ tk : List (Option Tr), tk.length ≤ wsz tk
  | [] => Nat.le_refl _
  | none :: r => by
    have := wsz_len r
    simp only [wsz, List.map_cons, List.sum_cons, List.length_cons, wtO] at *
    omega
  | some t :: r => by
    have := wsz_len r
    have := t.size_pos
    simp only [wsz, List.map_cons, List.sum_cons, List.length_cons, wtO] at *
    omega
/-- None, or a tree -/
def WV (H : Hp) (v : V) : Option Tr → Prop
  | none => v = .non
  | some t => DV H v t.D
/-- None, or a stream -/
def SV (H : Hp) (v : V) : Option (List Th) → Prop
  | none => v = .non
  | some ts => DV H v (strD ts)
theorem WV.mono {H H' : Hp} (g : Same H H') {v : V} {o : Option Tr} (h : WV H v o) : WV H' v o := by
  cases o with
  | none => exact h
  | some t => exact DV.mono g h
theorem SV.mono {H H' : Hp} (g : Same H H') {v : V} {o : Option (List Th)} (h : SV H v o) : SV H' v o := by
  cases o with
  | none => exact h
  | some t => exact DV.mono g h
theorem prd_mono {α : Type} {R : Hp → V → α → Prop} (hm : ∀ {H H' : Hp}, Same H H' → ∀ {v x}, R H v x → R H' v x) {H H' : Hp} (g : Same H H') : ∀ {vs : List V} {xs : List α}, Paired (R H) vs xs → Paired (R H') vs xs
  | _, _, .nil => .nil
  | _, _, .cons h r => .cons (hm g h) (prd_mono hm g r)
theorem prd_app {α β : Type} {R : α → β → Prop} : ∀ {xs us : List α} {ys ws : List β}, Paired R xs ys → Paired R us ws → Paired R (xs ++ us) (ys ++ ws)
  | _, _, _, _, .nil, h => h
  | _, _, _, _, .cons a r, h => .cons a (prd_app r h)
theorem prd_snoc {α β : Type} {R : α → β → Prop} : ∀ {ys : List β} {xs : List α} {y : β}, Paired R xs (ys ++ [y]) → ∃ xs' x, xs = xs' ++ [x] ∧ Paired R xs' ys ∧ R x y
  | [], _, _, .cons a .nil => ⟨[], _, rfl, .nil, a⟩
  | _ :: _, _, _, .cons a r => by
    obtain ⟨xs', x, e, r', h⟩ := prd_snoc r
    exact ⟨_ :: xs', x, by rw [e]; rfl, .cons a r', h⟩
theorem prd_len {α β : Type} {R : α → β → Prop} : ∀ {xs : List α} {ys : List β}, Paired R xs ys → xs.length = ys.length
  | _, _, .nil => rfl
  | _, _, .cons _ r => congrArg (· + 1) (prd_len r)
theorem prd_get {α β : Type} {R : α → β → Prop} : ∀ {xs : List α} {ys : List β} {i : Nat} {x : α}, Paired R xs ys → xs[i]? = some x → ∃ y, ys[i]? = some y ∧ R x y
  | _, _, _, _, .nil, e => by simp at e
  | _, _, 0, _, .cons a _, e => by simp at e; subst e; exact ⟨_, rfl, a⟩
  | _, _, i + 1, x, .cons _ r, e => by
    obtain ⟨y, h1, h2⟩ := prd_get (i := i) r (by simpa using e)
    exact ⟨y, by simpa using h1, h2⟩
def spSteps : Sp := fun vs H Q _ => ∃ (v : V) (t : Tr) (G : Hp), vs = [v] ∧ Same G H ∧ DV G v t.D ∧ t.size ≤ 1000 ∧
  ∀ (r : Addr) (ls : List V) (H' : Hp), Same H H' → H r = none → H' r = some (.lst ls) → Paired (SV G) ls (stepsT t) → Q (.ref r) H'
section
variable {P : Program} {w : World} {K : PySem.W.Frag} {mg : Str → Option Value} {base : Heap} {f : Addr} {fd : FuncData}
theorem ok_steps (z_isinstance : mg "isinstance" = none) (z_list : mg "list" = none) (z_len : mg "len" = none) (F : Fun K "steps_in" "steps_in" s_steps_in f fd) : FnOk P w K mg base CX0 1 f fd ["tree"] spSteps := by
  refine F.ok sc_steps_in (fun vs H Q E h => ?_) (fun cdv A outer s H vs Q E hr h => ?_)
  · obtain ⟨v, t, G, rfl, _⟩ := h
    rfl
  obtain ⟨v, t, G, rfl, gG, dv, hsz, hq⟩ := h
  refine ⟨_, (@pss_cons _ _ _ _ _ (@ps_set _ _ 1 _ _ _ _ sc_steps_in.nd rfl (Or.inl rfl) (@pe_lst _ _ _ _ pa_nil) (by rfl) (by first | exact .inl rfl | exact .inr rfl))
  (@pss_cons _ _ _ _ _ (@ps_set _ _ 2 _ _ _ _ sc_steps_in.nd rfl (Or.inl rfl) (@pe_lst _ _ _ _ (@pa_cons _ _ _ _ _ (pv 0) pa_nil (by rfl))) (by rfl) (by first | exact .inl rfl | exact .inr rfl))
  (@pss_cons _ _ _ _ _ (ps_while PassesOwn.never (@pt_cmpR _ _ _ _ _ _ _ _ op_gt (pe_callB call_len_seq rfl z_len PySem.boot_len (@pa_cons _ _ _ _ _ (pv 2) pa_nil (by rfl))) pe_int (nomark _)) (@pss_cons _ _ _ _ _ (@ps_set _ _ 3 _ _ _ _ sc_steps_in.nd rfl (Or.inl rfl) (pe_bm0 PySem.F.plainAttrs_list PySem.F.slot_list_pop PySem.F.type_list_pop mt_pop (pv 2)) (by rfl) (by first | exact .inl rfl | exact .inr rfl))
  (@pss_one _ _ _ (@ps_if _ _ _ _ _ _ _ _ (PW.pt (@pw_or _ _ _ _ _ _ _ (@pt_cmpR _ _ _ _ _ _ _ _ op_isN (pv 3) pe_non (nomark _)) (@pw_or1 _ _ _ _ (pt_val (pe_callB call_is rfl z_isinstance PyProof.Rows.boot_isinstance (@pa_cons _ _ _ _ _ (pv 3) (@pa_cons _ _ _ _ _ (pe_bltn (v := .ty "list") rfl z_list PyProof.Rows.boot_list rfl) pa_nil (by rfl)) (by rfl))))))) (@pss_one _ _ _ (ps_expr (pe_bm PySem.F.plainAttrs_list PySem.F.slot_list_append PySem.F.type_list_append mt_append (pv 1) (@pa_cons _ _ _ _ _ (pv 3) pa_nil (by rfl))))) (@pss_one _ _ _ (ps_expr (pe_bm PySem.F.plainAttrs_list PySem.F.slot_list_extend PySem.F.type_list_extend mt_extend (pv 2) (@pa_cons _ _ _ _ _ (@pe_lst _ _ _ _ (@pa_cons _ _ _ _ _ pe_non (@pa_cons _ _ _ _ _ (@pe_ix _ _ _ _ _ _ _ ix_tup (pv 3) pe_int (fun _ _ => rfl)) (@pa_cons _ _ _ _ _ (@pe_ix _ _ _ _ _ _ _ ix_tup (pv 3) pe_int (fun _ _ => rfl)) pa_nil (by rfl)) (by rfl)) (by rfl))) pa_nil (by rfl)))))))))
  (@pss_one _ _ _ (@ps_ret _ _ _ _ (pv 1)))))), ?_⟩
  refine ⟨leN rfl, fun Fa hFa => ?_⟩
  refine ⟨_, rfl, leN rfl, fun Wa hWa => ?_⟩
  have hne : Wa ≠ Fa := fun e => by rw [e, upd_same] at hWa; cases hWa
  have hWa0 : H Wa = none := by rw [upd_ne hne] at hWa; exact hWa
  refine ⟨fun m σ H1 => ∃ (ws ls : List V) (tk : List (Option Tr)) (dn : List (Option (List Th))) (o : Option V), σ = [some v, some (.ref Fa), some (.ref Wa), o] ∧ Same H H1 ∧ H1 Wa = some (.lst ws) ∧ H1 Fa = some (.lst ls) ∧
      Paired (WV G) ws tk ∧ Paired (SV G) ls dn ∧ dn ++ tk.reverse.flatMap stepsO = stepsT t ∧ wsz tk + dn.length ≤ 3000 ∧ m = wsz tk,
    ⟨2 * t.size, [v], [], [some t], [], none, rfl, (same_laid hFa _).trans (same_laid hWa _), upd_same, by rw [upd_ne (Ne.symm hne)]; exact upd_same, .cons dv .nil, .nil, by simp [stepsO], by simp [wsz, wtO]; omega, by simp [wsz, wtO]⟩, ?_⟩
  rintro m σ H1 ⟨ws, ls, tk, dn, o, rfl, g1, eW, eF, dW, dF, hsum, hlen, rfl⟩
  have dl := prd_len dW
  refine ⟨_, rfl, Wa, ws, rfl, .inl (SqL.of eW), _, _, rfl, rfl, _, rfl, ?_⟩
  refine ite2 (fun c => ?_) (fun c => ?_)
  · have c : (0 : Int) < (ws.length : Int) := of_decide_eq_true c
    obtain ⟨tk', t1, rfl⟩ : ∃ tk' t1, tk = tk' ++ [t1] := by
      have : tk ≠ [] := fun e => by rw [e, List.length_nil] at dl; omega
      exact ⟨tk.dropLast, tk.getLast this, (List.dropLast_concat_getLast this).symm⟩
    refine ⟨fun σ' H' => ∃ m', m' < wsz (tk' ++ [t1]) ∧ _, fun _ _ h => h, ?_⟩
    obtain ⟨ws', y, rfl, dW', dy⟩ := prd_snoc dW
    refine ⟨_, rfl, .inl ⟨rfl, _, SqL.of eW⟩, Wa, _, y, rfl, rfl, eW, by simp, ?_⟩
    rw [List.dropLast_concat]
    have g4 : Same H (upd H1 Wa (.lst ws')) := same_fresh g1 hWa0
    have eW4 : upd H1 Wa (.lst ws') Wa = some (.lst ws') := upd_same
    have eF4 : upd H1 Wa (.lst ws') Fa = some (.lst ls) := by rw [upd_ne (Ne.symm hne)]; exact eF
    revert g4 eW4 eF4
    generalize upd H1 Wa (.lst ws') = H4
    intro g4 eW4 eF4
    have hts : wsz (tk' ++ [t1]) = wsz tk' + wtO t1 := by simp [wsz]
    rw [hts] at hlen
    have tl := wsz_len tk'
    have dl := prd_len dW'
    have dl2 := prd_len dF
    cases t1 with
    | none =>
      cases (show y = V.non from dy)
      have hlen2 : wsz tk' + 1 + dn.length ≤ 3000 := hlen
      refine ⟨_, rfl, rfl, _, rfl, iteT (iteT ?_)⟩
      refine ⟨_, rfl, .inl ⟨rfl, _, SqL.of eF4⟩, _, rfl, Fa, ls, _, rfl, rfl, eF4, small_lt (by omega), ?_⟩
      refine ⟨wsz tk', by rw [hts]; show wsz tk' < wsz tk' + 1; omega, ws', ls ++ [.non], tk', dn ++ [none], _, rfl, same_fresh g4 hFa, by rw [upd_ne hne]; exact eW4, upd_same, dW', prd_app dF (.cons (show SV G .non none from rfl) .nil), ?_, by rw [List.length_append]; show wsz tk' + (dn.length + 1) ≤ 3000; omega, rfl⟩
      rw [← hsum]
      simp [stepsO]
    | some t1 =>
    have hpos := t1.size_pos
    have dy : DV G y t1.D := dy
    cases t1 with
    | leaf ts =>
      obtain ⟨b, xs, rfl, eb, qb⟩ := DV.list_inv dy
      have hlen2 : wsz tk' + 2 * 1 + dn.length ≤ 3000 := hlen
      refine ⟨_, rfl, rfl, _, rfl, iteF ?_⟩
      refine ⟨_, rfl, _, _, "list", _, rfl, TyOf.lst (g4 _ _ (gG _ _ eb)), kit_ll, _, rfl, iteT ?_⟩
      refine ⟨_, rfl, .inl ⟨rfl, _, SqL.of eF4⟩, _, rfl, Fa, ls, _, rfl, rfl, eF4, small_lt (by omega), ?_⟩
      refine ⟨wsz tk', by rw [hts]; show wsz tk' < wsz tk' + 2 * 1; omega, ws', ls ++ [.ref b], tk', dn ++ [some ts], _, rfl, same_fresh g4 hFa, by rw [upd_ne hne]; exact eW4, upd_same, dW', prd_app dF (.cons (show SV G (.ref b) (some ts) from dy) .nil), ?_, by rw [List.length_append]; show wsz tk' + (dn.length + 1) ≤ 3000; omega, rfl⟩
      rw [← hsum]
      simp [stepsO, stepsT]
    | node l r =>
      obtain ⟨b, mm, x, y, rfl, eb, dx, dy2⟩ := DV.node_inv dy
      have eb4 := g4 _ _ (gG _ _ eb)
      have hlen2 : wsz tk' + 2 * (l.size + r.size + 1) + dn.length ≤ 3000 := hlen
      refine ⟨_, rfl, rfl, _, rfl, iteF ?_⟩
      refine ⟨_, rfl, _, _, "list", _, rfl, TyOf.tup eb4, kit_tl, _, rfl, iteF ?_⟩
      refine ⟨_, rfl, .inl ⟨rfl, _, SqL.of eW4⟩, _, rfl, b, _, 2, _, rfl, rfl, SqT.of eb4, at3_2 _ _ _, _, rfl, b, _, 1, _, rfl, rfl, SqT.of eb4, at3_1 _ _ _, leN rfl, fun q nq => ?_⟩
      have g5 := g4.trans (same_laid nq (.lst [.non, y, x]))
      have eW5 : upd H4 q (.lst [.non, y, x]) Wa = some (.lst ws') := by rw [upd_ne (ne_of_none eW4 nq)]; exact eW4
      have eF5 : upd H4 q (.lst [.non, y, x]) Fa = some (.lst ls) := by rw [upd_ne (ne_of_none eF4 nq)]; exact eF4
      have eq5 : upd H4 q (.lst [.non, y, x]) q = some (.lst [.non, y, x]) := upd_same
      refine ⟨Wa, q, ws', [.non, y, x], rfl, rfl, eW5, eq5, small_le (by show ws'.length + 3 ≤ _; omega), ?_⟩
      have nw : wsz (tk' ++ [none, some r, some l]) = wsz tk' + (1 + 2 * r.size + 2 * l.size) := by simp [wsz, wtO]; omega
      refine ⟨wsz (tk' ++ [none, some r, some l]), ?_, ws' ++ [.non, y, x], ls, tk' ++ [none, some r, some l], dn, _, rfl, same_fresh g5 hWa0, upd_same, by rw [upd_ne (Ne.symm hne)]; exact eF5, ?_, dF, ?_, ?_, rfl⟩
      · rw [hts, nw]
        show _ < wsz tk' + 2 * (l.size + r.size + 1)
        omega
      · exact prd_app dW' (.cons (show WV G .non none from rfl) (.cons (show WV G y (some r) from dy2) (.cons (show WV G x (some l) from dx) .nil)))
      · rw [← hsum]
        simp [stepsO, stepsT]
      · rw [nw]
        omega
  · have c : ¬ ((0 : Int) < (ws.length : Int)) := of_decide_eq_false (Bool.eq_false_iff.mpr c)
    have e : tk = [] := List.eq_nil_of_length_eq_zero (by omega)
    subst e
    refine ⟨_, rfl, ?_⟩
    have e : dn = stepsT t := by simpa using hsum
    subst e
    exact hq Fa ls _ g1 hFa eF dF
end
end K13

namespace K13
open PySem L2
/-! ### what is kept of a tree -/
section
variable {α : Type}
def evT (fs : List Th → α) (fm : α → α → α) : Tr → α
  | .leaf ts => fs ts
  | .node l r => fm (evT fs fm l) (evT fs fm r)
def mach (fs : List Th → α) (fm : α → α → α) : List (Option (List Th)) → List α → Option (List α)
  | [], st => some st
  | some ts :: r, st => mach fs fm r (fs ts :: st)
  | none :: r, y :: x :: st => mach fs fm r (fm x y :: st)
  | none :: _, _ => none
theorem mach_tree (fs : List Th → α) (fm : α → α → α) : ∀ (t : Tr) (r : List (Option (List Th))) (st : List α), mach fs fm (stepsT t ++ r) st = mach fs fm r (evT fs fm t :: st)
  | .leaf ts, r, st => rfl
  | .node a b, r, st => by
    show mach fs fm (stepsT a ++ stepsT b ++ [none] ++ r) st = _
    rw [List.append_assoc, List.append_assoc, mach_tree fs fm a, mach_tree fs fm b]
    rfl
/-- a function that is handed in: it tells what is kept of a stream -/
def isFs (P : Program) (w : World) (K : PySem.W.Frag) (mg : Str → Option Value) (base : Heap) (k : Nat) (Rep : Hp → V → α → Prop) (fs : List Th → α) (Hh : Hp) (f : Addr) (OkS : List Th → Prop) : Prop := ∃ (fd : FuncData) (ps : List Str) (sp : Sp), FnOk P w K mg base CX0 k f fd ps sp ∧ Binds K fd ps [] ∧ Cal base f ∧
  ∀ (H : Hp) (v : V) (ts : List Th) (Q : VK), Same Hh H → DV H v (strD ts) → OkS ts → (∀ (p : V) (H' : Hp), Same H H' → Rep H' p (fs ts) → Q p H') → sp [v] H Q E0
def isFm (P : Program) (w : World) (K : PySem.W.Frag) (mg : Str → Option Value) (base : Heap) (k : Nat) (Rep : Hp → V → α → Prop) (fm : α → α → α) (Hh : Hp) (f : Addr) (I : α → Prop) : Prop := ∃ (fd : FuncData) (ps : List Str) (sp : Sp), FnOk P w K mg base CX0 k f fd ps sp ∧ Binds K fd ps [] ∧ Cal base f ∧
  ∀ (H : Hp) (u v : V) (x y : α) (Q : VK), Same Hh H → Rep H u x → Rep H v y → I x → I y → (∀ (p : V) (H' : Hp), Same H H' → Rep H' p (fm x y) → Q p H') → sp [u, v] H Q E0
def spGrown (P : Program) (w : World) (K : PySem.W.Frag) (mg : Str → Option Value) (k : Nat) (base : Heap) : Sp := fun vs H Q _ => ∃ (α : Type) (Rep : Hp → V → α → Prop) (fs : List Th → α) (fm : α → α → α) (I : α → Prop) (OkS : List Th → Prop) (v : V) (f1 f2 : Addr) (t : Tr),
  vs = [v, .ref f1, .ref f2] ∧ DV H v t.D ∧ t.size ≤ 1000 ∧ (∀ s ∈ t.streams, OkS s) ∧ isFs P w K mg base k Rep fs H f1 OkS ∧ isFm P w K mg base k Rep fm H f2 I ∧ (∀ ts, OkS ts → I (fs ts)) ∧ (∀ x y, I x → I y → I (fm x y)) ∧
  (∀ {H H' : Hp}, Same H H' → ∀ {v x}, Rep H v x → Rep H' v x) ∧ (∀ {H : Hp} {a : Addr} {xs : List V}, H a = some (.lst xs) → ∀ {v x}, Rep H v x → Rep (hide a H) v x) ∧ ∀ (p : V) (H' : Hp), Same H H' → Rep H' p (evT fs fm t) → Q p H'
end
theorem steps_streams : ∀ (t : Tr) (ts : List Th), some ts ∈ stepsT t → ts ∈ t.streams
  | .leaf s, ts, h => by
    have := List.mem_singleton.mp h
    cases this
    exact .head _
  | .node a b, ts, h => by
    show ts ∈ a.streams ++ b.streams
    rcases List.mem_append.mp (show some ts ∈ stepsT a ++ stepsT b ++ [none] from h) with h | h
    · rcases List.mem_append.mp h with h | h
      · exact List.mem_append_left _ (steps_streams a ts h)
      · exact List.mem_append_right _ (steps_streams b ts h)
    · exact nomatch List.mem_singleton.mp h
theorem fresh_grwG {p : Addr} {H0 H1 H2 : Hp} (n : H0 p = none) (s : Same H0 H1) (g : Grw p H1 H2) : Same H0 H2 := fun b u e => (hide_some (g b u (by rw [hide_ne (ne_of_none e n)]; exact s b u e))).2
theorem grw_any {a : Addr} {H : Hp} {o : HO} : Same (hide a H) (upd H a o) := fun b u q => by
  obtain ⟨h1, h2⟩ := hide_some q
  rw [upd_ne h1]
  exact h2
section
variable {P : Program} {w : World} {K : PySem.W.Frag} {mg : Str → Option Value} {base : Heap} {f : Addr} {fd : FuncData}
theorem ok_grown {k : Nat} (hk : 1 ≤ k) (h_steps_in : Has P w K mg base "steps_in" 1 ["tree"] spSteps) (F : Fun K "grown" "grown" s_grown f fd) : FnOk P w K mg base CX0 (k + 1) f fd ["tree", "of_stream", "of_two"] (spGrown P w K mg k base) := by
  refine F.ok sc_grown (fun vs H Q E h => ?_) (fun cdv A outer s H vs Q E hr h => ?_)
  · obtain ⟨_, _, _, _, _, _, v, f1, f2, t, rfl, _⟩ := h
    rfl
  obtain ⟨α, Rep, fs, fm, I, OkS, v, f1, f2, t, rfl, dv, hsz, hok, ⟨fd1, ps1, sp1, F1, B1, C1, u1⟩, ⟨fd2, ps2, sp2, F2, B2, C2, u2⟩, I1, I2, mono, lst, hq⟩ := h
  refine ⟨_, (@pss_cons _ _ _ _ _ (@ps_set _ _ 3 _ _ _ _ sc_grown.nd rfl (Or.inl rfl) (@pe_lst _ _ _ _ pa_nil) (by rfl) (by first | exact .inl rfl | exact .inr rfl))
  (@pss_cons _ _ _ _ _ (ps_for PassesOwn.never rfl (pi_list (pe_callH h_steps_in hr (@pa_cons _ _ _ _ _ (pv 0) pa_nil (by rfl)))) (pg_name (i := 4) sc_grown.nd rfl (Or.inl rfl))
  (@pss_one _ _ _ (@ps_if _ _ _ _ _ _ _ _ (@pt_cmpR _ _ _ _ _ _ _ _ op_isN (pv 4) pe_non (nomark _)) (@pss_cons _ _ _ _ _ (@ps_set _ _ 5 _ _ _ _ sc_grown.nd rfl (Or.inl rfl) (pe_bm0 PySem.F.plainAttrs_list PySem.F.slot_list_pop PySem.F.type_list_pop mt_pop (pv 3)) (by rfl) (by first | exact .inl rfl | exact .inr rfl))
  (@pss_cons _ _ _ _ _ (@ps_set _ _ 6 _ _ _ _ sc_grown.nd rfl (Or.inl rfl) (pe_bm0 PySem.F.plainAttrs_list PySem.F.slot_list_pop PySem.F.type_list_pop mt_pop (pv 3)) (by rfl) (by first | exact .inl rfl | exact .inr rfl))
  (@pss_one _ _ _ (ps_expr (pe_bm PySem.F.plainAttrs_list PySem.F.slot_list_append PySem.F.type_list_append mt_append (pv 3) (@pa_cons _ _ _ _ _ (pe_callV (i := 2) hr (@pa_cons _ _ _ _ _ (pv 6) (@pa_cons _ _ _ _ _ (pv 5) pa_nil (by rfl)) (by rfl))) pa_nil (by rfl))))))) (@pss_one _ _ _ (ps_expr (pe_bm PySem.F.plainAttrs_list PySem.F.slot_list_append PySem.F.type_list_append mt_append (pv 3) (@pa_cons _ _ _ _ _ (pe_callV (i := 1) hr (@pa_cons _ _ _ _ _ (pv 4) pa_nil (by rfl))) pa_nil (by rfl))))))))
  (@pss_one _ _ _ (@ps_ret _ _ _ _ (pe_bm0 PySem.F.plainAttrs_list PySem.F.slot_list_pop PySem.F.type_list_pop mt_pop (pv 3)))))), ?_⟩
  refine ⟨leN rfl, fun kp nkp => ?_⟩
  refine ⟨_, rfl, v, t, H, rfl, same_laid nkp _, dv, hsz, fun r ls H2 s2 nr er pr => ?_⟩
  have ekp : H2 kp = some (.lst []) := s2 _ _ upd_same
  have sH : Same H H2 := (same_laid nkp _).trans s2
  have krne : r ≠ kp := fun z => by rw [z, upd_same] at nr; cases nr
  have lsl := prd_len pr
  rw [steps_len] at lsl
  refine ⟨r, rfl, ⟨_, SqL.of er⟩, ?_⟩
  refine for_list (xs := ls) (fun i σ H' => ∃ (o4 o5 o6 : Option V) (vs : List V) (st : List α), σ = [some v, some (.ref f1), some (.ref f2), some (.ref kp), o4, o5, o6] ∧ Grw kp H2 H' ∧ H' kp = some (.lst vs) ∧ Paired (Rep (hide kp H')) vs st.reverse ∧ (∀ x ∈ st, I x) ∧ st.length ≤ i ∧ mach fs fm ((stepsT t).drop i) st = some [evT fs fm t])
    ⟨_, _, _, [], [], rfl, Same.refl _, ekp, .nil, (fun _ h => nomatch h), Nat.le_refl _, ?_⟩ ?_ ?_ ?_
  · have := mach_tree fs fm t [] []
    rw [List.append_nil] at this
    exact this
  · rintro i σ H' _ ⟨_, _, _, _, _, _, g, _⟩
    exact SqL.of (hide_some (g _ _ (by rw [hide_ne krne]; exact er))).2
  · rintro i x σ H' hx ⟨o4, o5, o6, vs, st, rfl, g, ek, pst, ist, stl, hm⟩
    obtain ⟨o, ho, sv⟩ := prd_get pr hx
    have hd : (stepsT t).drop i = o :: (stepsT t).drop (i + 1) := by
      have hlt := (List.getElem?_eq_some_iff.mp ho).1
      rw [List.drop_eq_getElem_cons hlt]
      congr 1
      exact (List.getElem?_eq_some_iff.mp ho).2
    rw [hd] at hm
    have ilt : i < ls.length := (List.getElem?_eq_some_iff.mp hx).1
    have vl := prd_len pst
    rw [List.length_reverse] at vl
    cases o with
    | none =>
      cases (show x = V.non from sv)
      refine ⟨_, rfl, rfl, _, rfl, iteT ?_⟩
      match st, hm, ist, stl, pst, vl with
      | y :: x :: st', hm, ist, stl, pst, vl =>
      have e : (y :: x :: st').reverse = st'.reverse ++ [x] ++ [y] := by simp
      rw [e] at pst
      obtain ⟨vs1, b, rfl, pst1, rb⟩ := prd_snoc pst
      obtain ⟨vs2, a, rfl, pst2, ra⟩ := prd_snoc pst1
      refine ⟨_, rfl, .inl ⟨rfl, _, SqL.of ek⟩, kp, _, b, rfl, rfl, ek, by simp, ?_⟩
      rw [List.dropLast_concat]
      refine ⟨_, rfl, .inl ⟨rfl, _, SqL.of upd_same⟩, kp, _, a, rfl, rfl, upd_same, by simp, ?_⟩
      rw [List.dropLast_concat, upd_upd]
      have gc : Grw kp H' (upd H' kp (.lst vs2)) := grw_upd
      have ec : upd H' kp (.lst vs2) kp = some (.lst vs2) := upd_same
      generalize upd H' kp (.lst vs2) = Hc at gc ec ⊢
      have sc : Same H Hc := fresh_grwG nkp sH (g.trans gc)
      refine ⟨_, rfl, .inl ⟨rfl, _, SqL.of ec⟩, f2, fd2, ps2, sp2, rfl, F2, B2, C2, _, rfl, _, rfl, ?_⟩
      refine u2 Hc a b x y _ sc (mono hide_sub (mono gc ra)) (mono hide_sub (mono gc rb)) (ist x (.tail _ (.head _))) (ist y (.head _)) fun p H3 s3 rp => ?_
      have ek3 := s3 _ _ ec
      have g3 : Grw kp Hc H3 := grw_same ec s3
      refine ⟨kp, vs2, p, rfl, rfl, ek3, small_lt (by rw [List.length_append, List.length_append] at vl; simp at vl; simp at stl; omega), ?_⟩
      refine ⟨_, _, _, vs2 ++ [p], fm x y :: st', rfl, g.trans (gc.trans (g3.trans grw_upd)), upd_same, ?_, fun z hz => ?_, by simp at stl ⊢; omega, hm⟩
      · rw [List.reverse_cons]
        refine prd_app (prd_mono (R := Rep) mono (gc.trans (g3.trans grw_upd)) pst2) (.cons ?_ .nil)
        exact mono grw_upd (lst ek3 rp)
      · rcases List.mem_cons.mp hz with rfl | hz
        · exact I2 _ _ (ist x (.tail _ (.head _))) (ist y (.head _))
        · exact ist z (.tail _ (.tail _ hz))
    | some ts =>
      have sv : DV H x (strD ts) := sv
      obtain ⟨b, xs, rfl, eb, qb⟩ := DV.list_inv sv
      refine ⟨_, rfl, rfl, _, rfl, iteF ?_⟩
      have oks := hok ts (steps_streams t ts (List.mem_of_getElem? ho))
      have sc : Same H H' := fresh_grwG nkp sH g
      have dvx : DV H' (.ref b) (strD ts) := sv.mono sc
      refine ⟨_, rfl, .inl ⟨rfl, _, SqL.of ek⟩, f1, fd1, ps1, sp1, rfl, F1, B1, C1, _, rfl, ?_⟩
      refine u1 H' (.ref b) ts _ sc dvx oks fun p H3 s3 rp => ?_
      have ek3 := s3 _ _ ek
      have g3 : Grw kp H' H3 := grw_same ek s3
      refine ⟨kp, vs, p, rfl, rfl, ek3, small_lt (by omega), ?_⟩
      refine ⟨_, _, _, vs ++ [p], fs ts :: st, rfl, g.trans (g3.trans grw_upd), upd_same, ?_, fun z hz => ?_, by simp; omega, hm⟩
      · rw [List.reverse_cons]
        refine prd_app (prd_mono (R := Rep) mono (g3.trans grw_upd) pst) (.cons ?_ .nil)
        exact mono grw_upd (lst ek3 rp)
      · rcases List.mem_cons.mp hz with rfl | hz
        · exact I1 _ oks
        · exact ist z hz
  · rintro σ H' ⟨o4, o5, o6, vs, st, rfl, g, ek, pst, ist, stl, hm⟩
    rw [lsl, ← steps_len, List.drop_length] at hm
    have hst : st = [evT fs fm t] := Option.some.inj hm
    subst hst
    match vs, pst with
    | [p], .cons rp .nil =>
    refine ⟨_, rfl, .inl ⟨rfl, _, SqL.of ek⟩, kp, _, p, rfl, rfl, ek, rfl, ?_⟩
    exact hq p _ (same_fresh (fresh_grwG nkp sH g) nkp) (mono grw_any rp)
end
end K13

namespace K13
open PySem L2
def spCut : Sp := fun vs H Q _ => ∃ (a : Addr) (room : Int) (kvs : List (Key × V)) (ns : List Int), vs = [.int room, .ref a] ∧ H a = some (.dK kvs) ∧ kvs.map (·.2) = ns.map V.int ∧ 0 ≤ room ∧ ns.length < 64 ∧ ∀ H', Same H H' → Q (.int (cutM room ns)) H'
def spEmpty : Sp := fun vs H Q _ => ∃ (room : Int), vs = [.int room] ∧ ∀ (p : Addr) H', Same H H' → DV H' (.ref p) (Ty.D ⟨room, [], 0, 0⟩) → Q (.ref p) H'
def spAdded : Sp := fun vs H Q _ => ∃ (r q : Addr) (a b : Ty), vs = [.ref r, .ref q] ∧ DV H (.ref r) a.D ∧ DV H (.ref q) b.D ∧ a.Ok ∧ b.Ok ∧ a.room = b.room ∧ ∀ (d : Addr) H', Same H H' → H d = none → H' d = some (.dK (kvOf (mrgP a.cs b.cs))) → Q (.ref d) H'
def spMer : Sp := fun vs H Q _ => ∃ (r q : Addr) (a b : Ty), vs = [.ref r, .ref q] ∧ DV H (.ref r) a.D ∧ DV H (.ref q) b.D ∧ a.Ok ∧ b.Ok ∧ a.room = b.room ∧ ∀ (p : Addr) H', Same H H' → DV H' (.ref p) (mergeT a b).D → Q (.ref p) H'
def spAddC : Sp := fun vs H Q _ => ∃ (b1 b2 : Addr) (rows1 rows2 : List V) (xs ys : Ps), vs = [.ref b1, .ref b2] ∧ H b1 = some (.tup rows1) ∧ H b2 = some (.tup rows2) ∧ PairsAt H rows1 (kvOf xs) ∧ PairsAt H rows2 (kvOf ys) ∧ (xs.map (·.1)).Nodup ∧ (ys.map (·.1)).Nodup ∧ xs.length ≤ 20 ∧ ys.length ≤ 20 ∧ ∀ (d : Addr) H', Same H H' → H d = none → H' d = some (.dK (kvOf (mrgP xs ys))) → Q (.ref d) H'
section
variable {P : Program} {w : World} {K : PySem.W.Frag} {mg : Str → Option Value} {base : Heap} {f : Addr} {fd : FuncData}
theorem ok_cut (z_len : mg "len" = none) (z_sorted : mg "sorted" = none) (F : Fun K "cut_of" "cut_of" s_cut_of f fd) : FnOk P w K mg base CX0 1 f fd ["room", "sums"] spCut := by
  refine F.ok sc_cut_of (fun vs H Q E h => ?_) (fun cdv A outer s H vs Q E hr h => ?_)
  · obtain ⟨a, room, kvs, ns, rfl, _⟩ := h
    rfl
  obtain ⟨a, room, kvs, ns, rfl, ha, hns, h0, h64, hq⟩ := h
  refine ⟨_, (@pss_cons _ _ _ _ _ (@ps_if _ _ _ _ _ _ _ _ (@pt_cmpR _ _ _ _ _ _ _ _ op_le (pe_callB call_lenD rfl z_len PySem.boot_len (@pa_cons _ _ _ _ _ (pv 1) pa_nil (by rfl))) (pv 0) (nomark _)) (@pss_one _ _ _ (@ps_ret _ _ _ _ pe_int)) pss_nil)
  (@pss_one _ _ _ (@ps_ret _ _ _ _ (@pe_ix _ _ _ _ _ _ _ ix_list (pe_callBK (call_sortRV rfl) rfl z_sorted PyProof.Rows.boot_sorted (@pa_cons _ _ _ _ _ (pe_bm0 PySem.F.plainAttrs_dict PySem.F.slot_dict_values PySem.F.type_dict_values mt_values (pv 1)) pa_nil (by rfl)) (pk_cons pe_bl pk_nil)) (pv 0) (fun _ _ => rfl))))), ?_⟩
  have hl : kvs.length = ns.length := by
    have e := congrArg List.length hns
    rw [List.length_map, List.length_map] at e
    exact e
  refine ⟨_, rfl, a, kvs, rfl, ha, _, rfl, _, _, rfl, rfl, _, rfl, ?_⟩
  refine ite2 (fun c => ?_) (fun c => ?_)
  · have c := of_decide_eq_true c
    have q := hq H (Same.refl _)
    have e : cutM room ns = 0 := if_pos (by omega)
    rw [e] at q
    exact q
  · have c := of_decide_eq_false (Bool.eq_false_iff.mpr c)
    refine ⟨_, rfl, tyV_dict ha, a, kvs, rfl, rfl, ha, fun v nv => ?_⟩
    have ha2 : upd H v (vView v a) a = some (.dK kvs) := by rw [upd_ne (ne_of_none ha nv)]; exact ha
    refine ⟨v, a, kvs, ns, rfl, rfl, upd_same, ha2, hns, h64, fun p ms np pm pw => ?_⟩
    have em := srt_of pm pw
    subst em
    obtain ⟨c1, e1, e2, _⟩ := cut_right (ns := ns) h0 (by omega)
    have e3 : atI ((srt ns).map V.int) room = some (.int c1) := by
      have q := atI_nat (xs := (srt ns).map V.int) (j := room.toNat) (v := .int c1) (by rw [List.getElem?_map, e1]; rfl)
      rw [show ((room.toNat : Nat) : Int) = room by omega] at q
      exact q
    refine ⟨_, rfl, p, _, _, _, rfl, rfl, SqL.of upd_same, e3, ?_⟩
    rw [← e2]
    exact hq _ ((same_laid nv _).trans (same_laid np _))
theorem ok_empty (F : Fun K "empty_tally" "empty_tally" s_empty_tally f fd) : FnOk P w K mg base CX0 1 f fd ["room"] spEmpty := by
  refine F.ok sc_empty_tally (fun vs H Q E h => ?_) (fun cdv A outer s H vs Q E hr h => ?_)
  · obtain ⟨room, rfl, _⟩ := h
    rfl
  obtain ⟨room, rfl, hq⟩ := h
  refine ⟨_, (@pss_one _ _ _ (@ps_ret _ _ _ _ (@pe_tup _ _ _ _ _ (@pa_cons _ _ _ _ _ (pv 0) (@pa_cons _ _ _ _ _ (@pe_tup _ _ _ _ _ pa_nil) (@pa_cons _ _ _ _ _ pe_int (@pa_cons _ _ _ _ _ pe_int pa_nil (by rfl)) (by rfl)) (by rfl)) (by rfl))))), ?_⟩
  have gg : Same H H := fun _ _ h => h
  refine ⟨_, rfl, leN rfl, ?_⟩
  intro p n_p
  generalize hz : upd _ p _ = H1
  have gz := laid_same hz n_p
  have e_p := laid_at hz
  clear hz
  have gg := gg.trans gz
  refine ⟨leN rfl, ?_⟩
  intro q n_q
  generalize hz : upd _ q _ = H2
  have gz := laid_same hz n_q
  have e_q := laid_at hz
  clear hz
  have gg := gg.trans gz
  have e_p := gz _ _ e_p
  exact hq q _ gg (Ty.dv (t := ⟨room, [], 0, 0⟩) e_q e_p .nil)
theorem ok_added (z_dict : mg "dict" = none) (F : Fun K "added_counts" "added_counts" s_added_counts f fd) : FnOk P w K mg base CX0 1 f fd ["one", "other"] spAddC := by
  refine F.ok sc_added_counts (fun vs H Q E h => ?_) (fun cdv A outer s H vs Q E hr h => ?_)
  · obtain ⟨r, q, rows1, rows2, xs, ys, rfl, _⟩ := h
    rfl
  obtain ⟨b1, b2, rows1, rows2, xs, ys, rfl, eb1, eb2, pa1, pa2, nda, ndb, la, lb, hq⟩ := h
  refine ⟨_, (@pss_cons _ _ _ _ _ (@ps_set _ _ 2 _ _ _ _ sc_added_counts.nd rfl (Or.inl rfl) (pe_callTy (call_dictT rfl) rfl z_dict PyProof.Rows.boot_dict (@pa_cons _ _ _ _ _ (pv 0) pa_nil (by rfl))) (by rfl) (by first | exact .inl rfl | exact .inr rfl))
  (@pss_cons _ _ _ _ _ (ps_for PassesOwn.never rfl (pi_tup (pv 1)) (pg_tup rfl (pgs_cons (pg_name (i := 3) sc_added_counts.nd rfl (Or.inl rfl)) (pgs_cons (pg_name (i := 4) sc_added_counts.nd rfl (Or.inl rfl)) pgs_nil)))
  (@pss_one _ _ _ (ps_dput (hu_of hr) (pv 2) (pv 3) (@pe_op _ _ _ _ _ _ _ _ op_add (pe_dget2 (hu_of hr) (pv 2) (pv 3) pe_int ⟨rfl, rfl, rfl, rfl⟩) (pv 4)) rfl)))
  (@pss_one _ _ _ (@ps_ret _ _ _ _ (pv 2))))), ?_⟩
  have kl1 := kvOf_len xs
  refine ⟨_, rfl, b1, rows1, _, rfl, eb1, pa1, by omega, ?_⟩
  rw [mergeK_nil (by rw [kvOf_keys]; exact nd_inr nda)]
  have gg : Same H H := fun _ _ h => h
  intro d n_d
  generalize hz : upd _ d _ = H1
  have gz := laid_same hz n_d
  have e_d := laid_at hz
  clear hz
  have gg := gg.trans gz
  refine ⟨_, rfl, b2, rfl, ⟨_, SqT.of (gz _ _ eb2)⟩, ?_⟩
  have rl := pa2.length
  rw [kvOf_len] at rl
  refine for_tup (xs := rows2) (fun n σ H' => ∃ (o3 o4 : Option V), σ = [some (.ref b1), some (.ref b2), some (.ref d), o3, o4] ∧ Same H H' ∧ H' d = some (.dK (kvOf (mrgP xs (ys.take n))))) ⟨_, _, rfl, gz, by rw [List.take_zero, mrgP_nil nda]; exact e_d⟩ ?_ ?_ ?_
  · rintro i σ H' _ ⟨_, _, _, g, _⟩
    exact SqT.of (g _ _ eb2)
  · rintro i x σ H' hx ⟨o3, o4, rfl, g, ed⟩
    obtain ⟨y, p, rfl, hp, ey⟩ := pa2.getP hx
    have tk : ys.take (i + 1) = ys.take i ++ [p] := take_one hp
    have nt : ∀ n, ((ys.take n).map (·.1)).Nodup := fun n => by rw [List.map_take]; exact ndb.sublist (List.take_sublist _ _)
    have len : (kvOf (mrgP xs (ys.take i))).length ≤ 40 := by
      have := keysM_len xs (ys.take i)
      rw [List.length_take] at this
      rw [kvOf_len]
      unfold mrgP
      rw [List.length_map]
      omega
    refine ⟨y, _, rfl, SqT.of (g _ _ ey), rfl, _, _, rfl, _, _, rfl, rfl, ?_⟩
    refine ⟨_, rfl, d, rfl, .inl ⟨_, .inl ed⟩, _, rfl, _, DGet.k (k := Sum.inr p.1) ed, _, rfl, _, _, val_mrgP nda (nt i) p.1, rfl, ?_⟩
    refine ⟨_, rfl, _, rfl, d, _, rfl, DPut.k (k := Sum.inr p.1) ed (small_lt (by omega)), some (.str p.1), some (.int p.2), rfl, same_fresh g n_d, ?_⟩
    rw [put_mrgP nda (by rw [← tk]; exact nt (i + 1)), ← tk]
    exact upd_same
  rintro σ H2 ⟨o3, o4, rfl, g2, ed⟩
  rw [rl, List.take_length] at ed
  exact ⟨_, rfl, hq d _ g2 n_d ed⟩
theorem ok_addsums (h_added_counts : Has P w K mg base "added_counts" 1 ["one", "other"] spAddC) (F : Fun K "added_sums" "added_sums" s_added_sums f fd) : FnOk P w K mg base CX0 2 f fd ["one", "other"] spAdded := by
  refine F.ok sc_added_sums (fun vs H Q E h => ?_) (fun cdv A outer s H vs Q E hr h => ?_)
  · obtain ⟨r, q, a, b, rfl, _⟩ := h
    rfl
  obtain ⟨r, q, a, b, rfl, ha, hb, oka, okb, rm, hq⟩ := h
  refine ⟨_, (@pss_cons _ _ _ _ _ (@ps_if _ _ _ _ _ _ _ _ (@pt_cmpR _ _ _ _ _ _ _ _ op_ne (@pe_ix _ _ _ _ _ _ _ ix_tup (pv 0) pe_int (fun _ _ => rfl)) (@pe_ix _ _ _ _ _ _ _ ix_tup (pv 1) pe_int (fun _ _ => rfl)) (nomark _)) (@pss_one _ _ _ ps_never) pss_nil)
  (@pss_one _ _ _ (@ps_ret _ _ _ _ (pe_callH h_added_counts hr (@pa_cons _ _ _ _ _ (@pe_ix _ _ _ _ _ _ _ ix_tup (pv 0) pe_int (fun _ _ => rfl)) (@pa_cons _ _ _ _ _ (@pe_ix _ _ _ _ _ _ _ ix_tup (pv 1) pe_int (fun _ _ => rfl)) pa_nil (by rfl)) (by rfl)))))), ?_⟩
  obtain ⟨_, b1, rows1, e0, ea, eb1, pa1⟩ := DV.ty_inv ha
  cases e0
  obtain ⟨_, b2, rows2, e0, eb, eb2, pa2⟩ := DV.ty_inv hb
  cases e0
  have la := oka.len
  have lb := okb.len
  have ra := oka.room2
  refine ⟨_, rfl, _, _, _, _, rfl, rfl, SqT.of ea, rfl, _, rfl, _, _, _, _, rfl, rfl, SqT.of eb, rfl, rfl, _, rfl, ?_⟩
  rw [decide_eq_true (by rw [rm])]
  refine iteF ?_
  exact ⟨_, rfl, _, _, _, _, rfl, rfl, SqT.of ea, rfl, _, rfl, _, _, _, _, rfl, rfl, SqT.of eb, rfl, b1, b2, rows1, rows2, a.cs, b.cs, rfl, eb1, eb2, pa1, pa2, oka.nd, okb.nd, by omega, by omega, fun d H' sm nd ed => hq d H' sm nd ed⟩
theorem ok_mer (z_sorted : mg "sorted" = none) (z_tuple : mg "tuple" = none) (h_added_sums : Has P w K mg base "added_sums" 2 ["one", "other"] spAdded) (h_cut_of : Has P w K mg base "cut_of" 1 ["room", "sums"] spCut)
    (F : Fun K "merged_tally" "merged_tally" s_merged_tally f fd) : FnOk P w K mg base CX0 3 f fd ["one", "other"] spMer := by
  refine F.ok sc_merged_tally (fun vs H Q E h => ?_) (fun cdv A outer s H vs Q E hr h => ?_)
  · obtain ⟨r, q, a, b, rfl, _⟩ := h
    rfl
  obtain ⟨r, q, a, b, rfl, ha, hb, oka, okb, rm, hq⟩ := h
  refine ⟨_, (@pss_cons _ _ _ _ _ (@ps_set _ _ 2 _ _ _ _ sc_merged_tally.nd rfl (Or.inr rfl) (pe_callH h_added_sums hr (@pa_cons _ _ _ _ _ (pv 0) (@pa_cons _ _ _ _ _ (pv 1) pa_nil (by rfl)) (by rfl))) (by rfl) (by first | exact .inl rfl | exact .inr rfl))
  (@pss_cons _ _ _ _ _ (@ps_set _ _ 3 _ _ _ _ sc_merged_tally.nd rfl (Or.inl rfl) (@pe_ix _ _ _ _ _ _ _ ix_tup (pv 0) pe_int (fun _ _ => rfl)) (by rfl) (by first | exact .inl rfl | exact .inr rfl))
  (@pss_cons _ _ _ _ _ (@ps_set _ _ 4 _ _ _ _ sc_merged_tally.nd rfl (Or.inr rfl) (pe_callH h_cut_of hr (@pa_cons _ _ _ _ _ (pv 3) (@pa_cons _ _ _ _ _ (pv 2) pa_nil (by rfl)) (by rfl))) (by rfl) (by first | exact .inl rfl | exact .inr rfl))
  (@pss_cons _ _ _ _ _ (ps_setC (i := 5) sc_merged_tally.nd rfl rfl (own := ["mark"]) (CompOk.of rfl rfl (by rfl) (by rfl) (by rfl)) (pi_list (pe_callB (call_sortD rfl) rfl z_sorted PyProof.Rows.boot_sorted (@pa_cons _ _ _ _ _ (pv 2) pa_nil (by rfl))))
    (fun _ _ _ _ _ => (pg_name (i := 0) nd_merged_tally_67_13 rfl (Or.inl rfl) (Or.inr rfl))) (fun _ _ _ _ _ => (pts_one (@pt_cmpR _ _ _ _ _ _ _ _ op_gt (pe_dget (hu_of hr) (pv 3) (pv 0) (fun _ _ => rfl)) (pv 5) (nomark _))))
    (fun _ _ _ _ _ => (@pe_tup _ _ _ _ _ (@pa_cons _ _ _ _ _ (pv 0) (@pa_cons _ _ _ _ _ (@pe_op _ _ _ _ _ _ _ _ op_sub (pe_dget (hu_of hr) (pv 3) (pv 0) (fun _ _ => rfl)) (pv 5)) pa_nil (by rfl)) (by rfl)))))
  (@pss_one _ _ _ (@ps_ret _ _ _ _ (@pe_tup _ _ _ _ _ (@pa_cons _ _ _ _ _ (pv 3) (@pa_cons _ _ _ _ _ (pe_callTy call_tuple_of rfl z_tuple PyProof.Rows.boot_tuple (@pa_cons _ _ _ _ _ (pv 5) pa_nil (by rfl))) (@pa_cons _ _ _ _ _ (@pe_op _ _ _ _ _ _ _ _ op_add (@pe_op _ _ _ _ _ _ _ _ op_add (@pe_ix _ _ _ _ _ _ _ ix_tup (pv 0) pe_int (fun _ _ => rfl)) (@pe_ix _ _ _ _ _ _ _ ix_tup (pv 1) pe_int (fun _ _ => rfl))) (pv 4)) (@pa_cons _ _ _ _ _ (@pe_op _ _ _ _ _ _ _ _ op_add (@pe_ix _ _ _ _ _ _ _ ix_tup (pv 0) pe_int (fun _ _ => rfl)) (@pe_ix _ _ _ _ _ _ _ ix_tup (pv 1) pe_int (fun _ _ => rfl))) pa_nil (by rfl)) (by rfl)) (by rfl)) (by rfl))))))))), ?_⟩
  refine ⟨_, rfl, _, rfl, r, q, a, b, rfl, ha, hb, oka, okb, rm, fun d H1 s1 n_d e_d => ?_⟩
  have gg := s1
  have la := oka.len
  have lb := okb.len
  have ra := oka.room2
  have r0 := oka.room1
  have kl := kvOf_len (mrgP a.cs b.cs)
  have ml : (mrgP a.cs b.cs).length = (keysM a.cs b.cs).length := by unfold mrgP; rw [List.length_map]
  have km := keysM_len a.cs b.cs
  have ndm : ((mrgP a.cs b.cs).map (·.1)).Nodup := by rw [mrgP_keys]; exact keysM_nd oka.nd okb.nd
  obtain ⟨_, b1, rows1, e0, ea, eb1, pa1⟩ := DV.ty_inv (ha.mono s1)
  cases e0
  refine ⟨_, rfl, _, _, _, _, rfl, rfl, SqT.of ea, rfl, ?_⟩
  refine ⟨_, rfl, _, rfl, d, a.room, _, nsOf (mrgP a.cs b.cs), rfl, e_d, kvOf_ns _, by omega, by rw [nsOf_len]; omega, fun H6 s6 => ?_⟩
  have gg := gg.trans s6
  have e_d := s6 _ _ e_d
  have ct : cutM a.room (nsOf (mrgP a.cs b.cs)) = cutT a.room a.cs b.cs := by rw [mrgP_ns]; rfl
  rw [ct]
  have keys : (kvOf (mrgP a.cs b.cs)).map (·.1) = (keysM a.cs b.cs).map Sum.inr := by rw [kvOf_keys, mrgP_keys]
  have vm : ∀ z ∈ keysM a.cs b.cs, valV (kvOf (mrgP a.cs b.cs)) (Sum.inr z) = some (.int (sumM a.cs b.cs z)) := fun z hz => by
    obtain ⟨i, hi⟩ := List.mem_iff_getElem?.mp hz
    have e : (mrgP a.cs b.cs)[i]? = some (z, sumM a.cs b.cs z) := by unfold mrgP; rw [List.getElem?_map, hi]; rfl
    exact val_ps ndm e
  refine ⟨_, rfl, d, _, keysM a.cs b.cs, rfl, e_d, keys, by omega, ?_⟩
  intro x n_x
  generalize hz : upd _ x _ = H7
  have gz := laid_same hz n_x
  have e_x := laid_at hz
  clear hz
  have gg := gg.trans gz
  have e_d := gz _ _ e_d
  refine ⟨x, rfl, ⟨_, SqL.of e_x⟩, ?_⟩
  have sl : (srtS (keysM a.cs b.cs)).length = (keysM a.cs b.cs).length := (srtS_perm _).length_eq
  refine comp_list (xs := (srtS (keysM a.cs b.cs)).map V.str) (fun i ys H' => Same H7 H' ∧ PairsAt H' ys (kvOf ((((srtS (keysM a.cs b.cs)).take i).filter fun z => decide (cutT a.room a.cs b.cs < sumM a.cs b.cs z)).map fun z => (z, sumM a.cs b.cs z - cutT a.room a.cs b.cs)))) ⟨Same.refl _, .nil⟩ ?_ ?_ ?_
  · rintro i ys H' _ ⟨g, _⟩
    exact SqL.of (g _ _ e_x)
  · rintro i y ys H' C hx ⟨g, pa⟩ hC
    rw [List.getElem?_map] at hx
    obtain ⟨z, hz, rfl⟩ := Option.map_eq_some_iff.mp hx
    have zin : z ∈ keysM a.cs b.cs := (srtS_perm _).mem_iff.mp (List.mem_of_getElem? hz)
    have ed := g _ _ e_d
    have yl := pa.length
    rw [kvOf_len, List.length_map] at yl
    have yl2 := List.length_filter_le (fun z => decide (cutT a.room a.cs b.cs < sumM a.cs b.cs z)) ((srtS (keysM a.cs b.cs)).take i)
    rw [List.length_take] at yl2
    have tk := take_one hz
    refine ⟨small_lt (by omega), Wk.refl _, _, rfl, _, rfl, d, _, rfl, .inl ⟨_, Sum.inr z, .inl ed, rfl, (vm z zin).symm⟩, _, rfl, _, _, rfl, rfl, _, rfl, ?_⟩
    by_cases big : cutT a.room a.cs b.cs < sumM a.cs b.cs z
    · rw [decide_eq_true big]
      refine iteT ⟨_, rfl, _, rfl, _, rfl, d, _, rfl, .inl ⟨_, Sum.inr z, .inl ed, rfl, (vm z zin).symm⟩, _, rfl, _, _, rfl, rfl, leN rfl, fun p np => hC _ _ ⟨g.trans (same_laid np _), ?_⟩⟩
      have one : ([z].filter fun z => decide (cutT a.room a.cs b.cs < sumM a.cs b.cs z)) = [z] := by rw [List.filter_cons, if_pos (decide_eq_true big)]; rfl
      rw [tk, List.filter_append, one, List.map_append]
      unfold kvOf
      rw [List.map_append]
      exact (pa.mono (same_laid np _)).append (.cons upd_same .nil)
    · rw [decide_eq_false big]
      refine iteF (hC _ _ ⟨g, ?_⟩)
      have one : ([z].filter fun z => decide (cutT a.room a.cs b.cs < sumM a.cs b.cs z)) = [] := by rw [List.filter_cons, if_neg (by simpa using big)]; rfl
      rw [tk, List.filter_append, one, List.append_nil]
      exact pa
  rintro ys H8 ⟨g8, pa⟩
  have gg := gg.trans g8
  rw [List.length_map, List.take_length] at pa
  have k_pa : PairsAt H8 ys (kvOf (csM a.room a.cs b.cs)) := pa
  have yl := k_pa.length
  have cl := csM_len oka okb
  rw [kvOf_len] at yl
  refine ⟨small_le (by omega), ?_⟩
  intro l1 n_l1
  generalize hz : upd _ l1 _ = H9
  have gz := laid_same hz n_l1
  have e_l1 := laid_at hz
  clear hz
  have gg := gg.trans gz
  have k_pa := k_pa.mono gz
  have ha := ha.mono gg
  have hb := hb.mono gg
  obtain ⟨_, _, _, e0, ea, _, _⟩ := DV.ty_inv ha
  cases e0
  obtain ⟨_, _, _, e0, eb, _, _⟩ := DV.ty_inv hb
  cases e0
  refine ⟨_, rfl, _, rfl, l1, _, rfl, .inl ⟨SqL.of e_l1, ?_⟩⟩
  intro l2 n_l2
  generalize hz : upd _ l2 _ = H10
  have gz := laid_same hz n_l2
  have e_l2 := laid_at hz
  clear hz
  have gg := gg.trans gz
  have k_pa := k_pa.mono gz
  have ea := gz _ _ ea
  have eb := gz _ _ eb
  refine ⟨_, rfl, _, _, _, _, rfl, rfl, SqT.of ea, rfl, _, rfl, _, _, _, _, rfl, rfl, SqT.of eb, rfl, _, _, rfl, rfl, _, rfl, _, _, rfl, rfl, ?_⟩
  refine ⟨_, rfl, _, _, _, _, rfl, rfl, SqT.of ea, rfl, _, rfl, _, _, _, _, rfl, rfl, SqT.of eb, rfl, _, _, rfl, rfl, leN rfl, ?_⟩
  intro l3 n_l3
  generalize hz : upd _ l3 _ = H11
  have gz := laid_same hz n_l3
  have e_l3 := laid_at hz
  clear hz
  have gg := gg.trans gz
  have k_pa := k_pa.mono gz
  have e_l2 := gz _ _ e_l2
  exact hq l3 _ gg (Ty.dv (t := mergeT a b) e_l3 e_l2 k_pa)
end
end K13

namespace K13
open PySem L2
/-! ### tallies of streams and trees -/
def ThW (t : Th) : Prop := t.word ∈ words ∧ 1 ≤ t.many
def thT (room : Int) (t : Th) : Ty := ⟨room, [(t.word, t.many)], 0, t.many⟩
theorem thT_ok {room : Int} {t : Th} (h1 : 1 ≤ room) (h2 : room ≤ 20) (h : ThW t) : (thT room t).Ok :=
  ⟨h1, h2, List.nodup_cons.mpr ⟨(fun z => nomatch z), List.nodup_nil⟩, List.pairwise_singleton _ _, fun p hp => by rw [List.mem_singleton.mp hp]; exact h.1, fun p hp => by rw [List.mem_singleton.mp hp]; exact h.2, by show ((1 : Nat) : Int) ≤ room; omega, Int.le_refl _,
    by show (room + 1) * 0 ≤ t.many - (t.many + 0); omega, by show t.many - (t.many + 0) ≤ 2 * room * 0; omega⟩
def tallyS (room : Int) (ts : List Th) : Ty := ts.foldl (fun a t => mergeT a (thT room t)) (Ty.zero room)
theorem fold_ok {room : Int} (h1 : 1 ≤ room) (h2 : room ≤ 20) : ∀ (ts : List Th) (a : Ty), a.Ok → a.room = room → (∀ t ∈ ts, ThW t) → (ts.foldl (fun a t => mergeT a (thT room t)) a).Ok ∧ (ts.foldl (fun a t => mergeT a (thT room t)) a).room = room
  | [], a, ha, hr, _ => ⟨ha, hr⟩
  | t :: ts, a, ha, hr, h => fold_ok h1 h2 ts _ (mergeT_ok ha (thT_ok h1 h2 (h t (.head _))) hr) hr fun x hx => h x (.tail _ hx)
theorem tallyS_ok {room : Int} (h1 : 1 ≤ room) (h2 : room ≤ 20) {ts : List Th} (h : ∀ t ∈ ts, ThW t) : (tallyS room ts).Ok ∧ (tallyS room ts).room = room := fold_ok h1 h2 ts _ (zero_ok h1 h2) rfl h
def spThT : Sp := fun vs H Q _ => ∃ (r : Addr) (room : Int) (t : Th), vs = [.int room, .ref r] ∧ H r = some (.tup t.vs) ∧ ∀ (p : Addr) H', Same H H' → DV H' (.ref p) (thT room t).D → Q (.ref p) H'
def spTof : Sp := fun vs H Q _ => ∃ (v : V) (room : Int) (ts : List Th), vs = [.int room, v] ∧ 1 ≤ room ∧ room ≤ 20 ∧ DV H v (strD ts) ∧ (∀ t ∈ ts, ThW t) ∧ ∀ (p : Addr) H', Same H H' → DV H' (.ref p) (tallyS room ts).D → Q (.ref p) H'
section
variable {P : Program} {w : World} {K : PySem.W.Frag} {mg : Str → Option Value} {base : Heap} {f : Addr} {fd : FuncData}
theorem ok_thT (F : Fun K "thing_tally" "thing_tally" s_thing_tally f fd) : FnOk P w K mg base CX0 1 f fd ["room", "thing"] spThT := by
  refine F.ok sc_thing_tally (fun vs H Q E h => ?_) (fun cdv A outer s H vs Q E hr h => ?_)
  · obtain ⟨r, room, t, rfl, _⟩ := h
    rfl
  obtain ⟨r, room, t, rfl, e_r, hq⟩ := h
  refine ⟨_, (@pss_cons _ _ _ _ _ (ps_asg (pv 1) (pg_tup rfl (pgs_cons (pg_name (i := 2) sc_thing_tally.nd rfl (Or.inl rfl)) (pgs_cons (pg_name (i := 3) sc_thing_tally.nd rfl (Or.inl rfl)) (pgs_cons (pg_name (i := 4) sc_thing_tally.nd rfl (Or.inl rfl)) (pgs_cons (pg_name (i := 5) sc_thing_tally.nd rfl (Or.inl rfl)) pgs_nil))))))
  (@pss_one _ _ _ (@ps_ret _ _ _ _ (@pe_tup _ _ _ _ _ (@pa_cons _ _ _ _ _ (pv 0) (@pa_cons _ _ _ _ _ (@pe_tup _ _ _ _ _ (@pa_cons _ _ _ _ _ (@pe_tup _ _ _ _ _ (@pa_cons _ _ _ _ _ (pv 3) (@pa_cons _ _ _ _ _ (pv 5) pa_nil (by rfl)) (by rfl))) pa_nil (by rfl))) (@pa_cons _ _ _ _ _ pe_int (@pa_cons _ _ _ _ _ (pv 5) pa_nil (by rfl)) (by rfl)) (by rfl)) (by rfl)))))), ?_⟩
  have gg : Same H H := fun _ _ h => h
  refine ⟨_, rfl, r, _, rfl, SqT.of e_r, rfl, _, _, rfl, _, _, rfl, _, _, rfl, _, _, rfl, rfl, ?_⟩
  refine ⟨_, rfl, _, rfl, _, rfl, leN rfl, ?_⟩
  intro p1 n_p1
  generalize hz : upd _ p1 _ = H1
  have gz := laid_same hz n_p1
  have e_p1 := laid_at hz
  clear hz
  have gg := gg.trans gz
  refine ⟨leN rfl, ?_⟩
  intro p2 n_p2
  generalize hz : upd _ p2 _ = H2
  have gz := laid_same hz n_p2
  have e_p2 := laid_at hz
  clear hz
  have gg := gg.trans gz
  have e_p1 := gz _ _ e_p1
  refine ⟨_, rfl, leN rfl, ?_⟩
  intro p3 n_p3
  generalize hz : upd _ p3 _ = H3
  have gz := laid_same hz n_p3
  have e_p3 := laid_at hz
  clear hz
  have gg := gg.trans gz
  have e_p1 := gz _ _ e_p1
  have e_p2 := gz _ _ e_p2
  exact hq p3 _ gg (Ty.dv (t := thT room t) e_p3 e_p2 (.cons e_p1 .nil))
theorem ok_tof (h_empty_tally : Has P w K mg base "empty_tally" 1 ["room"] spEmpty) (h_merged_tally : Has P w K mg base "merged_tally" 3 ["one", "other"] spMer) (h_thing_tally : Has P w K mg base "thing_tally" 1 ["room", "thing"] spThT)
    (F : Fun K "tally_of" "tally_of" s_tally_of f fd) : FnOk P w K mg base CX0 4 f fd ["room", "stream"] spTof := by
  refine F.ok sc_tally_of (fun vs H Q E h => ?_) (fun cdv A outer s H vs Q E hr h => ?_)
  · obtain ⟨v, room, ts, rfl, _⟩ := h
    rfl
  obtain ⟨v, room, ts, rfl, r0, r1, dv, tw, hq⟩ := h
  refine ⟨_, (@pss_cons _ _ _ _ _ (@ps_set _ _ 2 _ _ _ _ sc_tally_of.nd rfl (Or.inl rfl) (pe_callH h_empty_tally hr (@pa_cons _ _ _ _ _ (pv 0) pa_nil (by rfl))) (by rfl) (by first | exact .inl rfl | exact .inr rfl))
  (@pss_cons _ _ _ _ _ (ps_for PassesOwn.never rfl (pi_list (pv 1)) (pg_name (i := 3) sc_tally_of.nd rfl (Or.inl rfl))
  (@pss_one _ _ _ (@ps_set _ _ 2 _ _ _ _ sc_tally_of.nd rfl (Or.inl rfl) (pe_callH h_merged_tally hr (@pa_cons _ _ _ _ _ (pv 2) (@pa_cons _ _ _ _ _ (pe_callH h_thing_tally hr (@pa_cons _ _ _ _ _ (pv 0) (@pa_cons _ _ _ _ _ (pv 3) pa_nil (by rfl)) (by rfl))) pa_nil (by rfl)) (by rfl))) (by rfl) (by first | exact .inl rfl | exact .inr rfl))))
  (@pss_one _ _ _ (@ps_ret _ _ _ _ (pv 2))))), ?_⟩
  obtain ⟨b, xs, rfl, eb, qb⟩ := DV.list_inv dv
  have xl := qb.length
  rw [List.length_map] at xl
  refine ⟨_, rfl, _, rfl, fun p0 H0 s0 d0 => ?_⟩
  refine ⟨_, rfl, b, rfl, ⟨_, SqL.of (s0 _ _ eb)⟩, ?_⟩
  refine for_list (xs := xs) (fun n σ H' => ∃ (o3 : Option V) (p : Addr), σ = [some (.int room), some (.ref b), some (.ref p), o3] ∧ Same H H' ∧ DV H' (.ref p) (tallyS room (ts.take n)).D) ⟨_, p0, rfl, s0, d0⟩ ?_ ?_ ?_
  · rintro n σ H' _ ⟨_, _, _, g, _⟩
    exact SqL.of (g _ _ eb)
  · rintro n x σ H' hx ⟨o3, p, rfl, g, dp⟩
    obtain ⟨t, c, ht, rfl, ec, hm⟩ := DVs.th_at qb hx
    have tk := take_one ht
    have twn : ∀ u ∈ ts.take n, ThW u := fun u hu => tw u (List.mem_of_mem_take hu)
    obtain ⟨oka, rma⟩ := tallyS_ok r0 r1 twn
    refine ⟨_, rfl, _, rfl, _, rfl, c, room, t, rfl, g _ _ ec, fun p1 H1 s1 d1 => ?_⟩
    refine ⟨p, p1, tallyS room (ts.take n), thT room t, rfl, dp.mono s1, d1, oka, thT_ok r0 r1 (tw t hm), rma, fun p2 H2 s2 d2 => ?_⟩
    refine ⟨_, p2, rfl, g.trans (s1.trans s2), ?_⟩
    have e : tallyS room (ts.take (n + 1)) = mergeT (tallyS room (ts.take n)) (thT room t) := by
      unfold tallyS
      rw [tk, List.foldl_append]
      rfl
    rw [e]
    exact d2
  · rintro σ H' ⟨o3, p, rfl, g, dp⟩
    rw [xl, List.take_length] at dp
    exact ⟨_, rfl, hq p _ g dp⟩
end
end K13

namespace K13
open PySem L2
def lamE (st : Stmt) : Expr := match defBody st with
  | [.Return (some (.Call _ (_ :: e :: _) _ _)) _] => e
  | _ => .Constant .none 0 ⟨0, 0, 0, 0⟩
def lamPos (e : Expr) : Pos := match e with
  | .Lambda _ _ _ p => p
  | _ => ⟨0, 0, 0, 0⟩
def lamSc (e : Expr) : Scope := match e with
  | .Lambda _ _ sc _ => sc
  | _ => { kind := .function, names := [], isGenerator := false, isCoroutine := false }
def lamBody (e : Expr) : Expr := match e with
  | .Lambda _ b _ _ => b
  | _ => e
def lamArgs (e : Expr) : Arguments := match e with
  | .Lambda a _ _ _ => a
  | _ => { posonlyargs := [], args := [], vararg := none, kwonlyargs := [], kw_defaults := [], kwarg := none, defaults := [] }
abbrev lamGT : Expr := lamE s_grown_tally
abbrev qGT : Str := ("grown_tally" : Str) ++ ".<locals>." ++ "<lambda>"
theorem scL : LamScope ["stream"] ["room"] (lamSc lamGT) := ⟨rfl, rfl, rfl, by decide +kernel, by decide +kernel, fun x h => by
    have : ∀ y ∈ (lamSc lamGT).names, y.2 = .free → y.1 = "room" := by decide +kernel
    have e : x = "room" := this (x, .free) (PySem.mem_of_lookup h) rfl
    rw [e]
    exact .head _, by decide +kernel, by decide +kernel⟩
mutual
theorem dv_hide {H : Hp} {a : Addr} (n1 : ∀ xs, H a ≠ some (.lst xs)) (n2 : ∀ xs, H a ≠ some (.tup xs)) : ∀ {v : V} {d : PyData}, DV H v d → DV (hide a H) v d
  | _, _, .non => .non
  | _, _, .bl b => .bl b
  | _, _, .int i => .int i
  | _, _, .str x => .str x
  | _, _, .lst e r => .lst (by rw [hide_ne (fun z => n1 _ (z ▸ e))]; exact e) (dvs_hide n1 n2 r)
  | _, _, .tup e r => .tup (by rw [hide_ne (fun z => n2 _ (z ▸ e))]; exact e) (dvs_hide n1 n2 r)
theorem dvs_hide {H : Hp} {a : Addr} (n1 : ∀ xs, H a ≠ some (.lst xs)) (n2 : ∀ xs, H a ≠ some (.tup xs)) : ∀ {vs : List V} {ds : List PyData}, DVs H vs ds → DVs (hide a H) vs ds
  | _, _, .nil => .nil
  | _, _, .cons h r => .cons (dv_hide n1 n2 h) (dvs_hide n1 n2 r)
end
theorem ty_hide {H : Hp} {a : Addr} {xs : List V} (e : H a = some (.lst xs)) {v : V} {t : Ty} (d : DV H v t.D) : DV (hide a H) v t.D := by
  have tp : ∀ {b : Addr} {ys : List V}, H b = some (.tup ys) → hide a H b = some (.tup ys) := fun {b ys} h => by
    rw [hide_ne (fun z => by rw [z, e] at h; cases h)]
    exact h
  have pr : ∀ {ys : List V} {kvs : List (Key × V)}, PairsAt H ys kvs → PairsAt (hide a H) ys kvs := fun {ys kvs} h => by
    induction h with
    | nil => exact .nil
    | cons h _ ih => exact .cons (tp h) ih
  obtain ⟨p, b, rows, rfl, e1, e2, pa⟩ := DV.ty_inv d
  exact Ty.dv (tp e1) (tp e2) (pr pa)
def grownT (room : Int) (t : Tr) : Ty := evT (tallyS room) mergeT t
def RepT (H : Hp) (v : V) (x : Ty) : Prop := ∃ p : Addr, v = .ref p ∧ DV H v x.D
def spGT (T : Addr) : Sp := fun vs H Q _ => ∃ (v : V) (room : Int) (t : Tr), vs = [.int room, v] ∧ 1 ≤ room ∧ room ≤ 20 ∧ DV H v t.D ∧ t.size ≤ 1000 ∧ (∀ s ∈ t.streams, ∀ x ∈ s, ThW x) ∧ LamAt T (lamPos lamGT) qGT H ∧
  ∀ (p : Addr) H', Same (hide T H) (hide T H') → LamAt T (lamPos lamGT) qGT H' → DV H' (.ref p) (grownT room t).D → Q (.ref p) H'
def spLamT (c : Addr) (room : Int) : Sp := fun vs H Q _ => ∃ (v : V) (ts : List Th), vs = [v] ∧ H c = some (crO qGT c) ∧ DV H v (strD ts) ∧ (∀ t ∈ ts, ThW t) ∧ ∀ (p : Addr) H', Same H H' → DV H' (.ref p) (tallyS room ts).D → Q (.ref p) H'
section
variable {P : Program} {w : World} {K : PySem.W.Frag} {mg : Str → Option Value} {base : Heap} {f : Addr} {fd : FuncData}
theorem ok_gt {c T f2 : Addr} {oc : Value} {od an : Option Addr} {osl : Array (Option Value)} {kV doc pm ct : Value} {fd2 : FuncData} (lk : K.lookup f = some ⟨oc, od, .func (PySem.W.fnOf "grown_tally" "grown_tally" (defArgs s_grown_tally) (defBody s_grown_tally) (defScope s_grown_tally) .none kV doc pm an (.ref c) ct), osl⟩) (hcd : PySem.W.codeIn K (.ref c) "grown_tally" = true)
    (C : PySem.W.CodeHd base c T) (hgP : mainGlobals ≠ T) (hB : base.BuiltinsAt mg T) (hb_grown : HasB P w K mg "grown" 6 ["tree", "of_stream", "of_two"] (spGrown P w K mg 5))
    (hT : ∀ base : Heap, K.In base → base.Ns mainGlobals mg → Has P w K mg base "tally_of" 4 ["room", "stream"] spTof) (hM : ∀ base : Heap, K.In base → base.Ns mainGlobals mg → Has P w K mg base "merged_tally" 3 ["one", "other"] spMer)
    (m2 : mg "merged_tally" = some (.ref f2)) (F2 : Fun K "merged_tally" "merged_tally" s_merged_tally f2 fd2) :
    FnOk P w K mg base CX0 7 f (PySem.W.fnOf "grown_tally" "grown_tally" (defArgs s_grown_tally) (defBody s_grown_tally) (defScope s_grown_tally) .none kV doc pm an (.ref c) ct) ["room", "tree"] (spGT T) := by
  refine fn_of (k := 6) lk hcd sc_grown_tally (fun vs H Q E h => ?_) (fun A outer s H vs Q E hr h => ?_)
  · obtain ⟨v, room, t, rfl, _⟩ := h
    rfl
  obtain ⟨v, room, t, rfl, r0, r1, dv, hsz, tw, lam, hq⟩ := h
  have g_mt : ∃ u, mg "merged_tally" = some u ∧ RelV (.ref f2) u := ⟨_, m2, rfl⟩
  have hf : ∀ x ∈ (lamSc lamGT).names, x.2 = .free → ∃ c', (PyProof.Rows.envOfC "grown_tally" (defScope s_grown_tally) s.heap.objs.size f (.ref c)).cells.lookup x.1 = some c' := fun x hx hk => by
    have : ∀ y ∈ (lamSc lamGT).names, y.2 = .free → (defScope s_grown_tally).names.lookup y.1 = some .cell := by decide +kernel
    exact cell_has (this x hx hk)
  refine ⟨_, pss_one (ps_ret (pe_callL hb_grown (fun _ => rfl) rfl rfl hr (@pa_cons _ _ _ _ _ (pv 1) (@pa_cons _ _ _ _ _ (pe_lam (c := c) (T := T) (sc := lamSc lamGT) rfl C hgP hB hf) (@pa_cons _ _ _ _ _ (pe_globE rfl g_mt) pa_nil (by rfl)) (by rfl)) (by rfl)))), ?_⟩
  refine ⟨_, rfl, lam, fun a c' pm2 ctv H1 g1 na nac eT ec ea => ?_⟩
  have tT : H T ≠ none := by
    rcases lam.tab with e | ⟨_, e, _⟩ <;> (rw [e]; exact fun z => nomatch z)
  have nT1 : ∀ xs, H T ≠ some (.lst xs) := by
    rcases lam.tab with e | ⟨_, e, _⟩ <;> (rw [e]; exact fun _ z => nomatch z)
  have nT2 : ∀ xs, H T ≠ some (.tup xs) := by
    rcases lam.tab with e | ⟨_, e, _⟩ <;> (rw [e]; exact fun _ z => nomatch z)
  have aT : a ≠ T := fun z => tT (z ▸ na)
  have dv1 : DV H1 v t.D := ((dv_hide nT1 nT2 dv).mono g1).mono hide_sub
  have dva : DV (hide a H1) v t.D := dv_hide (by rw [ea]; exact fun _ z => nomatch z) (by rw [ea]; exact fun _ z => nomatch z) dv1
  refine ⟨a, _, ea, fun B wid => ?_⟩
  have wfn := wid.fn
  have ec2 : hide a H1 c' = some (crO qGT c') := by rw [hide_ne (Ne.symm nac)]; exact ec
  have cls : ∀ x d, (closL (PyProof.Rows.envOfC "grown_tally" (defScope s_grown_tally) s.heap.objs.size f (.ref c)) (lamSc lamGT).names).lookup x = some d → (PyProof.Rows.envOfC "grown_tally" (defScope s_grown_tally) s.heap.objs.size f (.ref c)).cells.lookup x = some d := fun x d e => closL_mem _ [] hf (fun _ h => nomatch h) (x, d) (PySem.mem_of_lookup e)
  refine ⟨Ty, RepT, tallyS room, mergeT, fun x => x.Ok ∧ x.room = room, fun ts => ∀ x ∈ ts, ThW x, v, a, f2, t, rfl, dva, hsz, tw, ?_, ?_, fun ts h => tallyS_ok r0 r1 h, fun x y h1 h2 => ⟨mergeT_ok h1.1 h2.1 (h1.2.trans h2.2.symm), h1.2⟩, ?_, ?_, ?_⟩
  · refine ⟨_, ["stream"], spLamT c' room, lam_ok (k := 4) (us := [.int room]) (fr := ["room"]) wfn scL rfl ?_ (fun x y d e1 e2 => wid.inj x y d (cls x d e1) (cls y d e2)) (fun x d e => wid.cells x d (cls x d e)) (fun vs H Q E h => ?_) (fun vs H Q E h => ?_) (fun A outer s H vs Q E hr h => ?_), ?_, ⟨_, _, _, _, wfn⟩, ?_⟩
    · intro i x u h1 h2
      match i, h1, h2 with
      | 0, h1, h2 =>
      cases h1
      cases h2
      obtain ⟨c2, u2, e1, e2, rv⟩ := wid.cell 0 "room" (.int room) rfl rfl rfl
      obtain ⟨c3, hc3⟩ := closL_has (lamSc lamGT).names [] (env := PyProof.Rows.envOfC "grown_tally" (defScope s_grown_tally) s.heap.objs.size f (.ref c)) "room" (PySem.mem_of_lookup (scL.fre "room" (.head _)))
      obtain ⟨c4, hc4⟩ := lookup_of_mem hc3
      have e3 := cls _ _ hc4
      have e4 : c4 = c2 := Option.some.inj (e3.symm.trans e1)
      subst e4
      exact ⟨c4, u2, hc4, e2, rv⟩
    · obtain ⟨_, _, _, e, _⟩ := h
      exact e
    · obtain ⟨_, _, rfl, _⟩ := h
      rfl
    · obtain ⟨u, ts, rfl, e, d, ok, hq2⟩ := h
      have h_tally_of := hT B wid.kin wid.glb
      refine ⟨_, pe_callH h_tally_of hr (@pa_cons _ _ _ _ _ (pv 1) (@pa_cons _ _ _ _ _ (pv 0) pa_nil (by rfl)) (by rfl)), ?_⟩
      exact ⟨_, rfl, _, rfl, u, room, ts, rfl, r0, r1, d, ok, hq2⟩
    · exact .all fun us hl => match us, hl with | [_], _ => rfl
    · exact fun H u ts Q s d ok hq2 => ⟨u, ts, rfl, s _ _ ec2, d, ok, fun p H' s' d' => hq2 (.ref p) H' s' ⟨p, rfl, d'⟩⟩
  · obtain ⟨f', fd', FM, bM, kM, mM⟩ := (hM B wid.kin wid.glb).ex
    have e : f' = f2 := by
      rw [m2] at mM
      cases mM
      rfl
    subst e
    obtain ⟨oc2, od2, kV2, doc2, pm3, an2, cdv2, ct2, osl2, _, lk2, _⟩ := F2.ex
    refine ⟨fd', ["one", "other"], spMer, FM.mono (by decide), bM, ⟨_, _, _, _, wid.kin _ _ lk2⟩, ?_⟩
    rintro H u u' x y Q s ⟨p, rfl, d⟩ ⟨q, rfl, d2⟩ ix iy hq2
    exact ⟨p, q, x, y, rfl, d, d2, ix.1, iy.1, ix.2.trans iy.2.symm, fun p' H' s' d' => hq2 (.ref p') H' s' ⟨p', rfl, d'⟩⟩
  · rintro H H' g v x ⟨p, rfl, d⟩
    exact ⟨p, rfl, d.mono g⟩
  · rintro H b xs e v x ⟨p, rfl, d⟩
    exact ⟨p, rfl, ty_hide e d⟩
  · rintro p H' g ⟨p, rfl, d⟩
    refine hq p H' ?_ ?_ d
    · intro b u e
      obtain ⟨b1, b2⟩ := hide_some e
      have := g1 b u e
      obtain ⟨_, e3⟩ := hide_some this
      rw [hide_ne b1]
      exact g b u (by rw [hide_ne (ne_of_none b2 na)]; exact e3)
    · exact ⟨.inr ⟨c', g _ _ (by rw [hide_ne (Ne.symm aT)]; exact eT), g _ _ ec2⟩⟩
end
end K13

namespace K13
open PySem L2
def spRoom : Sp := fun vs H Q _ => ∃ (a : Addr), vs = [.ref a] ∧ PenAt H a ∧ ∀ (r : Int) (H' : Hp), 1 ≤ r → r ≤ 20 → PenAt H' a → Grw a H H' → Q (.int r) H'
section
variable {P : Program} {w : World} {K : PySem.W.Frag} {mg : Str → Option Value} {base : Heap} {f : Addr} {fd : FuncData}
theorem ok_room (h_l_draw : Has P w K mg base "_law_draw" 1 ["_law_pen_here", "_law_size"] spDraw) (F : Fun K "_law_room" "_law_room" s_l_room f fd) : FnOk P w K mg base CX0 2 f fd ["_law_pen_here"] spRoom := by
  refine F.ok sc_l_room (fun vs H Q E h => ?_) (fun cdv A outer s H vs Q E hr h => ?_)
  · obtain ⟨a, rfl, _⟩ := h
    rfl
  obtain ⟨a, rfl, hp, hq⟩ := h
  refine ⟨_, (@pss_one _ _ _ (@ps_ret _ _ _ _ (@pe_ix _ _ _ _ _ _ _ ix_list (@pe_lst _ _ _ _ (@pa_cons _ _ _ _ _ pe_int (@pa_cons _ _ _ _ _ pe_int (@pa_cons _ _ _ _ _ pe_int (@pa_cons _ _ _ _ _ (@pe_op _ _ _ _ _ _ _ _ op_add pe_int (pe_callH h_l_draw hr (@pa_cons _ _ _ _ _ (pv 0) (@pa_cons _ _ _ _ _ pe_int pa_nil (by rfl)) (by rfl)))) (@pa_cons _ _ _ _ _ pe_int (@pa_cons _ _ _ _ _ pe_int pa_nil (by rfl)) (by rfl)) (by rfl)) (by rfl)) (by rfl)) (by rfl))) (pe_callH h_l_draw hr (@pa_cons _ _ _ _ _ (pv 0) (@pa_cons _ _ _ _ _ pe_int pa_nil (by rfl)) (by rfl))) (fun _ _ => rfl)))), ?_⟩
  have gg : Grw a H H := Same.refl _
  refine ⟨_, rfl, a, 20, rfl, hp, posI rfl, ltI rfl, fun d H1 x0 x1 hp g1 => ⟨_, _, rfl, rfl, leN rfl, ?_⟩⟩
  have gg := gg.trans g1
  intro p n_p
  generalize hz : upd _ p _ = H2
  obtain ⟨hp, gz, ne_p, e_p⟩ := laid_pen hz n_p hp
  clear hz
  have gg := gg.trans gz
  refine ⟨_, rfl, a, 6, rfl, hp, posI rfl, ltI rfl, fun d2 H3 y0 y1 hp g3 => ?_⟩
  have gg := gg.trans g3
  have e_p := g3 _ _ e_p
  obtain ⟨v, hv, mv⟩ := pick e_p y0 y1
  refine ⟨p, _, _, v, rfl, rfl, hSqL e_p, hv, ?_⟩
  obtain ⟨r, rfl, r0, r1⟩ : ∃ r : Int, v = .int r ∧ 1 ≤ r ∧ r ≤ 20 := by
    simp only [List.mem_cons, List.not_mem_nil, or_false] at mv
    rcases mv with rfl | rfl | rfl | rfl | rfl | rfl
    · exact ⟨_, rfl, by decide, by decide⟩
    · exact ⟨_, rfl, by decide, by decide⟩
    · exact ⟨_, rfl, by decide, by decide⟩
    · exact ⟨_, rfl, by omega, by omega⟩
    · exact ⟨_, rfl, by decide, by decide⟩
    · exact ⟨_, rfl, by decide, by decide⟩
  exact hq r _ r0 r1 hp gg
end
end K13

namespace K13
open PySem L2
def spTree (m : Nat) : Sp := fun vs H Q _ => ∃ (a : Addr) (n k l p : Int), vs = [.ref a, .int n, .int k, .int l, .int p] ∧ PenAt H a ∧ 0 < n ∧ n < 1073741824 ∧ 0 ≤ k ∧ k < 30 ∧ 0 ≤ l ∧ l < 1000 ∧ 1 ≤ p ∧ p ≤ m ∧ m ≤ 1000 ∧
  ∀ (v : V) (t : Tr) (H' : Hp), t.Ok → (t.size : Int) ≤ 2 * p - 1 → (t.ht : Int) < p → (t.all.length : Int) ≤ l * p → DV (hide a H') v t.D → PenAt H' a → Grw a H H' → Q v H'
def spLSO (m : Nat) : Sp := fun vs H Q _ => ∃ (v : V) (t : Tr), vs = [v] ∧ DV H v t.D ∧ t.ht < m ∧ t.all.length ≤ 100000 ∧ ∀ (r : Addr) (H' : Hp), Same H H' → H r = none → DV H' (.ref r) (strD t.all) → Q (.ref r) H'
section
variable {P : Program} {w : World} {K : PySem.W.Frag} {mg : Str → Option Value} {base : Heap} {f : Addr} {fd : FuncData}
theorem ok_tree1 {m : Nat} (h_l_draw : Has P w K mg base "_law_draw" 1 ["_law_pen_here", "_law_size"] spDraw) (h_l_stream : Has P w K mg base "_law_stream" 4 ["_law_pen_here", "_law_marks", "_law_deep", "_law_most"] spStream)
    (h_l_tree : Has P w K mg base "_law_tree" (4 + m) ["_law_pen_here", "_law_marks", "_law_deep", "_law_most", "_law_parts"] (spTree m))
    (F : Fun K "_law_tree" "_law_tree" s_l_tree f fd) : FnOk P w K mg base CX0 (4 + m + 1) f fd ["_law_pen_here", "_law_marks", "_law_deep", "_law_most", "_law_parts"] (spTree (m + 1)) := by
  refine F.ok sc_l_tree (fun vs H Q E h => ?_) (fun cdv A outer s H vs Q E hr h => ?_)
  · obtain ⟨a, n, k, l, p, rfl, _⟩ := h
    rfl
  obtain ⟨a, n, k, l, p, rfl, hp, n0, n1, k0, k1, l0, l1, p0, p1, pm, hq⟩ := h
  refine ⟨_, (@pss_cons _ _ _ _ _ (@ps_if _ _ _ _ _ _ _ _ (PW.pt (@pw_or _ _ _ _ _ _ _ (@pt_cmpR _ _ _ _ _ _ _ _ op_lt (pv 4) pe_int (nomark _)) (@pw_or1 _ _ _ _ (@pt_cmpR _ _ _ _ _ _ _ _ op_eq (pe_callH h_l_draw hr (@pa_cons _ _ _ _ _ (pv 0) (@pa_cons _ _ _ _ _ pe_int pa_nil (by rfl)) (by rfl))) pe_int (nomark _))))) (@pss_one _ _ _ (@ps_ret _ _ _ _ (pe_callH h_l_stream hr (@pa_cons _ _ _ _ _ (pv 0) (@pa_cons _ _ _ _ _ (pv 1) (@pa_cons _ _ _ _ _ (pv 2) (@pa_cons _ _ _ _ _ (pv 3) pa_nil (by rfl)) (by rfl)) (by rfl)) (by rfl))))) pss_nil)
  (@pss_cons _ _ _ _ _ (@ps_set _ _ 5 _ _ _ _ sc_l_tree.nd rfl (Or.inl rfl) (@pe_op _ _ _ _ _ _ _ _ op_add pe_int (pe_callH h_l_draw hr (@pa_cons _ _ _ _ _ (pv 0) (@pa_cons _ _ _ _ _ (@pe_op _ _ _ _ _ _ _ _ op_sub (pv 4) pe_int) pa_nil (by rfl)) (by rfl)))) (by rfl) (by first | exact .inl rfl | exact .inr rfl))
  (@pss_cons _ _ _ _ _ (@ps_set _ _ 6 _ _ _ _ sc_l_tree.nd rfl (Or.inl rfl) (pe_callH h_l_tree hr (@pa_cons _ _ _ _ _ (pv 0) (@pa_cons _ _ _ _ _ (pv 1) (@pa_cons _ _ _ _ _ (pv 2) (@pa_cons _ _ _ _ _ (pv 3) (@pa_cons _ _ _ _ _ (pv 5) pa_nil (by rfl)) (by rfl)) (by rfl)) (by rfl)) (by rfl))) (by rfl) (by first | exact .inl rfl | exact .inr rfl))
  (@pss_one _ _ _ (@ps_ret _ _ _ _ (@pe_tup _ _ _ _ _ (@pa_cons _ _ _ _ _ pe_str (@pa_cons _ _ _ _ _ (pv 6) (@pa_cons _ _ _ _ _ (pe_callH h_l_tree hr (@pa_cons _ _ _ _ _ (pv 0) (@pa_cons _ _ _ _ _ (pv 1) (@pa_cons _ _ _ _ _ (pv 2) (@pa_cons _ _ _ _ _ (pv 3) (@pa_cons _ _ _ _ _ (@pe_op _ _ _ _ _ _ _ _ op_sub (pv 4) (pv 5)) pa_nil (by rfl)) (by rfl)) (by rfl)) (by rfl)) (by rfl))) pa_nil (by rfl)) (by rfl)) (by rfl)))))))), ?_⟩
  have leaf : ∀ (r : Addr) (ts : List Th) (H' : Hp), (∀ t ∈ ts, t.Ok) → (ts.length : Int) ≤ l → DV (hide a H') (.ref r) (.list (ts.map Th.D)) → PenAt H' a → Grw a H H' → Q (.ref r) H' := fun r ts H' hok hlen dv hp' g' => by
    refine hq (.ref r) (.leaf ts) H' hok ?_ ?_ ?_ dv hp' g'
    · show ((1 : Nat) : Int) ≤ _
      omega
    · show ((0 : Nat) : Int) < _
      omega
    · show (ts.length : Int) ≤ l * p
      have q : l * 1 ≤ l * p := Int.mul_le_mul_of_nonneg_left p0 l0
      omega
  refine ⟨_, rfl, _, _, rfl, rfl, _, rfl, ?_⟩
  refine ite2 (fun c => iteT ?_) (fun c => ?_)
  · exact ⟨_, rfl, _, rfl, _, rfl, _, rfl, a, n, k, l, rfl, hp, n0, n1, k0, k1, l0, l1, leaf⟩
  · have c := of_decide_eq_false (Bool.eq_false_iff.mpr c)
    refine ⟨_, rfl, a, 5, rfl, hp, posI rfl, ltI rfl, fun d H1 _ _ hp1 g1 => ⟨rfl, _, rfl, ?_⟩⟩
    refine ite2 (fun c => ?_) (fun c => ?_)
    · exact ⟨_, rfl, _, rfl, _, rfl, _, rfl, a, n, k, l, rfl, hp1, n0, n1, k0, k1, l0, l1, fun r ts H' hok hlen dv hp' g' => leaf r ts H' hok hlen dv hp' (g1.trans g')⟩
    · refine ⟨_, rfl, _, rfl, _, _, rfl, rfl, a, p - 1, rfl, hp1, by omega, by omega, fun d2 H2 x0 x1 hp2 g2 => ⟨_, _, rfl, rfl, ?_⟩⟩
      refine ⟨_, rfl, _, rfl, _, rfl, _, rfl, _, rfl, a, n, k, l, _, rfl, hp2, n0, n1, k0, k1, l0, l1, by omega, by omega, by omega, fun v1 t1 H3 ok1 sz1 ht1 al1 dv1 hp3 g3 => ?_⟩
      refine ⟨_, rfl, _, rfl, _, rfl, _, rfl, _, rfl, _, rfl, _, rfl, _, _, rfl, rfl, a, n, k, l, _, rfl, hp3, n0, n1, k0, k1, l0, l1, by omega, by omega, by omega, fun v2 t2 H4 ok2 sz2 ht2 al2 dv2 hp4 g4 => ⟨leN rfl, fun r hn => ?_⟩⟩
      refine hq (.ref r) (.node t1 t2) _ ⟨ok1, ok2⟩ ?_ ?_ ?_ ?_ (hp4.laid hn) (g1.trans (g2.trans (g3.trans (g4.trans (grw_laid hn)))))
      · show ((t1.size + t2.size + 1 : Nat) : Int) ≤ _
        omega
      · show ((max t1.ht t2.ht + 1 : Nat) : Int) < _
        omega
      · show ((t1.all ++ t2.all).length : Int) ≤ _
        have q : l * (1 + d2) + l * (p - (1 + d2)) = l * p := by
          rw [← Int.mul_add]
          congr 1
          omega
        rw [List.length_append]
        omega
      · have e : hide a (upd H4 r (.tup [.str "merged", v1, v2])) r = some (.tup [.str "merged", v1, v2]) := by rw [hide_ne (hp4.ne hn)]; exact upd_same
        exact .tup e (.cons (.str _) (.cons (dv1.mono (g4.trans (grw_laid hn))) (.cons (dv2.mono (grw_laid hn)) .nil)))
theorem ok_tree (h_l_draw : Has P w K mg base "_law_draw" 1 ["_law_pen_here", "_law_size"] spDraw) (h_l_stream : Has P w K mg base "_law_stream" 4 ["_law_pen_here", "_law_marks", "_law_deep", "_law_most"] spStream)
    (F : Fun K "_law_tree" "_law_tree" s_l_tree f fd) (b : Binds K fd ["_law_pen_here", "_law_marks", "_law_deep", "_law_most", "_law_parts"] []) (hm : mg "_law_tree" = some (.ref f)) :
    ∀ m : Nat, Has P w K mg base "_law_tree" (4 + m) ["_law_pen_here", "_law_marks", "_law_deep", "_law_most", "_law_parts"] (spTree m)
  | 0 => Has.of (no_call fun vs H Q E h => by
      obtain ⟨a, n, k, l, p, _, _, _, _, _, _, _, _, h1, h2, _⟩ := h
      omega) b F.kp hm
  | m + 1 => Has.of (ok_tree1 h_l_draw h_l_stream (ok_tree h_l_draw h_l_stream F b hm m) F) b F.kp hm
theorem ok_lso1 {m : Nat} (h_l_stream_of : Has P w K mg base "_law_stream_of" m ["_law_tree_here"] (spLSO m)) (z_isinstance : mg "isinstance" = none) (z_list : mg "list" = none)
    (F : Fun K "_law_stream_of" "_law_stream_of" s_l_stream_of f fd) : FnOk P w K mg base CX0 (m + 1) f fd ["_law_tree_here"] (spLSO (m + 1)) := by
  refine F.ok sc_l_stream_of (fun vs H Q E h => ?_) (fun cdv A outer s H vs Q E hr h => ?_)
  · obtain ⟨v, t, rfl, _⟩ := h
    rfl
  obtain ⟨v, t, rfl, dv, ht, hl, hq⟩ := h
  refine ⟨_, (@pss_cons _ _ _ _ _ (@ps_if _ _ _ _ _ _ _ _ (pt_val (pe_callB call_is rfl z_isinstance PyProof.Rows.boot_isinstance (@pa_cons _ _ _ _ _ (pv 0) (@pa_cons _ _ _ _ _ (pe_bltn (v := .ty "list") rfl z_list PyProof.Rows.boot_list rfl) pa_nil (by rfl)) (by rfl)))) (@pss_one _ _ _ (@ps_ret _ _ _ _ (pe_callTy call_list_of rfl z_list PyProof.Rows.boot_list (@pa_cons _ _ _ _ _ (pv 0) pa_nil (by rfl))))) pss_nil)
  (@pss_one _ _ _ (@ps_ret _ _ _ _ (@pe_op _ _ _ _ _ _ _ _ op_cat (pe_callH h_l_stream_of hr (@pa_cons _ _ _ _ _ (@pe_ix _ _ _ _ _ _ _ ix_tup (pv 0) pe_int (fun _ _ => rfl)) pa_nil (by rfl))) (pe_callH h_l_stream_of hr (@pa_cons _ _ _ _ _ (@pe_ix _ _ _ _ _ _ _ ix_tup (pv 0) pe_int (fun _ _ => rfl)) pa_nil (by rfl))))))), ?_⟩
  cases t with
  | leaf ts =>
    obtain ⟨a, xs, rfl, e, q⟩ := DV.list_inv dv
    refine ⟨_, rfl, _, _, "list", _, rfl, TyOf.lst e, kit_ll, _, rfl, iteT ?_⟩
    refine ⟨_, rfl, a, xs, rfl, .inl (SqL.of e), fun r hn => ?_⟩
    exact hq r _ (same_laid hn _) hn (.lst upd_same (q.mono (same_laid hn _)))
  | node l r =>
    obtain ⟨a, mm, x, y, rfl, e, hx, hy⟩ := DV.node_inv dv
    have ht : max l.ht r.ht + 1 < m + 1 := ht
    have hl : (l.all ++ r.all).length ≤ 100000 := hl
    rw [List.length_append] at hl
    refine ⟨_, rfl, _, _, "list", _, rfl, TyOf.tup e, kit_tl, _, rfl, iteF ?_⟩
    refine ⟨_, rfl, a, _, 1, _, rfl, rfl, SqT.of e, at3_1 _ _ _, x, l, rfl, hx, by omega, by omega, fun r1 H1 g1 _ dv1 => ?_⟩
    refine ⟨_, rfl, a, _, 2, _, rfl, rfl, SqT.of (g1 _ _ e), at3_2 _ _ _, y, r, rfl, hy.mono g1, by omega, by omega, fun r2 H2 g2 _ dv2 => ?_⟩
    obtain ⟨a1, xs1, e1, f1, q1⟩ := DV.list_inv dv1
    obtain ⟨a2, xs2, e2, f2, q2⟩ := DV.list_inv dv2
    cases e1
    cases e2
    have l1 := q1.length
    have l2 := q2.length
    rw [List.length_map] at l1 l2
    refine ⟨r1, r2, xs1, xs2, rfl, rfl, g2 _ _ f1, f2, small_le (by omega), fun p hn => ?_⟩
    refine hq p _ (g1.trans (g2.trans (same_laid hn _))) (g1.free (g2.free hn)) (.lst upd_same ?_)
    show DVs _ (xs1 ++ xs2) ((l.all ++ r.all).map Th.D)
    rw [List.map_append]
    exact (q1.mono (g2.trans (same_laid hn _))).append (q2.mono (same_laid hn _))
theorem ok_lso (z_isinstance : mg "isinstance" = none) (z_list : mg "list" = none) (F : Fun K "_law_stream_of" "_law_stream_of" s_l_stream_of f fd) (b : Binds K fd ["_law_tree_here"] []) (hm : mg "_law_stream_of" = some (.ref f)) :
    ∀ m : Nat, Has P w K mg base "_law_stream_of" m ["_law_tree_here"] (spLSO m)
  | 0 => Has.of (no_call fun vs H Q E h => by
      obtain ⟨v, t, _, _, h1, _⟩ := h
      omega) b F.kp hm
  | m + 1 => Has.of (ok_lso1 (ok_lso z_isinstance z_list F b hm m) z_isinstance z_list F) b F.kp hm
end
end K13

namespace K13
open PySem L2
abbrev bmV : List Value := [.type "ValueError", .type "Exception", .type "BaseException", .type "object"]
/-- numbers of usual size -/
structure Sized (t : Ty) (top bot : Int) : Prop where
  nd : (t.cs.map (·.1)).Nodup
  len : t.cs.length ≤ 50
  cs : ∀ p ∈ t.cs, 1 ≤ p.2 ∧ p.2 ≤ 1000000000000000000000000000000
  lt : 0 ≤ t.lt ∧ t.lt ≤ 1000000000000000000000000000000
  tot : 0 ≤ t.total ∧ t.total ≤ 1000000000000000000000000000000
  top : -1000000000000000000000000000000000000000000000000000000000000 < top ∧ top < 1000000000000000000000000000000000000000000000000000000000000
  bot : -1000000000000000000000000000000000000000000000000000000000000 < bot ∧ bot < 1000000000000000000000000000000000000000000000000000000000000
def isSure (t : Ty) (top bot : Int) (p : Str × Int) : Bool := decide (top * t.total < p.2 * bot)
def isOpen (t : Ty) (top bot : Int) (p : Str × Int) : Bool := decide (p.2 * bot ≤ top * t.total) && decide (top * t.total < (p.2 + t.lt) * bot)
def sure (t : Ty) (top bot : Int) : List Str := (t.cs.filter (isSure t top bot)).map (·.1)
def opens (t : Ty) (top bot : Int) : List Str := (t.cs.filter (isOpen t top bot)).map (·.1)
def spFrq : Sp := fun vs H Q _ => ∃ (r : Addr) (t : Ty) (top bot : Int), vs = [.ref r, .int top, .int bot] ∧ DV H (.ref r) t.D ∧ Sized t top bot ∧ 0 ≤ top ∧ top < bot ∧ t.lt * bot ≤ top * t.total ∧
  ∀ (p l1 l2 : Addr) H', Same H H' → H l1 = none → H l2 = none → l1 ≠ l2 → H' p = some (.tup [.ref l1, .ref l2]) → H' l1 = some (.lst ((sure t top bot).map V.str)) → H' l2 = some (.lst ((opens t top bot).map V.str)) → Q (.ref p) H'
def spNos (C : Addr) : Sp := fun vs H _ E => ∃ (r : Addr) (t : Ty) (top bot : Int), vs = [.ref r, .int top, .int bot] ∧ DV H (.ref r) t.D ∧ (top < 0 ∨ bot ≤ top) ∧ E (.ref C) none H
def spCoa (C : Addr) : Sp := fun vs H _ E => ∃ (r : Addr) (t : Ty) (top bot : Int), vs = [.ref r, .int top, .int bot] ∧ DV H (.ref r) t.D ∧ Sized t top bot ∧ 0 ≤ top ∧ top < bot ∧ top * t.total < t.lt * bot ∧ E (.ref C) none H
theorem sz {t : Ty} {top bot : Int} (h : Sized t top bot) : CMulB top t.total ∧ CMulB t.lt bot ∧ ∀ p ∈ t.cs, CMulB p.2 bot ∧ CMulB (p.2 + t.lt) bot := by
  have e : big = 1000000000000000000000000000000000000000000000000000000000000000000000000000000 := rfl
  obtain ⟨_, _, cs, ⟨l0, l1⟩, ⟨t0, t1⟩, ⟨p0, p1⟩, ⟨b0, b1⟩⟩ := h
  unfold CMulB
  rw [e]
  refine ⟨⟨⟨by omega, by omega⟩, by omega, by omega⟩, ⟨⟨by omega, by omega⟩, by omega, by omega⟩, fun p hp => ?_⟩
  have := cs p hp
  exact ⟨⟨⟨by omega, by omega⟩, by omega, by omega⟩, ⟨by omega, by omega⟩, by omega, by omega⟩
section
variable {P : Program} {w : World} {K : PySem.W.Frag} {mg : Str → Option Value} {base : Heap} {f : Addr} {fd : FuncData} {C : Addr}
theorem ok_frq (F : Fun K "frequent" "frequent" s_frequent f fd) : FnOk P w K mg base CX0 1 f fd ["tally", "top", "bottom"] spFrq := by
  refine F.ok sc_frequent (fun vs H Q E h => ?_) (fun cdv A outer s H vs Q E hr h => ?_)
  · obtain ⟨r, t, top, bot, rfl, _⟩ := h
    rfl
  obtain ⟨r, t, top, bot, rfl, hd, si, t0, t1, le, hq⟩ := h
  refine ⟨_, (@pss_cons _ _ _ _ _ (ps_asg (pv 0) (pg_tup rfl (pgs_cons (pg_name (i := 3) sc_frequent.nd rfl (Or.inl rfl)) (pgs_cons (pg_name (i := 4) sc_frequent.nd rfl (Or.inl rfl)) (pgs_cons (pg_name (i := 5) sc_frequent.nd rfl (Or.inr rfl)) (pgs_cons (pg_name (i := 6) sc_frequent.nd rfl (Or.inl rfl)) pgs_nil))))))
  (@pss_cons _ _ _ _ _ (@ps_if _ _ _ _ _ _ _ _ (PW.pt (@pw_or _ _ _ _ _ _ _ (@pt_cmpR _ _ _ _ _ _ _ _ op_lt (pv 1) pe_int (nomark _)) (@pw_or1 _ _ _ _ (@pt_cmpR _ _ _ _ _ _ _ _ op_ge (pv 1) (pv 2) (nomark _))))) (@pss_one _ _ _ ps_never) pss_nil)
  (@pss_cons _ _ _ _ _ (@ps_set _ _ 7 _ _ _ _ sc_frequent.nd rfl (Or.inr rfl) (@pe_op _ _ _ _ _ _ _ _ op_mulB (pv 1) (pv 6)) (by rfl) (by first | exact .inl rfl | exact .inr rfl))
  (@pss_cons _ _ _ _ _ (@ps_if _ _ _ _ _ _ _ _ (@pt_cmpR _ _ _ _ _ _ _ _ op_gt (@pe_op _ _ _ _ _ _ _ _ op_mulB (pv 5) (pv 2)) (pv 7) (nomark _)) (@pss_one _ _ _ ps_never) pss_nil)
  (@pss_cons _ _ _ _ _ (ps_setC (i := 8) sc_frequent.nd rfl rfl (own := ["mark", "count"]) (CompOk.of rfl rfl (by rfl) (by rfl) (by rfl)) (pi_tup (pv 4))
    (fun _ _ _ _ _ => (pg_tupK K 2 rfl rfl (pgs_cons (pg_name (i := 0) nd_frequent_18_11 rfl (Or.inl rfl) (Or.inr rfl)) (pgs_cons (pg_name (i := 1) nd_frequent_18_11 rfl (Or.inl rfl) (Or.inr rfl)) pgs_nil)))) (fun _ _ _ _ _ => (pts_one (@pt_cmpR _ _ _ _ _ _ _ _ op_gt (@pe_op _ _ _ _ _ _ _ _ op_mulB (pv 1) (pv 4)) (pv 9) (nomark _))))
    (fun _ _ _ _ _ => (pv 0)))
  (@pss_cons _ _ _ _ _ (ps_setC (i := 9) sc_frequent.nd rfl rfl (own := ["mark", "count"]) (CompOk.of rfl rfl (by rfl) (by rfl) (by rfl)) (pi_tup (pv 4))
    (fun _ _ _ _ _ => (pg_tupK K 2 rfl rfl (pgs_cons (pg_name (i := 0) nd_frequent_19_14 rfl (Or.inl rfl) (Or.inr rfl)) (pgs_cons (pg_name (i := 1) nd_frequent_19_14 rfl (Or.inl rfl) (Or.inr rfl)) pgs_nil)))) (fun _ _ _ _ _ => (pts_one (PW.pt (@pw_and _ _ _ _ _ _ _ (@pt_cmpR _ _ _ _ _ _ _ _ op_le (@pe_op _ _ _ _ _ _ _ _ op_mulB (pv 1) (pv 4)) (pv 9) (nomark _)) (@pw_and1 _ _ _ _ (@pt_cmpR _ _ _ _ _ _ _ _ op_gt (@pe_op _ _ _ _ _ _ _ _ op_mulB (@pe_op _ _ _ _ _ _ _ _ op_add (pv 1) (pv 7)) (pv 4)) (pv 9) (nomark _)))))))
    (fun _ _ _ _ _ => (pv 0)))
  (@pss_one _ _ _ (@ps_ret _ _ _ _ (@pe_tup _ _ _ _ _ (@pa_cons _ _ _ _ _ (pv 8) (@pa_cons _ _ _ _ _ (pv 9) pa_nil (by rfl)) (by rfl))))))))))), ?_⟩
  obtain ⟨m1, m2, m3⟩ := sz si
  obtain ⟨_, b, rows, e0, ea, eb, pa⟩ := DV.ty_inv hd
  cases e0
  have gg : Same H H := fun _ _ h => h
  refine ⟨_, rfl, r, _, rfl, SqT.of ea, rfl, _, _, rfl, _, _, rfl, _, _, rfl, _, _, rfl, rfl, ?_⟩
  refine ⟨_, rfl, _, _, rfl, rfl, _, rfl, ?_⟩
  rw [decide_eq_false (by omega)]
  refine iteF ⟨_, rfl, _, rfl, _, _, rfl, rfl, _, rfl, ?_⟩
  rw [decide_eq_false (by omega)]
  refine iteF ?_
  refine ⟨_, rfl, _, rfl, _, _, rfl, rfl, m1, ?_⟩
  refine ⟨_, rfl, _, rfl, _, _, rfl, rfl, m2, _, rfl, _, _, rfl, rfl, _, rfl, ?_⟩
  rw [decide_eq_false (by omega)]
  refine iteF ?_
  have ln := si.len
  refine ⟨_, rfl, b, rfl, ⟨_, SqT.of eb⟩, comp_pairs (isSure t top bot) (fun p => .str p.1) eb pa (by omega) (fun p c ys C hp ec y n => ?_) ?_⟩
  · refine ⟨c, _, rfl, SqT.of ec, rfl, _, _, rfl, _, _, rfl, rfl, Wk.refl _, _, rfl, _, rfl, _, _, rfl, rfl, (m3 p hp).1, _, rfl, _, _, rfl, rfl, _, rfl, ?_⟩
    exact ite2 (fun hc => ⟨_, rfl, y hc⟩) fun hc => n (Bool.eq_false_iff.mpr hc)
  intro q1 n_q1
  generalize hz : upd _ q1 _ = H1
  have gz := laid_same hz n_q1
  have e_q1 := laid_at hz
  clear hz
  have gg := gg.trans gz
  have g1 := gz
  have e1 := e_q1
  have eb := gz _ _ eb
  have pa := pa.mono gz
  refine ⟨_, rfl, b, rfl, ⟨_, SqT.of eb⟩, comp_pairs (isOpen t top bot) (fun p => .str p.1) eb pa (by omega) (fun p c ys C hp ec y n => ?_) ?_⟩
  · refine ⟨c, _, rfl, SqT.of ec, rfl, _, _, rfl, _, _, rfl, rfl, Wk.refl _, _, rfl, _, rfl, _, _, rfl, rfl, (m3 p hp).1, _, rfl, _, _, rfl, rfl, _, rfl, ?_⟩
    refine ite2 (fun hc => ?_) fun hc => ?_
    · refine ⟨_, rfl, _, rfl, _, _, rfl, rfl, _, rfl, _, _, rfl, rfl, (m3 p hp).2, _, rfl, _, _, rfl, rfl, _, rfl, ?_⟩
      exact ite2 (fun hd => ⟨_, rfl, y (by show (_ && _) = true; rw [hc, hd]; rfl)⟩) fun hd => n (by show (_ && _) = false; rw [Bool.eq_false_iff.mpr hd, Bool.and_false])
    · exact iteF (n (by show (_ && _) = false; rw [Bool.eq_false_iff.mpr hc, Bool.false_and]))
  intro q2 n_q2
  generalize hz : upd _ q2 _ = H2
  have gz := laid_same hz n_q2
  have e_q2 := laid_at hz
  clear hz
  have gg := gg.trans gz
  have e_q1 := gz _ _ e_q1
  refine ⟨_, rfl, _, rfl, leN rfl, ?_⟩
  intro p n_p
  generalize hz : upd _ p _ = H3
  have gz := laid_same hz n_p
  have e_p := laid_at hz
  clear hz
  have gg := gg.trans gz
  have e_q1 := gz _ _ e_q1
  have e_q2 := gz _ _ e_q2
  have f1 : (t.cs.filter (isSure t top bot)).map (fun p => V.str p.1) = (sure t top bot).map V.str := by unfold sure; rw [List.map_map]; rfl
  have f2 : (t.cs.filter (isOpen t top bot)).map (fun p => V.str p.1) = (opens t top bot).map V.str := by unfold opens; rw [List.map_map]; rfl
  rw [f1] at e_q1
  rw [f2] at e_q2
  exact hq p q1 q2 _ gg n_q1 (Same.free g1 n_q2) (ne_of_none e1 n_q2) e_p e_q1 e_q2
theorem okx_coa (O_TooCoarse : PyProof.Rows.OwnCls "TooCoarse" C bmV "ValueError.__new__" mg base) (F : Fun K "frequent" "frequent" s_frequent f fd) : FnOk P w K mg base (CX1 P w) 1 f fd ["tally", "top", "bottom"] (spCoa C) := by
  refine F.okX sc_frequent (fun vs H Q E h => ?_) (fun cdv A outer s H vs Q E hr h => ?_)
  · obtain ⟨r, t, top, bot, rfl, _⟩ := h
    rfl
  obtain ⟨r, t, top, bot, rfl, hd, si, t0, t1, lt, hE⟩ := h
  refine ⟨_, (@pss_cons _ _ _ _ _ (ps_asg (pv 0) (pg_tup rfl (pgs_cons (pg_name (i := 3) sc_frequent.nd rfl (Or.inl rfl)) (pgs_cons (pg_name (i := 4) sc_frequent.nd rfl (Or.inl rfl)) (pgs_cons (pg_name (i := 5) sc_frequent.nd rfl (Or.inr rfl)) (pgs_cons (pg_name (i := 6) sc_frequent.nd rfl (Or.inl rfl)) pgs_nil))))))
  (@pss_cons _ _ _ _ _ (@ps_if _ _ _ _ _ _ _ _ (PW.pt (@pw_or _ _ _ _ _ _ _ (@pt_cmpR _ _ _ _ _ _ _ _ op_lt (pv 1) pe_int (nomark _)) (@pw_or1 _ _ _ _ (@pt_cmpR _ _ _ _ _ _ _ _ op_ge (pv 1) (pv 2) (nomark _))))) (@pss_one _ _ _ ps_never) pss_nil)
  (@pss_cons _ _ _ _ _ (@ps_set _ _ 7 _ _ _ _ sc_frequent.nd rfl (Or.inr rfl) (@pe_op _ _ _ _ _ _ _ _ op_mulB (pv 1) (pv 6)) (by rfl) (by first | exact .inl rfl | exact .inr rfl))
  (@pss_cons _ _ _ _ _ (@ps_if _ _ _ _ _ _ _ _ (@pt_cmpR _ _ _ _ _ _ _ _ op_gt (@pe_op _ _ _ _ _ _ _ _ op_mulB (pv 5) (pv 2)) (pv 7) (nomark _)) (@pss_one _ _ _ (ps_raise O_TooCoarse PySem.F.excBase_ValueError (@pa_cons _ _ _ _ _ pe_str pa_nil (by rfl)))) pss_nil)
  pss_never)))), ?_⟩
  obtain ⟨m1, m2, m3⟩ := sz si
  obtain ⟨_, b, rows, e0, ea, eb, pa⟩ := DV.ty_inv hd
  cases e0
  refine ⟨_, rfl, r, _, rfl, SqT.of ea, rfl, _, _, rfl, _, _, rfl, _, _, rfl, _, _, rfl, rfl, ?_⟩
  refine ⟨_, rfl, _, _, rfl, rfl, _, rfl, ?_⟩
  rw [decide_eq_false (by omega)]
  refine iteF ⟨_, rfl, _, rfl, _, _, rfl, rfl, _, rfl, ?_⟩
  rw [decide_eq_false (by omega)]
  refine iteF ?_
  refine ⟨_, rfl, _, rfl, _, _, rfl, rfl, m1, ?_⟩
  refine ⟨_, rfl, _, rfl, _, _, rfl, rfl, m2, _, rfl, _, _, rfl, rfl, _, rfl, ?_⟩
  rw [decide_eq_true (by omega)]
  exact iteT ⟨leN rfl, hE⟩
end
end K13

namespace K13
open PySem L2
def spLaw (K : PySem.W.Frag) (T : Addr) : Sp := fun vs H Q _ => ∃ (a : Addr) (ns : List Int), vs = [.ref a] ∧ SqL K H a (ns.map V.int) ∧ ns.length ≤ 63 ∧ LamAt T (lamPos lamGT) qGT H ∧ ∀ H', Q (.bl true) H'
theorem sqL_same {K : PySem.W.Frag} {H H' : Hp} {a : Addr} {xs : List V} (s : Same H H') (h : SqL K H a xs) : SqL K H' a xs := by
  rcases h with h | h
  · rcases h with h | ⟨o, h⟩
    · exact .inl (.inl (s _ _ h))
    · exact .inl (.inr ⟨o, s _ _ h⟩)
  · exact .inr h
/-- the table, and the script -/
structure Wd (T : Addr) (K : PySem.W.Frag) (s0 : Addr) (xs : List V) (H : Hp) : Prop where
  lam : LamAt T (lamPos lamGT) qGT H
  scr : SqL K H s0 xs
theorem Wd.mono {T : Addr} {K : PySem.W.Frag} {s0 : Addr} {xs : List V} {H H' : Hp} (h : Wd T K s0 xs H) (g : Same H H') : Wd T K s0 xs H' := ⟨h.lam.mono g, sqL_same g h.scr⟩
theorem lam_n {T : Addr} {p : Pos} {q : Str} {H : Hp} (h : LamAt T p q H) : (∀ xs, H T ≠ some (.lst xs)) ∧ (∀ xs, H T ≠ some (.tup xs)) ∧ (∀ o u, H T ≠ some (.frz o u)) := by
  rcases h.tab with e | ⟨_, e, _⟩ <;> (rw [e]; exact ⟨fun _ z => (nomatch z), fun _ z => (nomatch z), fun _ _ z => (nomatch z)⟩)
theorem same_hid {H0 H1 : Hp} {a : Addr} (n : H0 a = none) (s : Same H0 H1) : Same H0 (hide a H1) := fun b u e => by rw [hide_ne (ne_of_none e n)]; exact s b u e
theorem ok_W : ∀ {t : Tr}, t.Ok → ∀ s ∈ t.streams, ∀ x ∈ s, ThW x := fun {t} h s hs x hx => ⟨(Tr.streams_ok h s hs x hx).word, (Tr.streams_ok h s hs x hx).many⟩
section
variable {T : Addr} {K : PySem.W.Frag} {s0 : Addr} {xs : List V} {H H' : Hp}
end

def timesT (z : Str) (ts : List Th) : Int := ((ts.filter fun t => decide (t.word = z)).map Th.many).sum
def spTimes : Sp := fun vs H Q _ => ∃ (r : Addr) (ts : List Th) (z : Str), vs = [.ref r, .str z] ∧ DV H (.ref r) (strD ts) ∧ ts.length ≤ 1000 ∧ ∀ H', Same H H' → Q (.int (timesT z ts)) H'

theorem timesT_app (z : Str) (a b : List Th) : timesT z (a ++ b) = timesT z a + timesT z b := by
  unfold timesT
  rw [List.filter_append, List.map_append, List.sum_append]
theorem timesT_one (z : Str) (t : Th) : timesT z [t] = look [(t.word, t.many)] z := by
  unfold timesT look look
  by_cases h : t.word = z
  · rw [if_pos h, List.filter_cons, if_pos (decide_eq_true h)]
    simp
  · rw [if_neg h, List.filter_cons, if_neg (by simpa using h)]
    rfl
theorem fold_bounds {room : Int} (h1 : 1 ≤ room) (h2 : room ≤ 20) (z : Str) : ∀ (ts : List Th) (a : Ty) (n : Int), a.Ok → a.room = room → (∀ t ∈ ts, ThW t) → look a.cs z ≤ n ∧ n ≤ look a.cs z + a.lt →
    look (ts.foldl (fun a t => mergeT a (thT room t)) a).cs z ≤ n + timesT z ts ∧ n + timesT z ts ≤ look (ts.foldl (fun a t => mergeT a (thT room t)) a).cs z + (ts.foldl (fun a t => mergeT a (thT room t)) a).lt
  | [], a, n, _, _, _, h => by
    have e : n + timesT z [] = n := Int.add_zero n
    rw [e]
    exact h
  | t :: ts, a, n, ha, hr, hw, h => by
    have ok := thT_ok h1 h2 (hw t (.head _))
    have e : timesT z (t :: ts) = timesT z [t] + timesT z ts := timesT_app z [t] ts
    rw [e, ← Int.add_assoc]
    refine fold_bounds h1 h2 z ts (mergeT a (thT room t)) (n + timesT z [t]) (mergeT_ok ha ok hr) hr (fun x hx => hw x (.tail _ hx)) (mergeT_bounds ha ok h ?_)
    rw [timesT_one]
    exact ⟨Int.le_refl _, Int.le_of_eq (Int.add_zero _).symm⟩
theorem tally_bounds {room : Int} (h1 : 1 ≤ room) (h2 : room ≤ 20) (z : Str) {ts : List Th} (hw : ∀ t ∈ ts, ThW t) : look (tallyS room ts).cs z ≤ timesT z ts ∧ timesT z ts ≤ look (tallyS room ts).cs z + (tallyS room ts).lt := by
  have h := fold_bounds h1 h2 z ts (Ty.zero room) 0 (zero_ok h1 h2) rfl hw ⟨Int.le_refl _, Int.le_refl _⟩
  rw [Int.zero_add] at h
  exact h
theorem grown_okW {room : Int} (h1 : 1 ≤ room) (h2 : room ≤ 20) : ∀ {t : Tr}, (∀ s ∈ t.streams, ∀ x ∈ s, ThW x) → (grownT room t).Ok ∧ (grownT room t).room = room
  | .leaf ts, h => tallyS_ok h1 h2 (h ts (.head _))
  | .node l r, h => by
    obtain ⟨a1, a2⟩ := grown_okW h1 h2 (t := l) fun s hs => h s (List.mem_append_left _ hs)
    obtain ⟨b1, b2⟩ := grown_okW h1 h2 (t := r) fun s hs => h s (List.mem_append_right _ hs)
    exact ⟨mergeT_ok a1 b1 (a2.trans b2.symm), a2⟩
theorem grown_bounds {room : Int} (h1 : 1 ≤ room) (h2 : room ≤ 20) (z : Str) : ∀ {t : Tr}, (∀ s ∈ t.streams, ∀ x ∈ s, ThW x) → look (grownT room t).cs z ≤ timesT z t.all ∧ timesT z t.all ≤ look (grownT room t).cs z + (grownT room t).lt
  | .leaf ts, h => tally_bounds h1 h2 z (h ts (.head _))
  | .node l r, h => by
    obtain ⟨a1, a2⟩ := grown_okW h1 h2 (t := l) fun s hs => h s (List.mem_append_left _ hs)
    obtain ⟨b1, b2⟩ := grown_okW h1 h2 (t := r) fun s hs => h s (List.mem_append_right _ hs)
    have e : timesT z (Tr.node l r).all = timesT z l.all + timesT z r.all := timesT_app z _ _
    rw [e]
    exact mergeT_bounds a1 b1 (grown_bounds h1 h2 z (t := l) fun s hs => h s (List.mem_append_left _ hs)) (grown_bounds h1 h2 z (t := r) fun s hs => h s (List.mem_append_right _ hs))
abbrev totT (ts : List Th) : Int := (ts.map Th.many).sum
theorem fold_total {room : Int} : ∀ (ts : List Th) (a : Ty), (ts.foldl (fun a t => mergeT a (thT room t)) a).total = a.total + totT ts
  | [], a => (Int.add_zero _).symm
  | t :: ts, a => by
    have e : totT (t :: ts) = t.many + totT ts := rfl
    rw [e, ← Int.add_assoc]
    exact fold_total ts (mergeT a (thT room t))
theorem grown_total (room : Int) : ∀ t : Tr, (grownT room t).total = totT t.all
  | .leaf ts => (fold_total ts (Ty.zero room)).trans (Int.zero_add _)
  | .node l r => by
    show (grownT room l).total + (grownT room r).total = ((l.all ++ r.all).map Th.many).sum
    rw [grown_total room l, grown_total room r, List.map_append, List.sum_append]
theorem tot_nn : ∀ {ts : List Th}, (∀ t ∈ ts, ThW t) → 0 ≤ totT ts
  | [], _ => Int.le_refl _
  | t :: ts, h => by
    have h1 := (h t (.head _)).2
    have h2 := tot_nn (ts := ts) fun x hx => h x (.tail _ hx)
    show 0 ≤ t.many + totT ts
    omega
theorem all_W {t : Tr} (h : ∀ s ∈ t.streams, ∀ x ∈ s, ThW x) : ∀ x ∈ t.all, ThW x := fun x hx => by
  rw [Tr.all_eq] at hx
  obtain ⟨s, hs, hx⟩ := List.mem_flatten.mp hx
  exact h s hs x hx
theorem in_keys {z : Str} {ks : List Str} (h : z ∈ ks) : inV (.str z) (ks.map V.str) = true := by
  unfold inV
  rw [List.any_map]
  exact List.any_eq_true.mpr ⟨z, h, by show (z == z) = true; simp⟩
theorem flat_keys (ks : List Str) : (ks.map V.str).all flatV = true := by
  rw [List.all_map]
  exact List.all_eq_true.mpr fun _ _ => rfl
section
variable {P : Program} {w : World} {K : PySem.W.Frag} {mg : Str → Option Value} {base : Heap} {f : Addr} {fd : FuncData}
theorem ok_times (z_sum : mg "sum" = none) (F : Fun K "_law_times" "_law_times" s_l_times f fd) : FnOk P w K mg base CX0 1 f fd ["_law_stream_here", "_law_mark"] spTimes := by
  refine F.ok sc_l_times (fun vs H Q E h => ?_) (fun cdv A outer s H vs Q E hr h => ?_)
  · obtain ⟨r, ts, z, rfl, _⟩ := h
    rfl
  obtain ⟨r, ts, z, rfl, hd, tl, hq⟩ := h
  refine ⟨_, (@pss_one _ _ _ (@ps_ret _ _ _ _ (pe_callB (call_sum rfl) rfl z_sum PyProof.Rows.boot_sum (@pa_cons _ _ _ _ _ (pe_comp (own := ["_law_thing_here"]) (CompOk.of rfl rfl (by rfl) (by rfl) (by rfl)) (pi_list (pv 0))
    (fun _ _ _ _ _ => (pg_name (i := 0) nd_l_times_124_15 rfl (Or.inl rfl) (Or.inr rfl))) (fun _ _ _ _ _ => (pts_one (@pt_cmpR _ _ _ _ _ _ _ _ op_eq (@pe_ix _ _ _ _ _ _ _ (ix_tupK K rfl) (pv 0) pe_int (fun _ _ => rfl)) (pv 2) (nomark _))))
    (fun _ _ _ _ _ => (@pe_ix _ _ _ _ _ _ _ (ix_tupK K rfl) (pv 0) pe_int (fun _ _ => rfl)))) pa_nil (by rfl))))), ?_⟩
  obtain ⟨_, xs, e0, e_r, ds⟩ := DV.list_inv hd
  cases e0
  refine ⟨_, rfl, r, rfl, ⟨_, SqL.of e_r⟩, ?_⟩
  refine comp_stream (fun t => decide (t.word = z)) (fun t => .int t.many) e_r ds (by omega) ?_ ?_
  · rintro t c ys C mt ec h1 h2
    refine ⟨Wk.refl _, _, rfl, _, _, _, _, rfl, rfl, SqT.of ec, rfl, _, rfl, rfl, _, rfl, ?_⟩
    by_cases e : t.word = z
    · rw [decide_eq_true (by rw [e])]
      exact iteT ⟨_, rfl, _, _, _, _, rfl, rfl, SqT.of ec, rfl, h1 (decide_eq_true e)⟩
    · rw [decide_eq_false (fun q => e (by cases q; rfl))]
      exact iteF (h2 (decide_eq_false e))
  · intro q nq
    refine ⟨q, (ts.filter fun t : Th => decide (t.word = z)).map Th.many, rfl, SqL.of ?_, hq _ (same_laid nq _)⟩
    rw [upd_same, List.map_map]
    rfl
end
section
variable {T a : Addr} {K : PySem.W.Frag} {s0 : Addr} {xs : List V} {H H' : Hp}
theorem gT_hide (g : Same (hide T H) (hide T H')) : Same (hide T (hide a H)) (hide a H') := fun b u e => by
  obtain ⟨h1, h2⟩ := hide_some e
  obtain ⟨h3, h4⟩ := hide_some h2
  rw [hide_ne h3]
  exact (hide_some (g b u (by rw [hide_ne h1]; exact h4))).2
theorem pen_T (h : Wd T K s0 xs (hide a H)) (hp : PenAt H a) (g : Same (hide T H) (hide T H')) : PenAt H' a := by
  obtain ⟨p, q, r, e⟩ := hp
  have ne : a ≠ T := fun z => by
    subst z
    rcases h.lam.tab with e | ⟨_, e, _⟩ <;> (rw [hide_self] at e; cases e)
  exact ⟨p, q, r, (hide_some (g a _ (by rw [hide_ne ne]; exact e))).2⟩
theorem dv_T (h : Wd T K s0 xs (hide a H)) (g : Same (hide T H) (hide T H')) {v : V} {d : PyData} (k : DV (hide a H) v d) : DV (hide a H') v d := (dv_hide (lam_n h.lam).1 (lam_n h.lam).2.1 k).mono (gT_hide g)
theorem wd_T (h : Wd T K s0 xs (hide a H)) (g : Same (hide T H) (hide T H')) (hp : PenAt H' a) (l : LamAt T (lamPos lamGT) qGT H') : Wd T K s0 xs (hide a H') := by
  obtain ⟨p, q, r, ea⟩ := hp
  refine ⟨⟨?_⟩, ?_⟩
  · rcases l.tab with e | ⟨c, e, ec⟩
    · exact .inl (by rw [hide_ne (fun z => by rw [z, ea] at e; cases e)]; exact e)
    · exact .inr ⟨c, by rw [hide_ne (fun z => by rw [z, ea] at e; cases e)]; exact e, by rw [hide_ne (fun z => by rw [z, ea] at ec; cases ec)]; exact ec⟩
  · rcases h.scr with (z | ⟨o, z⟩) | z
    · exact .inl (.inl (gT_hide g _ _ (by rw [hide_ne (fun y => (lam_n h.lam).1 _ (y ▸ z))]; exact z)))
    · exact .inl (.inr ⟨o, gT_hide g _ _ (by rw [hide_ne (fun y => (lam_n h.lam).2.2 _ _ (y ▸ z))]; exact z)⟩)
    · exact .inr z
end

section
variable {T a : Addr} {K : PySem.W.Frag} {s0 : Addr} {xs : List V} {H H' : Hp}
end
theorem things_hide {H : Hp} {a : Addr} (hp : PenAt H a) : ∀ {xs : List V} {ts : List Th}, DVs H xs (ts.map Th.D) → DVs (hide a H) xs (ts.map Th.D)
  | _, [], h => by
    have h : DVs H _ [] := h
    rw [h.nil_inv]
    exact .nil
  | _, t :: ts, h => by
    obtain ⟨x, r, rfl, h1, h2⟩ := DVs.cons_inv (show DVs H _ (t.D :: ts.map Th.D) from h)
    obtain ⟨t', c, e1, rfl, ec, _⟩ := DVs.th_at (ts := [t]) (.cons h1 .nil) (i := 0) rfl
    cases e1
    refine .cons (Th.dv ?_) (things_hide hp h2)
    obtain ⟨p, q, r', e⟩ := hp
    rw [hide_ne (fun z => by rw [z, e] at ec; cases ec)]
    exact ec
theorem str_hide {H : Hp} {a : Addr} (hp : PenAt H a) {v : V} {ts : List Th} (h : DV H v (strD ts)) : DV (hide a H) v (strD ts) := by
  obtain ⟨b, xs, rfl, e, d⟩ := DV.list_inv h
  refine .lst ?_ (things_hide hp d)
  rw [hide_ne (fun z => ?_)]
  · exact e
  · obtain ⟨p, q, r, ea⟩ := hp
    rw [z, ea] at e
    cases e
    cases ts with
    | nil => exact absurd (show DVs H _ [] from d).nil_inv (fun z => nomatch z)
    | cons t ts =>
      obtain ⟨x, r', e2, h1, h2⟩ := DVs.cons_inv (show DVs H _ (t.D :: ts.map Th.D) from d)
      cases e2
      obtain ⟨_, _, e3, _⟩ := DV.tup_inv h1
      cases e3
theorem nodup_len : ∀ (l C : List Str), l.Nodup → (∀ x ∈ l, x ∈ C) → l.length ≤ C.length
  | [], _, _, _ => Nat.zero_le _
  | x :: l, C, nd, h => by
    obtain ⟨n1, n2⟩ := List.nodup_cons.mp nd
    have hx := h x (.head _)
    have ih := nodup_len l (C.erase x) n2 fun y hy => (List.mem_erase_of_ne (fun e : y = x => n1 (e ▸ hy))).mpr (h y (.tail _ hy))
    rw [List.length_erase_of_mem hx] at ih
    have : 0 < C.length := List.length_pos_of_mem hx
    show l.length + 1 ≤ _
    omega
theorem op_in_seqK (K : PySem.W.Frag) {X : Cx} (h : X.K = K) : OpR X (compareOp .In) (rIn K false) := h ▸ op_in_seq
/-- a tree as `_law_heavy` tells it -/
structure TrB (t : Tr) : Prop where
  w : ∀ s ∈ t.streams, ∀ x ∈ s, ThW x
  size : t.size ≤ 20
  ht : t.ht < 10
  len : t.all.length ≤ 100
  tot : totT t.all ≤ 1000000000000
theorem tot_le : ∀ {ts : List Th}, (∀ t ∈ ts, t.Ok) → totT ts ≤ 1000000000 * (ts.length : Int)
  | [], _ => Int.le_refl _
  | t :: ts, h => by
    have h1 := (h t (.head _)).manyU
    have h2 := tot_le (ts := ts) fun x hx => h x (.tail _ hx)
    show t.many + totT ts ≤ 1000000000 * ((ts.length + 1 : Nat) : Int)
    omega
theorem all_ok {t : Tr} (h : t.Ok) : ∀ x ∈ t.all, x.Ok := fun x hx => by
  rw [Tr.all_eq] at hx
  obtain ⟨s, hs, hx⟩ := List.mem_flatten.mp hx
  exact Tr.streams_ok h s hs x hx
theorem trB_of {t : Tr} (ok : t.Ok) (h1 : t.size ≤ 15) (h2 : t.ht < 8) (h3 : t.all.length ≤ 96) : TrB t := by
  have q := tot_le (all_ok ok)
  exact ⟨ok_W ok, by omega, by omega, by omega, by omega⟩
theorem trB_r {t : Tr} {x : Th} (ok : t.Ok) (h1 : t.size ≤ 15) (h2 : t.ht < 8) (h3 : t.all.length ≤ 96) (hx : ThW x) (hm : x.many ≤ 3 * totT t.all + 1) : TrB (.node t (.leaf [x])) := by
  have q := tot_le (all_ok ok)
  have e : totT (Tr.node t (.leaf [x])).all = totT t.all + (x.many + 0) := by
    show ((t.all ++ [x]).map Th.many).sum = _
    rw [List.map_append, List.sum_append]
    rfl
  refine ⟨fun s hs y hy => ?_, ?_, ?_, ?_, ?_⟩
  · rcases List.mem_append.mp (show s ∈ t.streams ++ [[x]] from hs) with hs | hs
    · exact ok_W ok s hs y hy
    · rw [List.mem_singleton.mp hs] at hy
      rw [List.mem_singleton.mp hy]
      exact hx
  · show t.size + 1 + 1 ≤ 20
    omega
  · show max t.ht 0 + 1 < 10
    omega
  · show (t.all ++ [x]).length ≤ 100
    rw [List.length_append]
    show t.all.length + 1 ≤ 100
    omega
  · rw [e]
    omega
theorem trB_l {t : Tr} {x : Th} (ok : t.Ok) (h1 : t.size ≤ 15) (h2 : t.ht < 8) (h3 : t.all.length ≤ 96) (hx : ThW x) (hm : x.many ≤ 3 * totT t.all + 1) : TrB (.node (.leaf [x]) t) := by
  have q := tot_le (all_ok ok)
  have e : totT (Tr.node (.leaf [x]) t).all = x.many + totT t.all := rfl
  refine ⟨fun s hs y hy => ?_, ?_, ?_, ?_, ?_⟩
  · rcases List.mem_cons.mp (show s ∈ [x] :: t.streams from hs) with hs | hs
    · rw [hs] at hy
      rw [List.mem_singleton.mp hy]
      exact hx
    · exact ok_W ok s hs y hy
  · show 1 + t.size + 1 ≤ 20
    omega
  · show max 0 t.ht + 1 < 10
    omega
  · show (x :: t.all).length ≤ 100
    show t.all.length + 1 ≤ 100
    omega
  · rw [e]
    omega
/-- what a tree's tally is to its stream -/
structure Hld (y : Ty) (ts : List Th) : Prop where
  ok : y.Ok
  tot : y.total = totT ts
  bnd : ∀ z, look y.cs z ≤ timesT z ts ∧ timesT z ts ≤ look y.cs z + y.lt
  w : ∀ t ∈ ts, ThW t
  len : ts.length ≤ 100
  le : totT ts ≤ 1000000000000
theorem times_le {z : Str} : ∀ {ts : List Th}, (∀ t ∈ ts, ThW t) → timesT z ts ≤ totT ts
  | [], _ => Int.le_refl _
  | t :: ts, h => by
    have h1 := (h t (.head _)).2
    have h2 := times_le (z := z) (ts := ts) fun x hx => h x (.tail _ hx)
    have e : timesT z (t :: ts) = timesT z [t] + timesT z ts := timesT_app z [t] ts
    rw [e, timesT_one]
    show look [(t.word, t.many)] z + timesT z ts ≤ t.many + totT ts
    unfold look look
    split <;> omega
theorem times_pos {t : Th} : ∀ {ts : List Th}, (∀ t ∈ ts, ThW t) → t ∈ ts → 1 ≤ timesT t.word ts
  | x :: ts, h, m => by
    have h1 := (h x (.head _)).2
    have e : timesT t.word (x :: ts) = timesT t.word [x] + timesT t.word ts := timesT_app _ [x] ts
    have nn : 0 ≤ timesT t.word ts := by
      unfold timesT
      have := tot_nn (ts := ts.filter fun u => decide (u.word = t.word)) fun u hu => h u (.tail _ (List.mem_filter.mp hu).1)
      exact this
    rw [e, timesT_one]
    rcases List.mem_cons.mp m with rfl | m
    · unfold look
      rw [if_pos rfl]
      omega
    · have ih := times_pos (fun u hu => h u (.tail _ hu)) m
      unfold look look
      split <;> omega
theorem sum_nn : ∀ {ps : Ps}, (∀ p ∈ ps, 1 ≤ p.2) → 0 ≤ (nsOf ps).sum
  | [], _ => Int.le_refl _
  | p :: ps, h => by
    have h1 := h p (.head _)
    have h2 := sum_nn (ps := ps) fun x hx => h x (.tail _ hx)
    show 0 ≤ p.2 + (nsOf ps).sum
    omega
theorem hld_sized {y : Ty} {ts : List Th} (h : Hld y ts) {top bot : Int} (h1 : 0 ≤ top) (h2 : top < bot) (h3 : bot ≤ 1000000000000) : Sized y top bot := by
  have l1 := h.ok.len
  have l2 := h.ok.room2
  have l0 := h.ok.room1
  have lo := h.ok.lo
  have lt0 := h.ok.lt0
  have nn := tot_nn h.w
  have le := h.le
  have tt := h.tot
  have cs : ∀ p ∈ y.cs, 1 ≤ p.2 ∧ p.2 ≤ 1000000000000 := fun p hp => by
    refine ⟨h.ok.pos p hp, ?_⟩
    have b := (h.bnd p.1).1
    rw [look_in h.ok.nd hp] at b
    have := times_le (z := p.1) h.w
    omega
  have sn : 0 ≤ y.sum := sum_nn h.ok.pos
  have l3 : 1 * y.lt ≤ (y.room + 1) * y.lt := Int.mul_le_mul_of_nonneg_right (by omega) lt0
  exact ⟨h.ok.nd, by omega, fun p hp => ⟨(cs p hp).1, by have := (cs p hp).2; omega⟩, ⟨lt0, by omega⟩, ⟨by omega, by omega⟩, ⟨by omega, by omega⟩, by omega, by omega⟩
theorem sure_in {y : Ty} {top bot : Int} {z : Str} (nd : (y.cs.map (·.1)).Nodup) : z ∈ sure y top bot → top * y.total < look y.cs z * bot := fun h => by
  obtain ⟨p, hp, rfl⟩ := List.mem_map.mp h
  obtain ⟨h1, h2⟩ := List.mem_filter.mp hp
  rw [look_in nd h1]
  exact of_decide_eq_true h2
theorem opens_in {y : Ty} {top bot : Int} {z : Str} (nd : (y.cs.map (·.1)).Nodup) : z ∈ opens y top bot → look y.cs z * bot ≤ top * y.total := fun h => by
  obtain ⟨p, hp, rfl⟩ := List.mem_map.mp h
  obtain ⟨h1, h2⟩ := List.mem_filter.mp hp
  rw [look_in nd h1]
  exact of_decide_eq_true (Bool.and_eq_true_iff.mp h2).1
theorem told_all {y : Ty} {ts : List Th} (h : Hld y ts) {top bot : Int} (h1 : 0 ≤ top) (h2 : top < bot) (hl : y.lt * bot ≤ top * y.total) (z : Str) :
    (z ∈ sure y top bot → top * y.total < timesT z ts * bot) ∧ (top * y.total < timesT z ts * bot → z ∈ sure y top bot ++ opens y top bot) := by
  obtain ⟨b1, b2⟩ := h.bnd z
  refine ⟨fun hz => ?_, fun hz => ?_⟩
  · have q := sure_in h.ok.nd hz
    have q2 := Int.mul_le_mul_of_nonneg_right b1 (show 0 ≤ bot by omega)
    omega
  · have q2 := Int.mul_le_mul_of_nonneg_right b2 (show 0 ≤ bot by omega)
    by_cases hk : z ∈ y.cs.map (·.1)
    · obtain ⟨p, hp, rfl⟩ := List.mem_map.mp hk
      rw [look_in h.ok.nd hp] at q2
      by_cases hs : top * y.total < p.2 * bot
      · exact List.mem_append_left _ (List.mem_map.mpr ⟨p, List.mem_filter.mpr ⟨hp, decide_eq_true hs⟩, rfl⟩)
      · refine List.mem_append_right _ (List.mem_map.mpr ⟨p, List.mem_filter.mpr ⟨hp, ?_⟩, rfl⟩)
        show (decide _ && decide _) = true
        rw [decide_eq_true (by omega), decide_eq_true (by omega)]
        rfl
    · rw [look_out hk, Int.zero_add] at q2
      omega
theorem room_share {y : Ty} {ts : List Th} (h : Hld y ts) : y.lt * (y.room + 1) ≤ 1 * y.total := by
  have lo := h.ok.lo
  have sn : 0 ≤ y.sum := sum_nn h.ok.pos
  rw [Int.mul_comm, Int.one_mul]
  omega
end K13

namespace K13
open PySem L2
def spHeavy : Sp := fun vs H Q _ => ∃ (a : Addr) (v : V) (t : Tr), vs = [.ref a, v] ∧ PenAt H a ∧ DV (hide a H) v t.D ∧ t.Ok ∧ t.size ≤ 15 ∧ t.ht < 8 ∧ t.all.length ≤ 96 ∧
  ∀ (v' : V) (t' : Tr) (H' : Hp), TrB t' → DV (hide a H') v' t'.D → PenAt H' a → Grw a H H' → Q v' H'
section
variable {P : Program} {w : World} {K : PySem.W.Frag} {mg : Str → Option Value} {base : Heap} {f : Addr} {fd : FuncData}
theorem ok_heavy (h_l_draw : Has P w K mg base "_law_draw" 1 ["_law_pen_here", "_law_size"] spDraw) (h_l_word : Has P w K mg base "_law_word" 1 ["_law_pen_here", "_law_k"] spWord) (h_l_stream_of : Has P w K mg base "_law_stream_of" 30 ["_law_tree_here"] (spLSO 30)) (z_sum : mg "sum" = none)
    (F : Fun K "_law_heavy" "_law_heavy" s_l_heavy f fd) : FnOk P w K mg base CX0 31 f fd ["_law_pen_here", "_law_tree_here"] spHeavy := by
  refine F.ok sc_l_heavy (fun vs H Q E h => ?_) (fun cdv A outer s H vs Q E hr h => ?_)
  · obtain ⟨a, v, t, rfl, _⟩ := h
    rfl
  obtain ⟨a, v, t, rfl, hp, k_v, tok, z1, z2, z3, hq⟩ := h
  refine ⟨_, (@pss_cons _ _ _ _ _ (@ps_set _ _ 2 _ _ _ _ sc_l_heavy.nd rfl (Or.inl rfl) (pe_callH h_l_stream_of hr (@pa_cons _ _ _ _ _ (pv 1) pa_nil (by rfl))) (by rfl) (by first | exact .inl rfl | exact .inr rfl))
  (pss_forget 5 (@pss_cons _ _ _ _ _ (@ps_set _ _ 3 _ _ _ _ sc_l_heavy.nd rfl (Or.inl rfl) (pe_callB (call_sum rfl) rfl z_sum PyProof.Rows.boot_sum (@pa_cons _ _ _ _ _ (pe_ren ["_law_pen_here", "_law_tree_here", "_law_stream_here", "_law_all_things", "_law_many_here", "#5"] (pe_comp (own := ["_law_thing_here"]) (CompOk.of rfl rfl (by rfl) (by rfl) (by rfl)) (pi_list (pv 2))
    (fun _ _ _ _ _ => (pg_name (i := 0) nd_l_heavy_127_26 rfl (Or.inl rfl) (Or.inr rfl))) (fun _ _ _ _ _ => pts_nil)
    (fun _ _ _ _ _ => (@pe_ix _ _ _ _ _ _ _ (ix_tupK K rfl) (pv 0) pe_int (fun _ _ => rfl))))) pa_nil (by rfl))) (by rfl) (by first | exact .inl rfl | exact .inr rfl))
  (@pss_cons _ _ _ _ _ (@ps_set _ _ 4 _ _ _ _ sc_l_heavy.nd rfl (Or.inl rfl) (@pe_ix _ _ _ _ _ _ _ ix_list (@pe_lst _ _ _ _ (@pa_cons _ _ _ _ _ pe_int (@pa_cons _ _ _ _ _ (@pe_op _ _ _ _ _ _ _ _ op_add (pv 3) pe_int) (@pa_cons _ _ _ _ _ (pv 3) (@pa_cons _ _ _ _ _ (@pe_op _ _ _ _ _ _ _ _ op_fdiv (pv 3) pe_int) (@pa_cons _ _ _ _ _ pe_int (@pa_cons _ _ _ _ _ (@pe_op _ _ _ _ _ _ _ _ op_mulB (pv 3) pe_int) pa_nil (by rfl)) (by rfl)) (by rfl)) (by rfl)) (by rfl)) (by rfl))) (pe_callH h_l_draw hr (@pa_cons _ _ _ _ _ (pv 0) (@pa_cons _ _ _ _ _ pe_int pa_nil (by rfl)) (by rfl))) (fun _ _ => rfl)) (by rfl) (by first | exact .inl rfl | exact .inr rfl))
  (@pss_cons _ _ _ _ _ (@ps_if _ _ _ _ _ _ _ _ (@pt_cmpR _ _ _ _ _ _ _ _ op_eq (pv 4) pe_int (nomark _)) (@pss_one _ _ _ (@ps_ret _ _ _ _ (pv 1))) pss_nil)
  (@pss_cons _ _ _ _ _ (@ps_set _ _ 5 _ _ _ _ sc_l_heavy.nd rfl (Or.inl rfl) (@pe_tup _ _ _ _ _ (@pa_cons _ _ _ _ _ pe_int (@pa_cons _ _ _ _ _ (pe_callH h_l_word hr (@pa_cons _ _ _ _ _ (pv 0) (@pa_cons _ _ _ _ _ (pe_callH h_l_draw hr (@pa_cons _ _ _ _ _ (pv 0) (@pa_cons _ _ _ _ _ pe_int pa_nil (by rfl)) (by rfl))) pa_nil (by rfl)) (by rfl))) (@pa_cons _ _ _ _ _ pe_int (@pa_cons _ _ _ _ _ (pv 4) pa_nil (by rfl)) (by rfl)) (by rfl)) (by rfl))) (by rfl) (by first | exact .inl rfl | exact .inr rfl))
  (@pss_one _ _ _ (@ps_ret _ _ _ _ (@pe_ix _ _ _ _ _ _ _ ix_list (@pe_lst _ _ _ _ (@pa_cons _ _ _ _ _ (@pe_tup _ _ _ _ _ (@pa_cons _ _ _ _ _ pe_str (@pa_cons _ _ _ _ _ (pv 1) (@pa_cons _ _ _ _ _ (@pe_lst _ _ _ _ (@pa_cons _ _ _ _ _ (pv 5) pa_nil (by rfl))) pa_nil (by rfl)) (by rfl)) (by rfl))) (@pa_cons _ _ _ _ _ (@pe_tup _ _ _ _ _ (@pa_cons _ _ _ _ _ pe_str (@pa_cons _ _ _ _ _ (@pe_lst _ _ _ _ (@pa_cons _ _ _ _ _ (pv 5) pa_nil (by rfl))) (@pa_cons _ _ _ _ _ (pv 1) pa_nil (by rfl)) (by rfl)) (by rfl))) pa_nil (by rfl)) (by rfl))) (pe_callH h_l_draw hr (@pa_cons _ _ _ _ _ (pv 0) (@pa_cons _ _ _ _ _ pe_int pa_nil (by rfl)) (by rfl))) (fun _ _ => rfl)))))))))), ?_⟩
  have gg : Grw a H H := Same.refl _
  refine ⟨_, rfl, v, t, rfl, k_v.mono hide_sub, by omega, by omega, fun r H1 s1 _ d1 => ?_⟩
  have g1 := hp.grw s1
  have hp := hp.same s1
  have gg := gg.trans g1
  have k_v := k_v.mono g1
  have k_r := str_hide hp d1
  clear d1
  obtain ⟨_, xs, e0, e_r, ds⟩ := DV.list_inv k_r
  cases e0
  refine ⟨⟨.inl rfl, .inl rfl, .inl rfl, .inl rfl, .inl rfl, .inr rfl, trivial⟩, _, rfl, r, rfl, ⟨_, hSqL e_r⟩, ?_⟩
  refine comp_stream (fun _ => true) (fun t => .int t.many) (hide_some e_r).2 (ds.mono hide_sub) (by omega) ?_ ?_
  · rintro t c ys C mt ec h1 _
    exact ⟨Wk.refl _, _, rfl, _, _, _, _, rfl, rfl, SqT.of ec, rfl, h1 rfl⟩
  have et : ((t.all.filter fun _ => true).map fun t => V.int t.many) = (t.all.map Th.many).map V.int := by
    rw [List.filter_eq_self.mpr (fun _ _ => rfl), List.map_map]
    rfl
  rw [et]
  intro tp n_tp
  generalize hz : upd _ tp _ = H2
  obtain ⟨hp, gz, ne_tp, e_tp⟩ := laid_pen hz n_tp hp
  clear hz
  have gg := gg.trans gz
  have k_v := k_v.mono gz
  refine ⟨tp, t.all.map Th.many, rfl, hSqL e_tp, ?_⟩
  have nn : 0 ≤ totT t.all := tot_nn (all_W (ok_W tok))
  have ll : totT t.all ≤ 1000000000 * (t.all.length : Int) := tot_le (all_ok tok)
  have em : (t.all.map Th.many).sum = totT t.all := rfl
  rw [em]
  generalize hm : totT t.all = m at nn ll ⊢
  have cm : CMulB m 3 := by
    have e : big = 1000000000000000000000000000000000000000000000000000000000000000000000000000000 := rfl
    unfold CMulB
    rw [e]
    exact ⟨⟨by omega, by omega⟩, by omega, by omega⟩
  refine ⟨_, rfl, _, _, rfl, rfl, _, rfl, _, rfl, _, _, rfl, rfl, ⟨by decide, by decide⟩, _, rfl, _, _, rfl, rfl, cm, leN rfl, ?_⟩
  intro q n_q
  generalize hz : upd _ q _ = H3
  obtain ⟨hp, gz, ne_q, e_q⟩ := laid_pen hz n_q hp
  clear hz
  have gg := gg.trans gz
  have k_v := k_v.mono gz
  refine ⟨_, rfl, a, 6, rfl, hp, posI rfl, ltI rfl, fun d H4 x0 x1 hp g4 => ?_⟩
  have gg := gg.trans g4
  have k_v := k_v.mono g4
  have e_q := g4 _ _ e_q
  obtain ⟨u, hu, mu⟩ := pick e_q x0 x1
  refine ⟨q, _, _, u, rfl, rfl, hSqL e_q, hu, ?_⟩
  obtain ⟨k, rfl, k0, k1⟩ : ∃ k : Int, u = .int k ∧ 0 ≤ k ∧ k ≤ 3 * m + 1 := by
    simp only [List.mem_cons, List.not_mem_nil, or_false] at mu
    rcases mu with rfl | rfl | rfl | rfl | rfl | rfl
    · exact ⟨_, rfl, by decide, by omega⟩
    · exact ⟨_, rfl, by omega, by omega⟩
    · exact ⟨_, rfl, by omega, by omega⟩
    · exact ⟨_, rfl, by omega, by omega⟩
    · exact ⟨_, rfl, by decide, by omega⟩
    · exact ⟨_, rfl, by omega, by omega⟩
  refine ⟨_, rfl, rfl, _, rfl, ite2 (fun c => ⟨_, rfl, hq v t _ (trB_of tok z1 z2 z3) k_v hp gg⟩) (fun c => ?_)⟩
  have kn : k ≠ 0 := fun z => c (decide_eq_true (by rw [z]))
  refine ⟨_, rfl, _, rfl, a, 26, rfl, hp, posI rfl, ltI rfl, fun d2 H5 _ _ hp g5 => ?_⟩
  have gg := gg.trans g5
  have k_v := k_v.mono g5
  refine ⟨_, _, rfl, fun z H6 hz s6 => ?_⟩
  have g6 := hp.grw s6
  have hp := hp.same s6
  have gg := gg.trans g6
  have k_v := k_v.mono g6
  refine ⟨_, rfl, leN rfl, ?_⟩
  intro th n_th
  generalize hz : upd _ th _ = H7
  obtain ⟨hp, gz, ne_th, e_th⟩ := laid_pen hz n_th hp
  clear hz
  have gg := gg.trans gz
  have k_v := k_v.mono gz
  have xw : ThW ⟨0, z, 0, k⟩ := ⟨hz, by show 1 ≤ k; omega⟩
  have k_x : DV (hide a H7) (.ref th) (Th.D ⟨0, z, 0, k⟩) := Th.dv e_th
  refine ⟨_, rfl, _, rfl, leN rfl, ?_⟩
  intro l1 n_l1
  generalize hz : upd _ l1 _ = H8
  obtain ⟨hp, gz, ne_l1, e_l1⟩ := laid_pen hz n_l1 hp
  clear hz
  have gg := gg.trans gz
  have k_v := k_v.mono gz
  have k_x := k_x.mono gz
  refine ⟨leN rfl, ?_⟩
  intro t1 n_t1
  generalize hz : upd _ t1 _ = H9
  obtain ⟨hp, gz, ne_t1, e_t1⟩ := laid_pen hz n_t1 hp
  clear hz
  have gg := gg.trans gz
  have k_v := k_v.mono gz
  have k_x := k_x.mono gz
  have e_l1 := gz _ _ e_l1
  refine ⟨_, rfl, leN rfl, ?_⟩
  intro l2 n_l2
  generalize hz : upd _ l2 _ = H10
  obtain ⟨hp, gz, ne_l2, e_l2⟩ := laid_pen hz n_l2 hp
  clear hz
  have gg := gg.trans gz
  have k_v := k_v.mono gz
  have k_x := k_x.mono gz
  have e_l1 := gz _ _ e_l1
  have e_t1 := gz _ _ e_t1
  refine ⟨_, rfl, leN rfl, ?_⟩
  intro t2 n_t2
  generalize hz : upd _ t2 _ = H11
  obtain ⟨hp, gz, ne_t2, e_t2⟩ := laid_pen hz n_t2 hp
  clear hz
  have gg := gg.trans gz
  have k_v := k_v.mono gz
  have k_x := k_x.mono gz
  have e_l1 := gz _ _ e_l1
  have e_t1 := gz _ _ e_t1
  have e_l2 := gz _ _ e_l2
  refine ⟨leN rfl, ?_⟩
  intro q2 n_q2
  generalize hz : upd _ q2 _ = H12
  obtain ⟨hp, gz, ne_q2, e_q2⟩ := laid_pen hz n_q2 hp
  clear hz
  have gg := gg.trans gz
  have k_v := k_v.mono gz
  have k_x := k_x.mono gz
  have e_l1 := gz _ _ e_l1
  have e_t1 := gz _ _ e_t1
  have e_l2 := gz _ _ e_l2
  have e_t2 := gz _ _ e_t2
  refine ⟨_, rfl, a, 2, rfl, hp, posI rfl, ltI rfl, fun d3 H13 y0 y1 hp g13 => ?_⟩
  have gg := gg.trans g13
  have k_v := k_v.mono g13
  have k_x := k_x.mono g13
  have e_l1 := g13 _ _ e_l1
  have e_t1 := g13 _ _ e_t1
  have e_l2 := g13 _ _ e_l2
  have e_t2 := g13 _ _ e_t2
  have e_q2 := g13 _ _ e_q2
  obtain ⟨u, hu, mu⟩ := pick e_q2 y0 y1
  refine ⟨q2, _, _, u, rfl, rfl, hSqL e_q2, hu, ?_⟩
  simp only [List.mem_cons, List.not_mem_nil, or_false] at mu
  rcases mu with rfl | rfl
  · exact hq _ (.node t (.leaf [⟨0, z, 0, k⟩])) _ (trB_r tok z1 z2 z3 xw (by rw [hm]; exact k1)) (.tup e_t1 (.cons (.str _) (.cons k_v (.cons (.lst e_l1 (.cons k_x .nil)) .nil)))) hp gg
  · exact hq _ (.node (.leaf [⟨0, z, 0, k⟩]) t) _ (trB_l tok z1 z2 z3 xw (by rw [hm]; exact k1)) (.tup e_t2 (.cons (.str _) (.cons (.lst e_l2 (.cons k_x .nil)) (.cons k_v .nil)))) hp gg
end
end K13

namespace K13
open PySem L2
def spTold : Sp := fun vs H Q _ => ∃ (r : Addr) (t : Ty) (top bot : Int), vs = [.ref r, .int top, .int bot] ∧ DV H (.ref r) t.D ∧ Sized t top bot ∧ 0 ≤ top ∧ top < bot ∧
  (t.lt * bot ≤ top * t.total → ∀ (p l1 l2 : Addr) H', Same H H' → H' p = some (.tup [.ref l1, .ref l2]) → H' l1 = some (.lst ((sure t top bot).map V.str)) → H' l2 = some (.lst ((opens t top bot).map V.str)) → Q (.ref p) H') ∧
  (top * t.total < t.lt * bot → ∀ H', Same H H' → Q .non H')
def spFT (C : Addr) : Sp := fun vs H Q E => spFrq vs H Q E ∨ spCoa C vs H Q E
section
variable {P : Program} {w : World} {K : PySem.W.Frag} {mg : Str → Option Value} {base : Heap} {f : Addr} {fd : FuncData} {C : Addr}
theorem ok_told (hx_frequent : HasX P w K mg base "frequent" 1 ["tally", "top", "bottom"] (spFT C)) (m_TooCoarse : mg "TooCoarse" = some (.ref C)) (xm : PySem.W.exmOne K (.ref C) (.ref C) = some true)
    (F : Fun K "_law_told" "_law_told" s_l_told f fd) : FnOk P w K mg base CX0 2 f fd ["_law_tally", "_law_top", "_law_bottom"] spTold := by
  refine F.ok sc_l_told (fun vs H Q E h => ?_) (fun cdv A outer s H vs Q E hr h => ?_)
  · obtain ⟨r, t, top, bot, rfl, _⟩ := h
    rfl
  obtain ⟨r, t, top, bot, rfl, hd, si, t0, t1, q1, q2⟩ := h
  refine ⟨_, (@pss_cons _ _ _ _ _ (@ps_set _ _ 3 _ _ _ _ sc_l_told.nd rfl (Or.inl rfl) pe_non (by rfl) (by first | exact .inl rfl | exact .inr rfl))
  (@pss_cons _ _ _ _ _ (ps_tryA (i := 3) (fun _ _ z => z) rfl rfl hx_frequent hr (@pa_cons _ _ _ _ _ (pv 0) (@pa_cons _ _ _ _ _ (pv 1) (@pa_cons _ _ _ _ _ (pv 2) pa_nil (by rfl)) (by rfl)) (by rfl)) sc_l_told.nd rfl rfl m_TooCoarse (fun _ _ => (@pss_one _ _ _ (@ps_set _ _ 3 _ _ _ _ sc_l_told.nd rfl (Or.inl rfl) pe_non (by rfl) (by first | exact .inl rfl | exact .inr rfl)))))
  (@pss_one _ _ _ (@ps_ret _ _ _ _ (pv 3))))), ?_⟩
  refine ⟨_, rfl, _, rfl, _, rfl, ?_⟩
  by_cases c : t.lt * bot ≤ top * t.total
  · exact .inl ⟨r, t, top, bot, rfl, hd, si, t0, t1, c, fun p l1 l2 H' g _ _ _ e1 e2 e3 => ⟨_, rfl, q1 c p l1 l2 H' g e1 e2 e3⟩⟩
  · refine .inr ⟨r, t, top, bot, rfl, hd, si, t0, t1, by omega, C, rfl, xm, fun a na => ?_⟩
    exact ⟨_, rfl, q2 (by omega) _ (same_laid na _)⟩
end
end K13

namespace K13
open PySem L2
def spRight : Sp := fun vs H Q _ => ∃ (r s : Addr) (y : Ty) (ts : List Th) (top bot : Int), vs = [.ref r, .ref s, .int top, .int bot] ∧ DV H (.ref r) y.D ∧ DV H (.ref s) (strD ts) ∧ Hld y ts ∧ 0 ≤ top ∧ top < bot ∧ bot ≤ 1000000000000 ∧ ∀ H', Same H H' → Q (.bl true) H'
theorem notin_keys {z : Str} {ks : List Str} (h : z ∉ ks) : inV (.str z) (ks.map V.str) = false := by
  unfold inV
  rw [List.any_map]
  refine List.any_eq_false.mpr fun u hu c => h ?_
  have c : (u == z) = true := c
  rw [← eq_of_beq c]
  exact hu
section
variable {P : Program} {w : World} {K : PySem.W.Frag} {mg : Str → Option Value} {base : Heap} {f : Addr} {fd : FuncData}
theorem ok_right (h_l_told : Has P w K mg base "_law_told" 2 ["_law_tally", "_law_top", "_law_bottom"] spTold) (h_l_times : Has P w K mg base "_law_times" 1 ["_law_stream_here", "_law_mark"] spTimes) (z_sum : mg "sum" = none) (z_sorted : mg "sorted" = none) (z_set : mg "set" = none)
    (F : Fun K "_law_right" "_law_right" s_l_right f fd) : FnOk P w K mg base CX0 3 f fd ["_law_tally", "_law_stream_here", "_law_top", "_law_bottom"] spRight := by
  refine F.ok sc_l_right (fun vs H Q E h => ?_) (fun cdv A outer s H vs Q E hr h => ?_)
  · obtain ⟨r, s, y, ts, top, bot, rfl, _⟩ := h
    rfl
  obtain ⟨r, s0, y, ts, top, bot, rfl, k_y, k_s, hh, t0, t1, t2, hq⟩ := h
  refine ⟨_, (@pss_cons _ _ _ _ _ (@ps_set _ _ 4 _ _ _ _ sc_l_right.nd rfl (Or.inr rfl) (pe_callH h_l_told hr (@pa_cons _ _ _ _ _ (pv 0) (@pa_cons _ _ _ _ _ (pv 2) (@pa_cons _ _ _ _ _ (pv 3) pa_nil (by rfl)) (by rfl)) (by rfl))) (by rfl) (by first | exact .inl rfl | exact .inr rfl))
  (@pss_cons _ _ _ _ _ (@ps_set _ _ 5 _ _ _ _ sc_l_right.nd rfl (Or.inl rfl) (pe_callB (call_sum rfl) rfl z_sum PyProof.Rows.boot_sum (@pa_cons _ _ _ _ _ (pe_comp (own := ["_law_thing_here"]) (CompOk.of rfl rfl (by rfl) (by rfl) (by rfl)) (pi_list (pv 1))
    (fun _ _ _ _ _ => (pg_name (i := 0) nd_l_right_142_26 rfl (Or.inl rfl) (Or.inr rfl))) (fun _ _ _ _ _ => pts_nil)
    (fun _ _ _ _ _ => (@pe_ix _ _ _ _ _ _ _ (ix_tupK K rfl) (pv 0) pe_int (fun _ _ => rfl)))) pa_nil (by rfl))) (by rfl) (by first | exact .inl rfl | exact .inr rfl))
  (@pss_cons _ _ _ _ _ (@ps_if _ _ _ _ _ _ _ _ (@pt_cmpR _ _ _ _ _ _ _ _ op_isN (pv 4) pe_non (nomark _)) (@pss_one _ _ _ (@ps_ret _ _ _ _ (@pe_cmpR _ _ _ _ _ _ _ _ op_gt (@pe_op _ _ _ _ _ _ _ _ op_mulB (@pe_ix _ _ _ _ _ _ _ ix_tup (pv 0) pe_int (fun _ _ => rfl)) (pv 3)) (@pe_op _ _ _ _ _ _ _ _ op_mulB (pv 2) (pv 5)) (nomark _)))) pss_nil)
  (pss_forget 6 (@pss_cons _ _ _ _ _ (@ps_if _ _ _ _ _ _ _ _ (PW.pt (@pw_or _ _ _ _ _ _ _ (@pt_cmpR _ _ _ _ _ _ _ _ op_gt (@pe_op _ _ _ _ _ _ _ _ op_mulB (@pe_ix _ _ _ _ _ _ _ ix_tup (pv 0) pe_int (fun _ _ => rfl)) (pv 3)) (@pe_op _ _ _ _ _ _ _ _ op_mulB (pv 2) (pv 5)) (nomark _)) (@pw_or1 _ _ _ _ (@pt_cmpR _ _ _ _ _ _ _ _ (op_neD hr.units) (pe_ren ["_law_tally", "_law_stream_here", "_law_top", "_law_bottom", "_law_found", "_law_all_things", "#6", "_law_is_above"] (pe_comp (own := ["_law_mark"]) (CompOk.of rfl rfl (by rfl) (by rfl) (by rfl)) (pi_list (@pe_ix _ _ _ _ _ _ _ ix_tup (pv 4) pe_int (fun _ _ => rfl)))
    (fun _ _ _ _ _ => (pg_name (i := 0) nd_l_right_145_67 rfl (Or.inl rfl) (Or.inr rfl))) (fun _ _ _ _ _ => (pts_one (@pt_cmpR _ _ _ _ _ _ _ _ (op_in_seqK K rfl) (pv 0) (@pe_ix _ _ _ _ _ _ _ (ix_tupK K rfl) (pv 5) pe_int (fun _ _ => rfl)) (by with_unfolding_all rfl))))
    (fun _ _ _ _ _ => (pv 0)))) (@pe_lst _ _ _ _ pa_nil) (nomark _))))) (@pss_one _ _ _ (@ps_ret _ _ _ _ pe_bl)) pss_nil)
  (@pss_cons _ _ _ _ _ (ps_for PassesOwn.never rfl (pi_list (pe_callB (call_sortSS rfl) rfl z_sorted PyProof.Rows.boot_sorted (@pa_cons _ _ _ _ _ (pe_callTy (call_setT rfl) rfl z_set PyProof.Rows.boot_set (@pa_cons _ _ _ _ _ (@pe_op _ _ _ _ _ _ _ _ op_cat (@pe_op _ _ _ _ _ _ _ _ op_cat (pe_comp (own := ["_law_thing_here"]) (CompOk.of rfl rfl (by rfl) (by rfl) (by rfl)) (pi_list (pv 1))
    (fun _ _ _ _ _ => (pg_name (i := 0) nd_l_right_147_32 rfl (Or.inl rfl) (Or.inr rfl))) (fun _ _ _ _ _ => pts_nil)
    (fun _ _ _ _ _ => (@pe_ix _ _ _ _ _ _ _ (ix_tupK K rfl) (pv 0) pe_int (fun _ _ => rfl)))) (@pe_ix _ _ _ _ _ _ _ ix_tup (pv 4) pe_int (fun _ _ => rfl))) (@pe_ix _ _ _ _ _ _ _ ix_tup (pv 4) pe_int (fun _ _ => rfl))) pa_nil (by rfl))) pa_nil (by rfl)))) (pg_name (i := 6) sc_l_right.nd rfl (Or.inl rfl))
  (@pss_cons _ _ _ _ _ (@ps_set _ _ 7 _ _ _ _ sc_l_right.nd rfl (Or.inl rfl) (@pe_cmpR _ _ _ _ _ _ _ _ op_gt (@pe_op _ _ _ _ _ _ _ _ op_mulB (pe_callH h_l_times hr (@pa_cons _ _ _ _ _ (pv 1) (@pa_cons _ _ _ _ _ (pv 6) pa_nil (by rfl)) (by rfl))) (pv 3)) (@pe_op _ _ _ _ _ _ _ _ op_mulB (pv 2) (pv 5)) (nomark _)) (by rfl) (by first | exact .inl rfl | exact .inr rfl))
  (@pss_one _ _ _ (@ps_if _ _ _ _ _ _ _ _ (PW.pt (@pw_or _ _ _ _ _ _ _ (PW.pt (@pw_and _ _ _ _ _ _ _ (@pt_cmpR _ _ _ _ _ _ _ _ op_in_seq (pv 6) (@pe_ix _ _ _ _ _ _ _ ix_tup (pv 4) pe_int (fun _ _ => rfl)) (by with_unfolding_all rfl)) (@pw_and1 _ _ _ _ (@pt_not _ _ _ _ (pt_val (pv 7)))))) (@pw_or1 _ _ _ _ (PW.pt (@pw_and _ _ _ _ _ _ _ (pt_val (pv 7)) (@pw_and1 _ _ _ _ (@pt_cmpR _ _ _ _ _ _ _ _ op_notIn_seq (pv 6) (@pe_op _ _ _ _ _ _ _ _ op_cat (@pe_ix _ _ _ _ _ _ _ ix_tup (pv 4) pe_int (fun _ _ => rfl)) (@pe_ix _ _ _ _ _ _ _ ix_tup (pv 4) pe_int (fun _ _ => rfl))) (by with_unfolding_all rfl)))))))) (@pss_one _ _ _ (@ps_ret _ _ _ _ pe_bl)) pss_nil))))
  (@pss_one _ _ _ (@ps_ret _ _ _ _ pe_bl)))))))), ?_⟩
  have gg : Same H H := Same.refl _
  have si := hld_sized hh t0 t1 t2
  obtain ⟨m1, m2, m3⟩ := sz si
  have tl := hh.len
  have ll := hh.le
  have tot := hh.tot
  have et : ((ts.filter fun _ => true).map fun t => V.int t.many) = (ts.map Th.many).map V.int := by
    rw [List.filter_eq_self.mpr (fun _ _ => rfl), List.map_map]
    rfl
  have em : (ts.map Th.many).sum = y.total := hh.tot.symm
  refine ⟨_, rfl, _, rfl, _, rfl, r, y, top, bot, rfl, k_y, si, t0, t1, fun le p l1 l2 H1 g1 e_p e_1 e_2 => ?_, fun lt H1 g1 => ?_⟩
  · have g0 := g1
    have gg := gg.trans g1
    have k_y := k_y.mono g1
    have k_s := k_s.mono g1
    obtain ⟨_, xs, e0, e_s, k_d⟩ := DV.list_inv k_s
    cases e0
    refine ⟨_, rfl, s0, rfl, ⟨_, SqL.of e_s⟩, comp_stream (fun _ => true) (fun t => .int t.many) e_s k_d (by omega) ?_ ?_⟩
    · rintro t c ys C mt ec h1 _
      exact ⟨Wk.refl _, _, rfl, _, _, _, _, rfl, rfl, SqT.of ec, rfl, h1 rfl⟩
    rw [et]
    intro tp n_tp
    generalize hz : upd _ tp _ = H2
    have gz := laid_same hz n_tp
    have e_tp := laid_at hz
    clear hz
    have gg := gg.trans gz
    have k_y := k_y.mono gz
    have k_s := k_s.mono gz
    have k_d := k_d.mono gz
    have e_s := gz _ _ e_s
    have e_p := gz _ _ e_p
    have e_1 := gz _ _ e_1
    have e_2 := gz _ _ e_2
    refine ⟨tp, ts.map Th.many, rfl, SqL.of e_tp, ?_⟩
    rw [em]
    obtain ⟨_, b, rows, e0, e_r, e_b, pa⟩ := DV.ty_inv k_y
    cases e0
    have nd := hh.ok.nd
    refine ⟨_, rfl, rfl, _, rfl, ?_⟩
    rw [decide_eq_false (fun z => nomatch z)]
    refine iteF ?_
    refine ⟨_, rfl, _, _, _, _, rfl, rfl, SqT.of e_r, rfl, _, rfl, _, _, rfl, rfl, m2, _, rfl, _, rfl, _, _, rfl, rfl, m1, _, _, rfl, rfl, _, rfl, ?_⟩
    rw [decide_eq_false (by omega)]
    refine iteF ?_
    refine ⟨⟨.inl rfl, .inl rfl, .inl rfl, .inl rfl, .inl rfl, .inl rfl, .inr rfl, .inl rfl, trivial⟩, _, rfl, _, _, _, _, rfl, rfl, SqT.of e_p, rfl, l1, rfl, ⟨_, SqL.of e_1⟩, ?_⟩
    refine comp_list (xs := (sure y top bot).map V.str) (fun n ys H' => ys = [] ∧ H' = H2) ⟨rfl, rfl⟩ ?_ ?_ ?_
    · rintro n ys H' _ ⟨rfl, rfl⟩
      exact SqL.of e_1
    · rintro n x ys H' C hx ⟨rfl, rfl⟩ hC
      obtain ⟨z, hz, rfl⟩ := List.mem_map.mp (List.mem_of_getElem? hx)
      have h1 := sure_in nd hz
      refine ⟨small_lt (by decide), Wk.refl _, _, rfl, _, rfl, _, _, _, _, rfl, rfl, SqT.of e_p, rfl, l2, _, rfl, .inl (SqL.of e_2), rfl, flat_keys _, _, rfl, ?_⟩
      rw [if_neg (by decide), notin_keys (fun h => by have := opens_in nd h; omega)]
      exact iteF (hC _ _ ⟨rfl, rfl⟩)
    rintro ys H' ⟨rfl, rfl⟩
    refine ⟨small_le (by decide), ?_⟩
    intro q1 n_q1
    generalize hz : upd _ q1 _ = H3
    have gz := laid_same hz n_q1
    have e_q1 := laid_at hz
    clear hz
    have gg := gg.trans gz
    have k_s := k_s.mono gz
    have k_d := k_d.mono gz
    have e_s := gz _ _ e_s
    have e_p := gz _ _ e_p
    have e_1 := gz _ _ e_1
    have e_2 := gz _ _ e_2
    refine ⟨leN rfl, ?_⟩
    intro q2 n_q2
    generalize hz : upd _ q2 _ = H4
    have gz := laid_same hz n_q2
    have e_q2 := laid_at hz
    clear hz
    have gg := gg.trans gz
    have k_s := k_s.mono gz
    have k_d := k_d.mono gz
    have e_s := gz _ _ e_s
    have e_p := gz _ _ e_p
    have e_1 := gz _ _ e_1
    have e_2 := gz _ _ e_2
    have e_q1 := gz _ _ e_q1
    refine ⟨.list [], .list [], .lst e_q1 .nil, .lst e_q2 .nil, rfl, rfl, _, rfl, ?_⟩
    have e00 : PyData.eqv (.list []) (.list []) = true := by decide +kernel
    rw [e00]
    refine iteF ?_
    refine ⟨_, rfl, s0, rfl, ⟨_, SqL.of e_s⟩, comp_stream (fun _ => true) (fun t => .str t.word) e_s k_d (by omega) ?_ ?_⟩
    · rintro t c ys C mt ec h1 _
      exact ⟨Wk.refl _, _, rfl, _, _, _, _, rfl, rfl, SqT.of ec, rfl, h1 rfl⟩
    have ew : ((ts.filter fun _ => true).map fun t => V.str t.word) = (ts.map Th.word).map V.str := by
      rw [List.filter_eq_self.mpr (fun _ _ => rfl), List.map_map]
      rfl
    rw [ew]
    intro wp n_wp
    generalize hz : upd _ wp _ = H5
    have gz := laid_same hz n_wp
    have e_wp := laid_at hz
    clear hz
    have gg := gg.trans gz
    have k_s := k_s.mono gz
    have e_p := gz _ _ e_p
    have e_1 := gz _ _ e_1
    have e_2 := gz _ _ e_2
    have wl : (ts.map Th.word).length ≤ 100 := by rw [List.length_map]; exact tl
    have cl := si.len
    have sl : (sure y top bot).length ≤ 50 := by
      unfold sure
      rw [List.length_map]
      exact Nat.le_trans (List.length_filter_le _ _) cl
    have ol : (opens y top bot).length ≤ 50 := by
      unfold opens
      rw [List.length_map]
      exact Nat.le_trans (List.length_filter_le _ _) cl
    refine ⟨_, rfl, _, _, _, _, rfl, rfl, SqT.of e_p, rfl, wp, l1, _, _, rfl, rfl, e_wp, e_1, small_le (by simp only [List.length_map, List.length_append]; omega), ?_⟩
    rw [← List.map_append]
    intro c1 n_c1
    generalize hz : upd _ c1 _ = H6
    have gz := laid_same hz n_c1
    have e_c1 := laid_at hz
    clear hz
    have gg := gg.trans gz
    have k_s := k_s.mono gz
    have e_p := gz _ _ e_p
    have e_1 := gz _ _ e_1
    have e_2 := gz _ _ e_2
    refine ⟨_, rfl, _, _, _, _, rfl, rfl, SqT.of e_p, rfl, c1, l2, _, _, rfl, rfl, e_c1, e_2, small_le (by simp only [List.length_map, List.length_append]; omega), ?_⟩
    rw [← List.map_append]
    intro c2 n_c2
    generalize hz : upd _ c2 _ = H7
    have gz := laid_same hz n_c2
    have e_c2 := laid_at hz
    clear hz
    have gg := gg.trans gz
    have k_s := k_s.mono gz
    have e_p := gz _ _ e_p
    have e_1 := gz _ _ e_1
    have e_2 := gz _ _ e_2
    refine ⟨c2, _, rfl, SqL.of e_c2, by rw [List.length_append, List.length_append]; omega, ?_⟩
    have ul : (uniS (ts.map Th.word ++ sure y top bot ++ opens y top bot)).length ≤ words.length := nodup_len _ _ (uniS_nd _) fun x hx => by
      rcases List.mem_append.mp (uniS_mem.mp hx) with hx | hx
      · rcases List.mem_append.mp hx with hx | hx
        · obtain ⟨u, hu, rfl⟩ := List.mem_map.mp hx
          exact (hh.w u hu).1
        · obtain ⟨u, hu, rfl⟩ := List.mem_map.mp hx
          exact hh.ok.word u (List.mem_filter.mp hu).1
      · obtain ⟨u, hu, rfl⟩ := List.mem_map.mp hx
        exact hh.ok.word u (List.mem_filter.mp hu).1
    have wl26 : words.length = 26 := by decide +kernel
    generalize uniS (ts.map Th.word ++ sure y top bot ++ opens y top bot) = zs at ul ⊢
    intro sp n_sp
    generalize hz : upd _ sp _ = H8
    have gz := laid_same hz n_sp
    have e_sp := laid_at hz
    clear hz
    have gg := gg.trans gz
    have k_s := k_s.mono gz
    have e_p := gz _ _ e_p
    have e_1 := gz _ _ e_1
    have e_2 := gz _ _ e_2
    refine ⟨sp, zs, rfl, e_sp, by omega, ?_⟩
    intro lp n_lp
    generalize hz : upd _ lp _ = H9
    have gz := laid_same hz n_lp
    have e_lp := laid_at hz
    clear hz
    have gg := gg.trans gz
    have k_s := k_s.mono gz
    have e_p := gz _ _ e_p
    have e_1 := gz _ _ e_1
    have e_2 := gz _ _ e_2
    refine ⟨lp, rfl, ⟨_, SqL.of e_lp⟩, ?_⟩
    refine for_list (xs := (srtS zs).map V.str) (fun j σ H' => ∃ (o6 o7 : Option V), σ = [some (.ref r), some (.ref s0), some (.int top), some (.int bot), some (.ref p), some (.int y.total), o6, o7] ∧ Same H9 H') ⟨_, _, rfl, Same.refl _⟩ ?_ ?_ ?_
    · rintro i σ H' _ ⟨_, _, _, g⟩
      exact SqL.of (g _ _ e_lp)
    · rintro i x σ H10 hx ⟨o6, o7, rfl, gj⟩
      obtain ⟨z, _, rfl⟩ := List.mem_map.mp (List.mem_of_getElem? hx)
      refine ⟨_, rfl, _, rfl, s0, ts, z, rfl, k_s.mono gj, by omega, fun H11 g11 => ?_⟩
      have gj := gj.trans g11
      have tn : 0 ≤ timesT z ts ∧ timesT z ts ≤ totT ts := ⟨Int.le_trans (look_nn hh.ok.pos z) (hh.bnd z).1, times_le hh.w⟩
      have mt : CMulB (timesT z ts) bot := by
        have e : big = 1000000000000000000000000000000000000000000000000000000000000000000000000000000 := rfl
        unfold CMulB
        rw [e]
        exact ⟨⟨by omega, by omega⟩, by omega, by omega⟩
      refine ⟨_, rfl, _, _, rfl, rfl, mt, _, rfl, _, rfl, _, _, rfl, rfl, m1, _, _, rfl, rfl, ?_⟩
      obtain ⟨n1, n2⟩ := told_all hh t0 t1 le z
      refine ⟨_, rfl, _, rfl, _, _, _, _, rfl, rfl, SqT.of (gj _ _ e_p), rfl, l1, _, rfl, .inl (SqL.of (gj _ _ e_1)), rfl, flat_keys _, _, rfl, ?_⟩
      by_cases hz : z ∈ sure y top bot
      · have ab := n1 hz
        rw [if_neg (by decide), in_keys hz]
        refine iteT ⟨_, rfl, _, rfl, ?_⟩
        rw [decide_eq_true ab]
        refine iteF ?_
        refine ⟨_, rfl, _, rfl, ?_⟩
        rw [decide_eq_true ab]
        refine iteT ⟨_, rfl, _, rfl, _, _, _, _, rfl, rfl, SqT.of (gj _ _ e_p), rfl, _, rfl, _, _, _, _, rfl, rfl, SqT.of (gj _ _ e_p), rfl, l1, l2, _, _, rfl, rfl, gj _ _ e_1, gj _ _ e_2, small_le (by simp only [List.length_map, List.length_append]; omega), fun cc ncc => ?_⟩
        rw [← List.map_append]
        refine ⟨cc, _, rfl, .inl (SqL.of upd_same), rfl, flat_keys _, _, rfl, ?_⟩
        rw [if_pos rfl, in_keys (n2 ab)]
        exact iteF ⟨_, _, rfl, gj.trans (same_laid ncc _)⟩
      · rw [if_neg (by decide), notin_keys hz]
        refine iteF (iteF ?_)
        by_cases ab : top * y.total < timesT z ts * bot
        · refine ⟨_, rfl, _, rfl, ?_⟩
          rw [decide_eq_true ab]
          refine iteT ⟨_, rfl, _, rfl, _, _, _, _, rfl, rfl, SqT.of (gj _ _ e_p), rfl, _, rfl, _, _, _, _, rfl, rfl, SqT.of (gj _ _ e_p), rfl, l1, l2, _, _, rfl, rfl, gj _ _ e_1, gj _ _ e_2, small_le (by simp only [List.length_map, List.length_append]; omega), fun cc ncc => ?_⟩
          rw [← List.map_append]
          refine ⟨cc, _, rfl, .inl (SqL.of upd_same), rfl, flat_keys _, _, rfl, ?_⟩
          rw [if_pos rfl, in_keys (n2 ab)]
          exact iteF ⟨_, _, rfl, gj.trans (same_laid ncc _)⟩
        · refine ⟨_, rfl, _, rfl, ?_⟩
          rw [decide_eq_false ab]
          exact iteF (iteF ⟨_, _, rfl, gj⟩)
    · rintro σ H10 ⟨o6, o7, rfl, gj⟩
      exact hq _ (gg.trans gj)
  · have g0 := g1
    have gg := gg.trans g1
    have k_y := k_y.mono g1
    have k_s := k_s.mono g1
    obtain ⟨_, xs, e0, e_s, k_d⟩ := DV.list_inv k_s
    cases e0
    refine ⟨_, rfl, s0, rfl, ⟨_, SqL.of e_s⟩, comp_stream (fun _ => true) (fun t => .int t.many) e_s k_d (by omega) ?_ ?_⟩
    · rintro t c ys C mt ec h1 _
      exact ⟨Wk.refl _, _, rfl, _, _, _, _, rfl, rfl, SqT.of ec, rfl, h1 rfl⟩
    rw [et]
    intro tp n_tp
    generalize hz : upd _ tp _ = H2
    have gz := laid_same hz n_tp
    have e_tp := laid_at hz
    clear hz
    have gg := gg.trans gz
    have k_y := k_y.mono gz
    have k_s := k_s.mono gz
    refine ⟨tp, ts.map Th.many, rfl, SqL.of e_tp, ?_⟩
    rw [em]
    obtain ⟨_, b, rows, e0, e_r, e_b, pa⟩ := DV.ty_inv k_y
    cases e0
    refine ⟨_, rfl, rfl, _, rfl, iteT ?_⟩
    refine ⟨_, rfl, _, _, _, _, rfl, rfl, SqT.of e_r, rfl, _, rfl, _, _, rfl, rfl, m2, _, rfl, _, rfl, _, _, rfl, rfl, m1, _, _, rfl, rfl, ?_⟩
    show Q (.bl (decide (top * y.total < y.lt * bot))) _
    rw [decide_eq_true lt]
    exact hq _ gg
end
end K13

namespace K13
open PySem L2
/-- shares, as pairs -/
def ShAt (H : Hp) (vs : List V) : Prop := ∀ v ∈ vs, ∃ (q : Addr) (top bot : Int), v = .ref q ∧ H q = some (.tup [.int top, .int bot]) ∧ 0 ≤ top ∧ top < bot ∧ bot ≤ 1000000000000
theorem ShAt.mono {H H' : Hp} {vs : List V} (h : ShAt H vs) (g : Same H H') : ShAt H' vs := fun v hv => by
  obtain ⟨q, top, bot, e, eq, r⟩ := h v hv
  exact ⟨q, top, bot, e, g _ _ eq, r⟩
theorem ShAt.cons {H : Hp} {vs : List V} {q : Addr} {top bot : Int} (e : H q = some (.tup [.int top, .int bot])) (h0 : 0 ≤ top) (h1 : top < bot) (h2 : bot ≤ 1000000000000) (h : ShAt H vs) : ShAt H (.ref q :: vs) := fun v hv => by
  rcases List.mem_cons.mp hv with rfl | hv
  · exact ⟨q, top, bot, rfl, e, h0, h1, h2⟩
  · exact h v hv
theorem ShAt.app {H : Hp} {vs us : List V} (h : ShAt H vs) (g : ShAt H us) : ShAt H (vs ++ us) := fun v hv => (List.mem_append.mp hv).elim (h v) (g v)
theorem hld_of {room : Int} (r0 : 1 ≤ room) (r1 : room ≤ 20) {t : Tr} (h : TrB t) : Hld (grownT room t) t.all :=
  ⟨(grown_okW r0 r1 h.w).1, grown_total room t, fun z => grown_bounds r0 r1 z h.w, all_W h.w, h.len, h.tot⟩
section
variable {P : Program} {w : World} {K : PySem.W.Frag} {mg : Str → Option Value} {base : Heap} {f : Addr} {fd : FuncData}
theorem ok_law {T : Addr} (h_l_pen : Has P w K mg base "_law_pen" 1 ["_law_script", "_law_k"] (spPen K)) (h_l_draw : Has P w K mg base "_law_draw" 1 ["_law_pen_here", "_law_size"] spDraw) (h_l_room : Has P w K mg base "_law_room" 2 ["_law_pen_here"] spRoom)
    (h_l_tree : Has P w K mg base "_law_tree" 12 ["_law_pen_here", "_law_marks", "_law_deep", "_law_most", "_law_parts"] (spTree 8)) (h_l_stream_of : Has P w K mg base "_law_stream_of" 30 ["_law_tree_here"] (spLSO 30))
    (h_l_times : Has P w K mg base "_law_times" 1 ["_law_stream_here", "_law_mark"] spTimes) (h_l_heavy : Has P w K mg base "_law_heavy" 31 ["_law_pen_here", "_law_tree_here"] spHeavy) (h_l_told : Has P w K mg base "_law_told" 2 ["_law_tally", "_law_top", "_law_bottom"] spTold)
    (h_l_right : Has P w K mg base "_law_right" 3 ["_law_tally", "_law_stream_here", "_law_top", "_law_bottom"] spRight)
    (h_grown_tally : Has P w K mg base "grown_tally" 7 ["room", "tree"] (spGT T)) (z_range : mg "range" = none) (z_sum : mg "sum" = none)
    (F : Fun K "law" "law" s_law f fd) : FnOk P w K mg base CX0 33 f fd ["_law_script"] (spLaw K T) := by
  refine F.ok sc_law (fun vs H Q E h => ?_) (fun cdv A outer s H vs Q E hr h => ?_)
  · obtain ⟨a, ns, rfl, _⟩ := h
    rfl
  obtain ⟨s0, ns, rfl, hs, hl, lam, hq⟩ := h
  refine ⟨_, (@pss_cons _ _ _ _ _ (ps_for PassesOwn.never rfl (pi_range1 rfl z_range (@pa_cons _ _ _ _ _ pe_int pa_nil (by rfl))) (pg_name (i := 1) sc_law.nd rfl (Or.inl rfl))
  (@pss_cons _ _ _ _ _ (@ps_set _ _ 2 _ _ _ _ sc_law.nd rfl (Or.inl rfl) (pe_callH h_l_pen hr (@pa_cons _ _ _ _ _ (pv 0) (@pa_cons _ _ _ _ _ (pv 1) pa_nil (by rfl)) (by rfl))) (by rfl) (by first | exact .inl rfl | exact .inr rfl))
  (@pss_cons _ _ _ _ _ (@ps_set _ _ 3 _ _ _ _ sc_law.nd rfl (Or.inl rfl) (pe_callH h_l_room hr (@pa_cons _ _ _ _ _ (pv 2) pa_nil (by rfl))) (by rfl) (by first | exact .inl rfl | exact .inr rfl))
  (@pss_cons _ _ _ _ _ (@ps_set _ _ 4 _ _ _ _ sc_law.nd rfl (Or.inl rfl) (pe_callH h_l_tree hr (@pa_cons _ _ _ _ _ (pv 2) (@pa_cons _ _ _ _ _ (@pe_ix _ _ _ _ _ _ _ ix_list (@pe_lst _ _ _ _ (@pa_cons _ _ _ _ _ pe_int (@pa_cons _ _ _ _ _ pe_int (@pa_cons _ _ _ _ _ pe_int pa_nil (by rfl)) (by rfl)) (by rfl))) (pe_callH h_l_draw hr (@pa_cons _ _ _ _ _ (pv 2) (@pa_cons _ _ _ _ _ pe_int pa_nil (by rfl)) (by rfl))) (fun _ _ => rfl)) (@pa_cons _ _ _ _ _ pe_int (@pa_cons _ _ _ _ _ pe_int (@pa_cons _ _ _ _ _ (@pe_op _ _ _ _ _ _ _ _ op_add pe_int (pe_callH h_l_draw hr (@pa_cons _ _ _ _ _ (pv 2) (@pa_cons _ _ _ _ _ pe_int pa_nil (by rfl)) (by rfl)))) pa_nil (by rfl)) (by rfl)) (by rfl)) (by rfl)) (by rfl))) (by rfl) (by first | exact .inl rfl | exact .inr rfl))
  (@pss_cons _ _ _ _ _ (@ps_set _ _ 4 _ _ _ _ sc_law.nd rfl (Or.inl rfl) (pe_callH h_l_heavy hr (@pa_cons _ _ _ _ _ (pv 2) (@pa_cons _ _ _ _ _ (pv 4) pa_nil (by rfl)) (by rfl))) (by rfl) (by first | exact .inl rfl | exact .inr rfl))
  (@pss_cons _ _ _ _ _ (@ps_set _ _ 5 _ _ _ _ sc_law.nd rfl (Or.inl rfl) (pe_callH h_l_stream_of hr (@pa_cons _ _ _ _ _ (pv 4) pa_nil (by rfl))) (by rfl) (by first | exact .inl rfl | exact .inr rfl))
  (@pss_cons _ _ _ _ _ (@ps_set _ _ 6 _ _ _ _ sc_law.nd rfl (Or.inl rfl) (pe_callH h_grown_tally hr (@pa_cons _ _ _ _ _ (pv 3) (@pa_cons _ _ _ _ _ (pv 4) pa_nil (by rfl)) (by rfl))) (by rfl) (by first | exact .inl rfl | exact .inr rfl))
  (pss_forget 9 (@pss_cons _ _ _ _ _ (@ps_set _ _ 7 _ _ _ _ sc_law.nd rfl (Or.inl rfl) (pe_callB (call_sum rfl) rfl z_sum PyProof.Rows.boot_sum (@pa_cons _ _ _ _ _ (pe_ren ["_law_script", "_law_k", "_law_pen_here", "_law_room_here", "_law_tree_here", "_law_stream_here", "_law_tally", "_law_all_things", "_law_shares", "#9", "_law_times_here", "_law_top", "_law_bottom"] (pe_comp (own := ["_law_thing_here"]) (CompOk.of rfl rfl (by rfl) (by rfl) (by rfl)) (pi_list (pv 5))
    (fun _ _ _ _ _ => (pg_name (i := 0) nd_law_160_30 rfl (Or.inl rfl) (Or.inr rfl))) (fun _ _ _ _ _ => pts_nil)
    (fun _ _ _ _ _ => (@pe_ix _ _ _ _ _ _ _ (ix_tupK K rfl) (pv 0) pe_int (fun _ _ => rfl))))) pa_nil (by rfl))) (by rfl) (by first | exact .inl rfl | exact .inr rfl))
  (@pss_cons _ _ _ _ _ (@ps_set _ _ 8 _ _ _ _ sc_law.nd rfl (Or.inl rfl) (@pe_lst _ _ _ _ (@pa_cons _ _ _ _ _ (@pe_tup _ _ _ _ _ (@pa_cons _ _ _ _ _ pe_int (@pa_cons _ _ _ _ _ (@pe_op _ _ _ _ _ _ _ _ op_add (pv 3) pe_int) pa_nil (by rfl)) (by rfl))) (@pa_cons _ _ _ _ _ (@pe_tup _ _ _ _ _ (@pa_cons _ _ _ _ _ pe_int (@pa_cons _ _ _ _ _ pe_int pa_nil (by rfl)) (by rfl))) (@pa_cons _ _ _ _ _ (@pe_tup _ _ _ _ _ (@pa_cons _ _ _ _ _ pe_int (@pa_cons _ _ _ _ _ pe_int pa_nil (by rfl)) (by rfl))) (@pa_cons _ _ _ _ _ (@pe_tup _ _ _ _ _ (@pa_cons _ _ _ _ _ pe_int (@pa_cons _ _ _ _ _ pe_int pa_nil (by rfl)) (by rfl))) (@pa_cons _ _ _ _ _ (@pe_tup _ _ _ _ _ (@pa_cons _ _ _ _ _ (pe_callH h_l_draw hr (@pa_cons _ _ _ _ _ (pv 2) (@pa_cons _ _ _ _ _ pe_int pa_nil (by rfl)) (by rfl))) (@pa_cons _ _ _ _ _ (@pe_op _ _ _ _ _ _ _ _ op_add pe_int (pe_callH h_l_draw hr (@pa_cons _ _ _ _ _ (pv 2) (@pa_cons _ _ _ _ _ pe_int pa_nil (by rfl)) (by rfl)))) pa_nil (by rfl)) (by rfl))) pa_nil (by rfl)) (by rfl)) (by rfl)) (by rfl)) (by rfl))) (by rfl) (by first | exact .inl rfl | exact .inr rfl))
  (@pss_cons _ _ _ _ _ (ps_for PassesOwn.never rfl (pi_list (pe_slice sl_list (pv 5) po_none (po_some pe_int))) (pg_name (i := 9) sc_law.nd rfl (Or.inl rfl))
  (@pss_cons _ _ _ _ _ (@ps_set _ _ 10 _ _ _ _ sc_law.nd rfl (Or.inl rfl) (pe_callH h_l_times hr (@pa_cons _ _ _ _ _ (pv 5) (@pa_cons _ _ _ _ _ (@pe_ix _ _ _ _ _ _ _ ix_tup (pv 9) pe_int (fun _ _ => rfl)) pa_nil (by rfl)) (by rfl))) (by rfl) (by first | exact .inl rfl | exact .inr rfl))
  (@pss_one _ _ _ (@ps_if _ _ _ _ _ _ _ _ (@pt_cmpR _ _ _ _ _ _ _ _ op_lt (pv 10) (pv 7) (nomark _)) (@pss_one _ _ _ (@ps_set _ _ 8 _ _ _ _ sc_law.nd rfl (Or.inl rfl) (@pe_op _ _ _ _ _ _ _ _ op_cat (pv 8) (@pe_lst _ _ _ _ (@pa_cons _ _ _ _ _ (@pe_tup _ _ _ _ _ (@pa_cons _ _ _ _ _ (pv 10) (@pa_cons _ _ _ _ _ (pv 7) pa_nil (by rfl)) (by rfl))) (@pa_cons _ _ _ _ _ (@pe_tup _ _ _ _ _ (@pa_cons _ _ _ _ _ (@pe_op _ _ _ _ _ _ _ _ op_sub (pv 10) pe_int) (@pa_cons _ _ _ _ _ (pv 7) pa_nil (by rfl)) (by rfl))) pa_nil (by rfl)) (by rfl)))) (by rfl) (by first | exact .inl rfl | exact .inr rfl))) pss_nil))))
  (@pss_cons _ _ _ _ _ (ps_for PassesOwn.never rfl (pi_list (pv 8)) (pg_tup rfl (pgs_cons (pg_name (i := 11) sc_law.nd rfl (Or.inl rfl)) (pgs_cons (pg_name (i := 12) sc_law.nd rfl (Or.inl rfl)) pgs_nil)))
  (@pss_one _ _ _ (@ps_if _ _ _ _ _ _ _ _ (@pt_not _ _ _ _ (pt_val (pe_callH h_l_right hr (@pa_cons _ _ _ _ _ (pv 6) (@pa_cons _ _ _ _ _ (pv 5) (@pa_cons _ _ _ _ _ (pv 11) (@pa_cons _ _ _ _ _ (pv 12) pa_nil (by rfl)) (by rfl)) (by rfl)) (by rfl))))) (@pss_one _ _ _ (@ps_ret _ _ _ _ pe_bl)) pss_nil)))
  (@pss_one _ _ _ (@ps_if _ _ _ _ _ _ _ _ (@pt_cmpR _ _ _ _ _ _ _ _ op_isN (pe_callH h_l_told hr (@pa_cons _ _ _ _ _ (pv 6) (@pa_cons _ _ _ _ _ pe_int (@pa_cons _ _ _ _ _ (@pe_op _ _ _ _ _ _ _ _ op_add (pv 3) pe_int) pa_nil (by rfl)) (by rfl)) (by rfl))) pe_non (nomark _)) (@pss_one _ _ _ (@ps_ret _ _ _ _ pe_bl)) pss_nil))))))))))))))
  (@pss_one _ _ _ (@ps_ret _ _ _ _ pe_bl))), ?_⟩
  refine ⟨3, rfl, leI rfl, ltI rfl, ?_⟩
  refine for_range (lo := 0) (n := 3) (fun i σ H' => ∃ (o : List (Option V)), σ = some (.ref s0) :: o ∧ o.length = 12 ∧ Wd T K s0 (ns.map V.int) H') ⟨_, rfl, rfl, lam, hs⟩ ?_ ?_
  · rintro i σ H0 hi ⟨o, rfl, ol, k_w⟩
    match o, ol with
    | [o1, o2, o3, o4, o5, o6, o7, o8, o9, o10, o11, o12], _ =>
    refine ⟨_, rfl, _, rfl, s0, ns, _, rfl, k_w.scr, by omega, fun a H1 na s1 hp => ?_⟩
    have k_w := k_w.mono (same_hid na s1)
    have gg : Grw a H1 H1 := Same.refl _
    refine ⟨_, rfl, a, rfl, hp, fun room H2 r0 r1 hp g2 => ?_⟩
    have gg := gg.trans g2
    have k_w := k_w.mono g2
    refine ⟨_, rfl, leN rfl, ?_⟩
    intro q1 n_q1
    generalize hz : upd _ q1 _ = H3
    obtain ⟨hp, gz, ne_q1, e_q1⟩ := laid_pen hz n_q1 hp
    clear hz
    have gg := gg.trans gz
    have k_w := k_w.mono gz
    refine ⟨_, rfl, a, 3, rfl, hp, posI rfl, ltI rfl, fun d1 H4 x0 x1 hp g4 => ?_⟩
    have gg := gg.trans g4
    have k_w := k_w.mono g4
    have e_q1 := g4 _ _ e_q1
    obtain ⟨u, hu, mu⟩ := pick e_q1 x0 x1
    refine ⟨q1, _, _, _, rfl, rfl, hSqL e_q1, hu, ?_⟩
    have hm : ∃ m : Int, u = .int m ∧ 0 < m ∧ m < 1073741824 := by
      simp only [List.mem_cons, List.not_mem_nil, or_false] at mu
      rcases mu with rfl | rfl | rfl
      · exact ⟨3, rfl, by decide, by decide⟩
      · exact ⟨9, rfl, by decide, by decide⟩
      · exact ⟨26, rfl, by decide, by decide⟩
    obtain ⟨m, rfl, m0, m1⟩ := hm
    refine ⟨_, rfl, a, 8, rfl, hp, posI rfl, ltI rfl, fun d2 H5 y0 y1 hp g5 => ?_⟩
    have gg := gg.trans g5
    have k_w := k_w.mono g5
    refine ⟨_, _, rfl, rfl, a, m, 4, 12, 1 + d2, rfl, hp, m0, m1, by decide, by decide, by decide, by decide, by omega, by omega, by decide, fun v0 t0 H6 tok z1 z2 z3 k_v0 hp g6 => ?_⟩
    have gg := gg.trans g6
    have k_w := k_w.mono g6
    clear hu mu e_q1
    refine ⟨_, rfl, _, rfl, a, v0, t0, rfl, hp, k_v0, tok, by omega, by omega, by omega, fun v t H7 tb k_v hp g7 => ?_⟩
    have gg := gg.trans g7
    have k_w := k_w.mono g7
    have lz := tb.len
    have hz := tb.ht
    have sz := tb.size
    -- its stream
    refine ⟨_, rfl, v, t, rfl, k_v.mono hide_sub, by omega, by omega, fun r H8 s8 _ d8 => ?_⟩
    have g8 := hp.grw s8
    have hp := hp.same s8
    have gg := gg.trans g8
    have k_w := k_w.mono g8
    have k_v := k_v.mono g8
    have k_r := str_hide hp d8
    clear d8
    -- its tally
    refine ⟨_, rfl, _, rfl, v, room, t, rfl, r0, r1, k_v.mono hide_sub, by omega, tb.w, (k_w.mono hide_sub).lam, fun q H10 g10 l10 d10 => ?_⟩
    have hp := pen_T k_w hp g10
    have k_r := dv_T k_w g10 k_r
    have k_w := wd_T k_w g10 hp l10
    have k_q := hp.ty d10
    clear d10
    have gg : Grw a H10 H10 := Same.refl _
    have hh := hld_of r0 r1 tb
    have rm := (grown_okW r0 r1 tb.w).2
    generalize grownT room t = y at hh k_q rm
    generalize t.all = ts at hh k_r
    clear k_v
    have tl := hh.len
    have Wa := hh.w
    -- how many things
    obtain ⟨_, xs, e0, e_r, k_d⟩ := DV.list_inv k_r
    cases e0
    refine ⟨⟨.inl rfl, .inl rfl, .inl rfl, .inl rfl, .inl rfl, .inl rfl, .inl rfl, .inl rfl, .inl rfl, .inr rfl, .inl rfl, .inl rfl, .inl rfl, trivial⟩, _, rfl, r, rfl, ⟨_, hSqL e_r⟩, ?_⟩
    refine comp_stream (fun _ => true) (fun t => .int t.many) (hide_some e_r).2 (k_d.mono hide_sub) (by omega) ?_ ?_
    · rintro t c ys C mt ec h1 _
      exact ⟨Wk.refl _, _, rfl, _, _, _, _, rfl, rfl, SqT.of ec, rfl, h1 rfl⟩
    have et : ((ts.filter fun _ => true).map fun t => V.int t.many) = (ts.map Th.many).map V.int := by
      rw [List.filter_eq_self.mpr (fun _ _ => rfl), List.map_map]
      rfl
    rw [et]
    intro tp n_tp
    generalize hz : upd _ tp _ = H11
    obtain ⟨hp, gz, ne_tp, e_tp⟩ := laid_pen hz n_tp hp
    clear hz
    have gg := gg.trans gz
    have k_w := k_w.mono gz
    have k_r := k_r.mono gz
    have k_q := k_q.mono gz
    have k_d := k_d.mono gz
    have e_r := gz _ _ e_r
    refine ⟨tp, ts.map Th.many, rfl, hSqL e_tp, ?_⟩
    have em : (ts.map Th.many).sum = totT ts := rfl
    rw [em]
    have tle := hh.le
    clear e_tp et
    -- shares
    refine ⟨_, rfl, _, _, rfl, rfl, leN rfl, ?_⟩
    intro p1 n_p1
    generalize hz : upd _ p1 _ = H12
    obtain ⟨hp, gz, ne_p1, e_p1⟩ := laid_pen hz n_p1 hp
    clear hz
    have gg := gg.trans gz
    have k_w := k_w.mono gz
    have k_r := k_r.mono gz
    have k_q := k_q.mono gz
    have k_d := k_d.mono gz
    have e_r := gz _ _ e_r
    refine ⟨leN rfl, ?_⟩
    intro p2 n_p2
    generalize hz : upd _ p2 _ = H13
    obtain ⟨hp, gz, ne_p2, e_p2⟩ := laid_pen hz n_p2 hp
    clear hz
    have gg := gg.trans gz
    have k_w := k_w.mono gz
    have k_r := k_r.mono gz
    have k_q := k_q.mono gz
    have k_d := k_d.mono gz
    have e_r := gz _ _ e_r
    have e_p1 := gz _ _ e_p1
    refine ⟨leN rfl, ?_⟩
    intro p3 n_p3
    generalize hz : upd _ p3 _ = H14
    obtain ⟨hp, gz, ne_p3, e_p3⟩ := laid_pen hz n_p3 hp
    clear hz
    have gg := gg.trans gz
    have k_w := k_w.mono gz
    have k_r := k_r.mono gz
    have k_q := k_q.mono gz
    have k_d := k_d.mono gz
    have e_r := gz _ _ e_r
    have e_p1 := gz _ _ e_p1
    have e_p2 := gz _ _ e_p2
    refine ⟨leN rfl, ?_⟩
    intro p4 n_p4
    generalize hz : upd _ p4 _ = H15
    obtain ⟨hp, gz, ne_p4, e_p4⟩ := laid_pen hz n_p4 hp
    clear hz
    have gg := gg.trans gz
    have k_w := k_w.mono gz
    have k_r := k_r.mono gz
    have k_q := k_q.mono gz
    have k_d := k_d.mono gz
    have e_r := gz _ _ e_r
    have e_p1 := gz _ _ e_p1
    have e_p2 := gz _ _ e_p2
    have e_p3 := gz _ _ e_p3
    refine ⟨_, rfl, a, 9, rfl, hp, posI rfl, ltI rfl, fun d5 H16 b0 b1 hp g16 => ?_⟩
    have gg := gg.trans g16
    have k_w := k_w.mono g16
    have k_r := k_r.mono g16
    have k_q := k_q.mono g16
    have k_d := k_d.mono g16
    have e_r := g16 _ _ e_r
    have e_p1 := g16 _ _ e_p1
    have e_p2 := g16 _ _ e_p2
    have e_p3 := g16 _ _ e_p3
    have e_p4 := g16 _ _ e_p4
    refine ⟨_, rfl, a, 9, rfl, hp, posI rfl, ltI rfl, fun d6 H17 c0 c1 hp g17 => ?_⟩
    have gg := gg.trans g17
    have k_w := k_w.mono g17
    have k_r := k_r.mono g17
    have k_q := k_q.mono g17
    have k_d := k_d.mono g17
    have e_r := g17 _ _ e_r
    have e_p1 := g17 _ _ e_p1
    have e_p2 := g17 _ _ e_p2
    have e_p3 := g17 _ _ e_p3
    have e_p4 := g17 _ _ e_p4
    refine ⟨_, _, rfl, rfl, leN rfl, ?_⟩
    intro p5 n_p5
    generalize hz : upd _ p5 _ = H18
    obtain ⟨hp, gz, ne_p5, e_p5⟩ := laid_pen hz n_p5 hp
    clear hz
    have gg := gg.trans gz
    have k_w := k_w.mono gz
    have k_r := k_r.mono gz
    have k_q := k_q.mono gz
    have k_d := k_d.mono gz
    have e_r := gz _ _ e_r
    have e_p1 := gz _ _ e_p1
    have e_p2 := gz _ _ e_p2
    have e_p3 := gz _ _ e_p3
    have e_p4 := gz _ _ e_p4
    refine ⟨leN rfl, ?_⟩
    intro sp n_sp
    generalize hz : upd _ sp _ = H19
    obtain ⟨hp, gz, ne_sp, e_sp⟩ := laid_pen hz n_sp hp
    clear hz
    have gg := gg.trans gz
    have k_w := k_w.mono gz
    have k_r := k_r.mono gz
    have k_q := k_q.mono gz
    have k_d := k_d.mono gz
    have e_r := gz _ _ e_r
    have e_p1 := gz _ _ e_p1
    have e_p2 := gz _ _ e_p2
    have e_p3 := gz _ _ e_p3
    have e_p4 := gz _ _ e_p4
    have e_p5 := gz _ _ e_p5
    have k_s : ShAt (hide a H19) [.ref p1, .ref p2, .ref p3, .ref p4, .ref p5] :=
      .cons e_p1 (by decide) (by omega) (by omega) (.cons e_p2 (by decide) (by decide) (by decide) (.cons e_p3 (by decide) (by decide) (by decide) (.cons e_p4 (by decide) (by decide) (by decide) (.cons e_p5 b0 (by omega) (by omega) (fun _ h => nomatch h)))))
    have k_w := k_w.mono hide_sub
    have k_r := k_r.mono hide_sub
    have k_q := k_q.mono hide_sub
    have k_d := k_d.mono hide_sub
    have k_s := k_s.mono hide_sub
    have e_r := (hide_some e_r).2
    have e_sp := (hide_some e_sp).2
    clear e_p1 e_p2 e_p3 e_p4 e_p5 gg hp
    have gg : Same H19 H19 := Same.refl _
    refine ⟨_, rfl, 4, rfl, r, xs, rfl, SqL.of e_r, ?_⟩
    intro cp n_cp
    generalize hz : upd _ cp _ = H20
    have gz := laid_same hz n_cp
    have e_cp := laid_at hz
    clear hz
    have gg := gg.trans gz
    have k_w := k_w.mono gz
    have k_r := k_r.mono gz
    have k_q := k_q.mono gz
    have k_d := k_d.mono gz
    have k_s := k_s.mono gz
    have e_r := gz _ _ e_r
    have e_sp := gz _ _ e_sp
    have cl : (cutV xs none (some 4)).length ≤ 100 := by
      have h1 := cutV_length xs none (some 4)
      have h2 := k_d.length
      rw [List.length_map] at h2
      omega
    have cm : ∀ x ∈ cutV xs none (some 4), x ∈ xs := fun x hx => List.mem_of_mem_drop (List.mem_of_mem_take hx)
    generalize cutV xs none (some 4) = cs at cl cm e_cp
    refine ⟨cp, rfl, ⟨_, SqL.of e_cp⟩, ?_⟩
    refine for_list (xs := cs) (fun j σ H' => ∃ (o9 o10 : Option V) (sq : Addr) (vs : List V), σ = [some (.ref s0), some (.int (0 + i)), some (.ref a), some (.int room), some v, some (.ref r), some (.ref q), some (.int (totT ts)), some (.ref sq), o9, o10, o11, o12] ∧ Same H20 H' ∧ H' sq = some (.lst vs) ∧ ShAt H' vs ∧ vs.length ≤ 5 + 2 * j) ⟨_, _, sp, _, rfl, Same.refl _, e_sp, k_s, Nat.le_refl 5⟩ ?_ ?_ ?_
    · rintro j σ H' _ ⟨_, _, _, _, _, g, _⟩
      exact SqL.of (g _ _ e_cp)
    · rintro j x σ H21 hx ⟨o9, o10, sq, vs, rfl, gj, e_q, k_s, vl⟩
      have jl : j < cs.length := (List.getElem?_eq_some_iff.mp hx).1
      obtain ⟨jx, hjx⟩ := List.mem_iff_getElem?.mp (cm x (List.mem_of_getElem? hx))
      obtain ⟨t, c, ht, rfl, e_c, _⟩ := DVs.th_at (k_d.mono gj) hjx
      have tm := List.mem_of_getElem? ht
      refine ⟨_, rfl, _, rfl, _, _, _, _, rfl, rfl, SqT.of e_c, rfl, r, ts, t.word, rfl, k_r.mono gj, by omega, fun H22 g22 => ?_⟩
      have gj := gj.trans g22
      have e_q := g22 _ _ e_q
      have k_s := k_s.mono g22
      have tp := times_pos Wa tm
      refine ⟨_, rfl, _, rfl, _, _, rfl, rfl, _, rfl, ite2 (fun lt => ?_) (fun _ => ⟨_, _, sq, vs, rfl, gj, e_q, k_s, by omega⟩)⟩
      have lt : timesT t.word ts < totT ts := of_decide_eq_true lt
      have gg := gj
      refine ⟨_, rfl, _, rfl, _, rfl, leN rfl, ?_⟩
      intro w1 n_w1
      generalize hz : upd _ w1 _ = H23
      have gz := laid_same hz n_w1
      have e_w1 := laid_at hz
      clear hz
      have gg := gg.trans gz
      have k_s := k_s.mono gz
      have e_q := gz _ _ e_q
      refine ⟨_, rfl, _, _, rfl, rfl, _, rfl, leN rfl, ?_⟩
      intro w2 n_w2
      generalize hz : upd _ w2 _ = H24
      have gz := laid_same hz n_w2
      have e_w2 := laid_at hz
      clear hz
      have gg := gg.trans gz
      have k_s := k_s.mono gz
      have e_q := gz _ _ e_q
      have e_w1 := gz _ _ e_w1
      refine ⟨leN rfl, ?_⟩
      intro w3 n_w3
      generalize hz : upd _ w3 _ = H25
      have gz := laid_same hz n_w3
      have e_w3 := laid_at hz
      clear hz
      have gg := gg.trans gz
      have k_s := k_s.mono gz
      have e_q := gz _ _ e_q
      have e_w1 := gz _ _ e_w1
      have e_w2 := gz _ _ e_w2
      refine ⟨sq, w3, _, _, rfl, rfl, e_q, e_w3, small_le (by show vs.length + 2 ≤ _; omega), ?_⟩
      intro w4 n_w4
      generalize hz : upd _ w4 _ = H26
      have gz := laid_same hz n_w4
      have e_w4 := laid_at hz
      clear hz
      have gg := gg.trans gz
      have k_s := k_s.mono gz
      have e_q := gz _ _ e_q
      have e_w1 := gz _ _ e_w1
      have e_w2 := gz _ _ e_w2
      refine ⟨_, _, w4, _, rfl, gg, e_w4, k_s.app (.cons e_w1 (by omega) lt tle (.cons e_w2 (by omega) (by omega) tle (fun _ h => nomatch h))), ?_⟩
      rw [List.length_append]
      show vs.length + 2 ≤ _
      omega
    rintro σ H21 ⟨o9, o10, sq, vs, rfl, gj, e_sq, k_s, vl⟩
    have k_w := k_w.mono gj
    have k_r := k_r.mono gj
    have k_q := k_q.mono gj
    refine ⟨_, rfl, sq, rfl, ⟨_, SqL.of e_sq⟩, ?_⟩
    refine for_list (xs := vs) (fun j σ H' => ∃ (o11 o12 : Option V), σ = [some (.ref s0), some (.int (0 + i)), some (.ref a), some (.int room), some v, some (.ref r), some (.ref q), some (.int (totT ts)), some (.ref sq), o9, o10, o11, o12] ∧ Same H21 H') ⟨_, _, rfl, Same.refl _⟩ ?_ ?_ ?_
    · rintro j σ H' _ ⟨_, _, _, g⟩
      exact SqL.of (g _ _ e_sq)
    · rintro j x σ H22 hx ⟨o11, o12, rfl, gj⟩
      obtain ⟨qq, top, bot, rfl, e_qq, t0', t1', t2'⟩ := k_s x (List.mem_of_getElem? hx)
      refine ⟨qq, _, rfl, SqT.of (gj _ _ e_qq), rfl, _, _, rfl, _, _, rfl, rfl, ?_⟩
      refine ⟨_, rfl, _, rfl, _, rfl, _, rfl, q, r, y, ts, top, bot, rfl, k_q.mono gj, k_r.mono gj, hh, t0', t1', t2', fun H23 g23 => ⟨_, rfl, iteF ⟨_, _, rfl, gj.trans g23⟩⟩⟩
    rintro σ H22 ⟨o11, o12, rfl, gj⟩
    have k_w := k_w.mono gj
    have k_q := k_q.mono gj
    have rs := room_share hh
    rw [rm] at rs
    refine ⟨_, rfl, _, rfl, _, _, rfl, rfl, q, y, 1, room + 1, rfl, k_q, hld_sized hh (by decide) (by omega) (by omega), by decide, by omega, fun _ p l1 l2 H23 g23 _ _ _ => ⟨rfl, _, rfl, ?_⟩, fun lt => absurd rs (by omega)⟩
    rw [decide_eq_false (fun z => nomatch z)]
    exact iteF ⟨_, rfl, rfl, k_w.mono g23⟩
  · rintro σ H' ⟨o, rfl, _, _⟩
    exact hq _
end
end K13

namespace K13
open PySem L2
theorem all_mk {c T : Addr} {l : PySem.W.OpenLaw} {w : World} {K : PySem.W.Frag} {h : Heap} {mg : Str → Option Value} {fa f0 f1 f2 f3 f4 f5 f6 f7 f8 f9 f10 f11 f12 f13 f14 f15 f16 f17 f18 f19 f20 f21 f22 f23 f24 : Addr} (X : K.In h) (G : h.Ns mainGlobals mg) (hfa : mg "law" = some (.ref fa))
    {od0 an0 od1 an1 od2 an2 od3 an3 od4 an4 od5 an5 od6 an6 od7 an7 od8 an8 od9 an9 od10 an10 od11 an11 od12 an12 od13 an13 od14 an14 od15 an15 od16 an16 od17 an17 od18 an18 od19 an19 od20 an20 od21 an21 od22 an22 od23 an23 od24 an24 : Option Addr} {sl0 sl1 sl2 sl3 sl4 sl5 sl6 sl7 sl8 sl9 sl10 sl11 sl12 sl13 sl14 sl15 sl16 sl17 sl18 sl19 sl20 sl21 sl22 sl23 sl24 : Array (Option Value)} {oc0 kV0 dc0 pm0 ct0 cd0 oc1 kV1 dc1 pm1 ct1 cd1 oc2 kV2 dc2 pm2 ct2 cd2 oc3 kV3 dc3 pm3 ct3 cd3 oc4 kV4 dc4 pm4 ct4 cd4 oc5 kV5 dc5 pm5 ct5 cd5 oc6 kV6 dc6 pm6 ct6 cd6 oc7 kV7 dc7 pm7 ct7 cd7 oc8 kV8 dc8 pm8 ct8 cd8 oc9 kV9 dc9 pm9 ct9 cd9 oc10 kV10 dc10 pm10 ct10 oc11 kV11 dc11 pm11 ct11 cd11 oc12 kV12 dc12 pm12 ct12 cd12 oc13 kV13 dc13 pm13 ct13 cd13 oc14 kV14 dc14 pm14 ct14 cd14 oc15 kV15 dc15 pm15 ct15 cd15 oc16 kV16 dc16 pm16 ct16 cd16 oc17 kV17 dc17 pm17 ct17 cd17 oc18 kV18 dc18 pm18 ct18 cd18 oc19 kV19 dc19 pm19 ct19 cd19 oc20 kV20 dc20 pm20 ct20 cd20 oc21 kV21 dc21 pm21 ct21 cd21 oc22 kV22 dc22 pm22 ct22 cd22 oc23 kV23 dc23 pm23 ct23 cd23 oc24 kV24 dc24 pm24 ct24 cd24 : Value}
    (a0 : PySem.W.nsIn K mainGlobals "frequent" = some (some (.ref f0))) (l0 : K.lookup f0 = some ⟨oc0, od0, .func (PySem.W.fnOf "frequent" "frequent" (defArgs s_frequent) (defBody s_frequent) (defScope s_frequent) .none kV0 dc0 pm0 an0 cd0 ct0), sl0⟩) (c0 : PySem.W.codeIn K cd0 "frequent" = true) (k0 : PySem.W.keepIn K (.ref f0) = true)
    (a1 : PySem.W.nsIn K mainGlobals "cut_of" = some (some (.ref f1))) (l1 : K.lookup f1 = some ⟨oc1, od1, .func (PySem.W.fnOf "cut_of" "cut_of" (defArgs s_cut_of) (defBody s_cut_of) (defScope s_cut_of) .none kV1 dc1 pm1 an1 cd1 ct1), sl1⟩) (c1 : PySem.W.codeIn K cd1 "cut_of" = true) (k1 : PySem.W.keepIn K (.ref f1) = true)
    (a2 : PySem.W.nsIn K mainGlobals "added_counts" = some (some (.ref f2))) (l2 : K.lookup f2 = some ⟨oc2, od2, .func (PySem.W.fnOf "added_counts" "added_counts" (defArgs s_added_counts) (defBody s_added_counts) (defScope s_added_counts) .none kV2 dc2 pm2 an2 cd2 ct2), sl2⟩) (c2 : PySem.W.codeIn K cd2 "added_counts" = true) (k2 : PySem.W.keepIn K (.ref f2) = true)
    (a3 : PySem.W.nsIn K mainGlobals "steps_in" = some (some (.ref f3))) (l3 : K.lookup f3 = some ⟨oc3, od3, .func (PySem.W.fnOf "steps_in" "steps_in" (defArgs s_steps_in) (defBody s_steps_in) (defScope s_steps_in) .none kV3 dc3 pm3 an3 cd3 ct3), sl3⟩) (c3 : PySem.W.codeIn K cd3 "steps_in" = true) (k3 : PySem.W.keepIn K (.ref f3) = true)
    (a4 : PySem.W.nsIn K mainGlobals "grown" = some (some (.ref f4))) (l4 : K.lookup f4 = some ⟨oc4, od4, .func (PySem.W.fnOf "grown" "grown" (defArgs s_grown) (defBody s_grown) (defScope s_grown) .none kV4 dc4 pm4 an4 cd4 ct4), sl4⟩) (c4 : PySem.W.codeIn K cd4 "grown" = true) (k4 : PySem.W.keepIn K (.ref f4) = true)
    (a5 : PySem.W.nsIn K mainGlobals "empty_tally" = some (some (.ref f5))) (l5 : K.lookup f5 = some ⟨oc5, od5, .func (PySem.W.fnOf "empty_tally" "empty_tally" (defArgs s_empty_tally) (defBody s_empty_tally) (defScope s_empty_tally) .none kV5 dc5 pm5 an5 cd5 ct5), sl5⟩) (c5 : PySem.W.codeIn K cd5 "empty_tally" = true) (k5 : PySem.W.keepIn K (.ref f5) = true)
    (a6 : PySem.W.nsIn K mainGlobals "thing_tally" = some (some (.ref f6))) (l6 : K.lookup f6 = some ⟨oc6, od6, .func (PySem.W.fnOf "thing_tally" "thing_tally" (defArgs s_thing_tally) (defBody s_thing_tally) (defScope s_thing_tally) .none kV6 dc6 pm6 an6 cd6 ct6), sl6⟩) (c6 : PySem.W.codeIn K cd6 "thing_tally" = true) (k6 : PySem.W.keepIn K (.ref f6) = true)
    (a7 : PySem.W.nsIn K mainGlobals "added_sums" = some (some (.ref f7))) (l7 : K.lookup f7 = some ⟨oc7, od7, .func (PySem.W.fnOf "added_sums" "added_sums" (defArgs s_added_sums) (defBody s_added_sums) (defScope s_added_sums) .none kV7 dc7 pm7 an7 cd7 ct7), sl7⟩) (c7 : PySem.W.codeIn K cd7 "added_sums" = true) (k7 : PySem.W.keepIn K (.ref f7) = true)
    (a8 : PySem.W.nsIn K mainGlobals "merged_tally" = some (some (.ref f8))) (l8 : K.lookup f8 = some ⟨oc8, od8, .func (PySem.W.fnOf "merged_tally" "merged_tally" (defArgs s_merged_tally) (defBody s_merged_tally) (defScope s_merged_tally) .none kV8 dc8 pm8 an8 cd8 ct8), sl8⟩) (c8 : PySem.W.codeIn K cd8 "merged_tally" = true) (k8 : PySem.W.keepIn K (.ref f8) = true)
    (a9 : PySem.W.nsIn K mainGlobals "tally_of" = some (some (.ref f9))) (l9 : K.lookup f9 = some ⟨oc9, od9, .func (PySem.W.fnOf "tally_of" "tally_of" (defArgs s_tally_of) (defBody s_tally_of) (defScope s_tally_of) .none kV9 dc9 pm9 an9 cd9 ct9), sl9⟩) (c9 : PySem.W.codeIn K cd9 "tally_of" = true) (k9 : PySem.W.keepIn K (.ref f9) = true)
    (a10 : PySem.W.nsIn K mainGlobals "grown_tally" = some (some (.ref f10))) (l10 : K.lookup f10 = some ⟨oc10, od10, .func (PySem.W.fnOf "grown_tally" "grown_tally" (defArgs s_grown_tally) (defBody s_grown_tally) (defScope s_grown_tally) .none kV10 dc10 pm10 an10 (.ref c) ct10), sl10⟩) (c10 : PySem.W.codeIn K (.ref c) "grown_tally" = true) (k10 : PySem.W.keepIn K (.ref f10) = true)
    (a11 : PySem.W.nsIn K mainGlobals "_law_pen" = some (some (.ref f11))) (l11 : K.lookup f11 = some ⟨oc11, od11, .func (PySem.W.fnOf "_law_pen" "_law_pen" (defArgs s_l_pen) (defBody s_l_pen) (defScope s_l_pen) .none kV11 dc11 pm11 an11 cd11 ct11), sl11⟩) (c11 : PySem.W.codeIn K cd11 "_law_pen" = true) (k11 : PySem.W.keepIn K (.ref f11) = true)
    (a12 : PySem.W.nsIn K mainGlobals "_law_draw" = some (some (.ref f12))) (l12 : K.lookup f12 = some ⟨oc12, od12, .func (PySem.W.fnOf "_law_draw" "_law_draw" (defArgs s_l_draw) (defBody s_l_draw) (defScope s_l_draw) .none kV12 dc12 pm12 an12 cd12 ct12), sl12⟩) (c12 : PySem.W.codeIn K cd12 "_law_draw" = true) (k12 : PySem.W.keepIn K (.ref f12) = true)
    (a13 : PySem.W.nsIn K mainGlobals "_law_word" = some (some (.ref f13))) (l13 : K.lookup f13 = some ⟨oc13, od13, .func (PySem.W.fnOf "_law_word" "_law_word" (defArgs s_l_word) (defBody s_l_word) (defScope s_l_word) .none kV13 dc13 pm13 an13 cd13 ct13), sl13⟩) (c13 : PySem.W.codeIn K cd13 "_law_word" = true) (k13 : PySem.W.keepIn K (.ref f13) = true)
    (a14 : PySem.W.nsIn K mainGlobals "_law_many" = some (some (.ref f14))) (l14 : K.lookup f14 = some ⟨oc14, od14, .func (PySem.W.fnOf "_law_many" "_law_many" (defArgs s_l_many) (defBody s_l_many) (defScope s_l_many) .none kV14 dc14 pm14 an14 cd14 ct14), sl14⟩) (c14 : PySem.W.codeIn K cd14 "_law_many" = true) (k14 : PySem.W.keepIn K (.ref f14) = true)
    (a15 : PySem.W.nsIn K mainGlobals "_law_thing" = some (some (.ref f15))) (l15 : K.lookup f15 = some ⟨oc15, od15, .func (PySem.W.fnOf "_law_thing" "_law_thing" (defArgs s_l_thing) (defBody s_l_thing) (defScope s_l_thing) .none kV15 dc15 pm15 an15 cd15 ct15), sl15⟩) (c15 : PySem.W.codeIn K cd15 "_law_thing" = true) (k15 : PySem.W.keepIn K (.ref f15) = true)
    (a16 : PySem.W.nsIn K mainGlobals "_law_stream" = some (some (.ref f16))) (l16 : K.lookup f16 = some ⟨oc16, od16, .func (PySem.W.fnOf "_law_stream" "_law_stream" (defArgs s_l_stream) (defBody s_l_stream) (defScope s_l_stream) .none kV16 dc16 pm16 an16 cd16 ct16), sl16⟩) (c16 : PySem.W.codeIn K cd16 "_law_stream" = true) (k16 : PySem.W.keepIn K (.ref f16) = true)
    (a17 : PySem.W.nsIn K mainGlobals "_law_tree" = some (some (.ref f17))) (l17 : K.lookup f17 = some ⟨oc17, od17, .func (PySem.W.fnOf "_law_tree" "_law_tree" (defArgs s_l_tree) (defBody s_l_tree) (defScope s_l_tree) .none kV17 dc17 pm17 an17 cd17 ct17), sl17⟩) (c17 : PySem.W.codeIn K cd17 "_law_tree" = true) (k17 : PySem.W.keepIn K (.ref f17) = true)
    (a18 : PySem.W.nsIn K mainGlobals "_law_stream_of" = some (some (.ref f18))) (l18 : K.lookup f18 = some ⟨oc18, od18, .func (PySem.W.fnOf "_law_stream_of" "_law_stream_of" (defArgs s_l_stream_of) (defBody s_l_stream_of) (defScope s_l_stream_of) .none kV18 dc18 pm18 an18 cd18 ct18), sl18⟩) (c18 : PySem.W.codeIn K cd18 "_law_stream_of" = true) (k18 : PySem.W.keepIn K (.ref f18) = true)
    (a19 : PySem.W.nsIn K mainGlobals "_law_room" = some (some (.ref f19))) (l19 : K.lookup f19 = some ⟨oc19, od19, .func (PySem.W.fnOf "_law_room" "_law_room" (defArgs s_l_room) (defBody s_l_room) (defScope s_l_room) .none kV19 dc19 pm19 an19 cd19 ct19), sl19⟩) (c19 : PySem.W.codeIn K cd19 "_law_room" = true) (k19 : PySem.W.keepIn K (.ref f19) = true)
    (a20 : PySem.W.nsIn K mainGlobals "_law_times" = some (some (.ref f20))) (l20 : K.lookup f20 = some ⟨oc20, od20, .func (PySem.W.fnOf "_law_times" "_law_times" (defArgs s_l_times) (defBody s_l_times) (defScope s_l_times) .none kV20 dc20 pm20 an20 cd20 ct20), sl20⟩) (c20 : PySem.W.codeIn K cd20 "_law_times" = true) (k20 : PySem.W.keepIn K (.ref f20) = true)
    (a21 : PySem.W.nsIn K mainGlobals "_law_heavy" = some (some (.ref f21))) (l21 : K.lookup f21 = some ⟨oc21, od21, .func (PySem.W.fnOf "_law_heavy" "_law_heavy" (defArgs s_l_heavy) (defBody s_l_heavy) (defScope s_l_heavy) .none kV21 dc21 pm21 an21 cd21 ct21), sl21⟩) (c21 : PySem.W.codeIn K cd21 "_law_heavy" = true) (k21 : PySem.W.keepIn K (.ref f21) = true)
    (a22 : PySem.W.nsIn K mainGlobals "_law_told" = some (some (.ref f22))) (l22 : K.lookup f22 = some ⟨oc22, od22, .func (PySem.W.fnOf "_law_told" "_law_told" (defArgs s_l_told) (defBody s_l_told) (defScope s_l_told) .none kV22 dc22 pm22 an22 cd22 ct22), sl22⟩) (c22 : PySem.W.codeIn K cd22 "_law_told" = true) (k22 : PySem.W.keepIn K (.ref f22) = true)
    (a23 : PySem.W.nsIn K mainGlobals "_law_right" = some (some (.ref f23))) (l23 : K.lookup f23 = some ⟨oc23, od23, .func (PySem.W.fnOf "_law_right" "_law_right" (defArgs s_l_right) (defBody s_l_right) (defScope s_l_right) .none kV23 dc23 pm23 an23 cd23 ct23), sl23⟩) (c23 : PySem.W.codeIn K cd23 "_law_right" = true) (k23 : PySem.W.keepIn K (.ref f23) = true)
    (a24 : PySem.W.nsIn K mainGlobals "law" = some (some (.ref f24))) (l24 : K.lookup f24 = some ⟨oc24, od24, .func (PySem.W.fnOf "law" "law" (defArgs s_law) (defBody s_law) (defScope s_law) .none kV24 dc24 pm24 an24 cd24 ct24), sl24⟩) (c24 : PySem.W.codeIn K cd24 "law" = true) (k24 : PySem.W.keepIn K (.ref f24) = true)
    (y_len : PySem.W.nsIn K mainGlobals "len" = some none)
    (y_isinstance : PySem.W.nsIn K mainGlobals "isinstance" = some none)
    (y_range : PySem.W.nsIn K mainGlobals "range" = some none)
    (y_list : PySem.W.nsIn K mainGlobals "list" = some none)
    (y_sorted : PySem.W.nsIn K mainGlobals "sorted" = some none)
    (y_tuple : PySem.W.nsIn K mainGlobals "tuple" = some none)
    (y_dict : PySem.W.nsIn K mainGlobals "dict" = some none)
    (y_sum : PySem.W.nsIn K mainGlobals "sum" = some none)
    (y_set : PySem.W.nsIn K mainGlobals "set" = some none)
    {c_TooCoarse : Addr} {od_C : Option Addr} {cdt_C : ClassData} {sl_C : Array (Option Value)}
    (q_C : PySem.W.nsIn K mainGlobals "TooCoarse" = some (some (.ref c_TooCoarse)))
    (v_lk : K.lookup c_TooCoarse = some ⟨.type "type", od_C, .cls cdt_C, sl_C⟩)
    (v_sb : PySem.W.subIn K (.ref c_TooCoarse) (.type "BaseException") = some true)
    (e1_C : PySem.W.excIn K c_TooCoarse bmV "ValueError.__new__" = true)
    (e8_C : PySem.W.subIn K (.ref c_TooCoarse) (.ref c_TooCoarse) = some true)
    (hcT : PySem.W.codeHdIn K c T = true) (hgP : mainGlobals ≠ T)
    : ∃ fd : FuncData, (∀ (s : Shared) (v : Value), BindsTo s fd ⟨[v], []⟩ [("_law_script", v)]) ∧ ∀ base : Heap, K.In base → base.Ns mainGlobals mg → (∀ U ∈ ([(c, T)] : List (Addr × Addr)).map (·.2), base.BuiltinsAt mg U) → FnOk l.prog w K mg base CX0 33 fa fd ["_law_script"] (spLaw K T) := by
  have e := hfa.symm.trans (PySem.W.mg_of X G a24)
  cases e
  have F0 := fun_mk (st := s_frequent) l0 c0 k0
  have b0 := F0.binds (ps := ["tally", "top", "bottom"]) fun _ _ _ _ _ _ us hl => match us, hl with | [_, _, _], _ => rfl
  have m0 := PySem.W.mg_of X G a0
  have F1 := fun_mk (st := s_cut_of) l1 c1 k1
  have b1 := F1.binds (ps := ["room", "sums"]) fun _ _ _ _ _ _ us hl => match us, hl with | [_, _], _ => rfl
  have m1 := PySem.W.mg_of X G a1
  have F2 := fun_mk (st := s_added_counts) l2 c2 k2
  have b2 := F2.binds (ps := ["one", "other"]) fun _ _ _ _ _ _ us hl => match us, hl with | [_, _], _ => rfl
  have m2 := PySem.W.mg_of X G a2
  have F3 := fun_mk (st := s_steps_in) l3 c3 k3
  have b3 := F3.binds (ps := ["tree"]) fun _ _ _ _ _ _ us hl => match us, hl with | [_], _ => rfl
  have m3 := PySem.W.mg_of X G a3
  have F4 := fun_mk (st := s_grown) l4 c4 k4
  have b4 := F4.binds (ps := ["tree", "of_stream", "of_two"]) fun _ _ _ _ _ _ us hl => match us, hl with | [_, _, _], _ => rfl
  have m4 := PySem.W.mg_of X G a4
  have F5 := fun_mk (st := s_empty_tally) l5 c5 k5
  have b5 := F5.binds (ps := ["room"]) fun _ _ _ _ _ _ us hl => match us, hl with | [_], _ => rfl
  have m5 := PySem.W.mg_of X G a5
  have F6 := fun_mk (st := s_thing_tally) l6 c6 k6
  have b6 := F6.binds (ps := ["room", "thing"]) fun _ _ _ _ _ _ us hl => match us, hl with | [_, _], _ => rfl
  have m6 := PySem.W.mg_of X G a6
  have F7 := fun_mk (st := s_added_sums) l7 c7 k7
  have b7 := F7.binds (ps := ["one", "other"]) fun _ _ _ _ _ _ us hl => match us, hl with | [_, _], _ => rfl
  have m7 := PySem.W.mg_of X G a7
  have F8 := fun_mk (st := s_merged_tally) l8 c8 k8
  have b8 := F8.binds (ps := ["one", "other"]) fun _ _ _ _ _ _ us hl => match us, hl with | [_, _], _ => rfl
  have m8 := PySem.W.mg_of X G a8
  have F9 := fun_mk (st := s_tally_of) l9 c9 k9
  have b9 := F9.binds (ps := ["room", "stream"]) fun _ _ _ _ _ _ us hl => match us, hl with | [_, _], _ => rfl
  have m9 := PySem.W.mg_of X G a9
  have F10 := fun_mk (st := s_grown_tally) l10 c10 k10
  have b10 := F10.binds (ps := ["room", "tree"]) fun _ _ _ _ _ _ us hl => match us, hl with | [_, _], _ => rfl
  have m10 := PySem.W.mg_of X G a10
  have F11 := fun_mk (st := s_l_pen) l11 c11 k11
  have b11 := F11.binds (ps := ["_law_script", "_law_k"]) fun _ _ _ _ _ _ us hl => match us, hl with | [_, _], _ => rfl
  have m11 := PySem.W.mg_of X G a11
  have F12 := fun_mk (st := s_l_draw) l12 c12 k12
  have b12 := F12.binds (ps := ["_law_pen_here", "_law_size"]) fun _ _ _ _ _ _ us hl => match us, hl with | [_, _], _ => rfl
  have m12 := PySem.W.mg_of X G a12
  have F13 := fun_mk (st := s_l_word) l13 c13 k13
  have b13 := F13.binds (ps := ["_law_pen_here", "_law_k"]) fun _ _ _ _ _ _ us hl => match us, hl with | [_, _], _ => rfl
  have m13 := PySem.W.mg_of X G a13
  have F14 := fun_mk (st := s_l_many) l14 c14 k14
  have b14 := F14.binds (ps := ["_law_pen_here"]) fun _ _ _ _ _ _ us hl => match us, hl with | [_], _ => rfl
  have m14 := PySem.W.mg_of X G a14
  have F15 := fun_mk (st := s_l_thing) l15 c15 k15
  have b15 := F15.binds (ps := ["_law_pen_here", "_law_marks", "_law_deep"]) fun _ _ _ _ _ _ us hl => match us, hl with | [_, _, _], _ => rfl
  have m15 := PySem.W.mg_of X G a15
  have F16 := fun_mk (st := s_l_stream) l16 c16 k16
  have b16 := F16.binds (ps := ["_law_pen_here", "_law_marks", "_law_deep", "_law_most"]) fun _ _ _ _ _ _ us hl => match us, hl with | [_, _, _, _], _ => rfl
  have m16 := PySem.W.mg_of X G a16
  have F17 := fun_mk (st := s_l_tree) l17 c17 k17
  have b17 := F17.binds (ps := ["_law_pen_here", "_law_marks", "_law_deep", "_law_most", "_law_parts"]) fun _ _ _ _ _ _ us hl => match us, hl with | [_, _, _, _, _], _ => rfl
  have m17 := PySem.W.mg_of X G a17
  have F18 := fun_mk (st := s_l_stream_of) l18 c18 k18
  have b18 := F18.binds (ps := ["_law_tree_here"]) fun _ _ _ _ _ _ us hl => match us, hl with | [_], _ => rfl
  have m18 := PySem.W.mg_of X G a18
  have F19 := fun_mk (st := s_l_room) l19 c19 k19
  have b19 := F19.binds (ps := ["_law_pen_here"]) fun _ _ _ _ _ _ us hl => match us, hl with | [_], _ => rfl
  have m19 := PySem.W.mg_of X G a19
  have F20 := fun_mk (st := s_l_times) l20 c20 k20
  have b20 := F20.binds (ps := ["_law_stream_here", "_law_mark"]) fun _ _ _ _ _ _ us hl => match us, hl with | [_, _], _ => rfl
  have m20 := PySem.W.mg_of X G a20
  have F21 := fun_mk (st := s_l_heavy) l21 c21 k21
  have b21 := F21.binds (ps := ["_law_pen_here", "_law_tree_here"]) fun _ _ _ _ _ _ us hl => match us, hl with | [_, _], _ => rfl
  have m21 := PySem.W.mg_of X G a21
  have F22 := fun_mk (st := s_l_told) l22 c22 k22
  have b22 := F22.binds (ps := ["_law_tally", "_law_top", "_law_bottom"]) fun _ _ _ _ _ _ us hl => match us, hl with | [_, _, _], _ => rfl
  have m22 := PySem.W.mg_of X G a22
  have F23 := fun_mk (st := s_l_right) l23 c23 k23
  have b23 := F23.binds (ps := ["_law_tally", "_law_stream_here", "_law_top", "_law_bottom"]) fun _ _ _ _ _ _ us hl => match us, hl with | [_, _, _, _], _ => rfl
  have m23 := PySem.W.mg_of X G a23
  have F24 := fun_mk (st := s_law) l24 c24 k24
  have z_len := PySem.W.mg_none_of X G y_len
  have z_isinstance := PySem.W.mg_none_of X G y_isinstance
  have z_range := PySem.W.mg_none_of X G y_range
  have z_list := PySem.W.mg_none_of X G y_list
  have z_sorted := PySem.W.mg_none_of X G y_sorted
  have z_tuple := PySem.W.mg_none_of X G y_tuple
  have z_dict := PySem.W.mg_none_of X G y_dict
  have z_sum := PySem.W.mg_none_of X G y_sum
  have z_set := PySem.W.mg_none_of X G y_set
  refine ⟨PySem.W.fnOf "law" "law" (defArgs s_law) (defBody s_law) (defScope s_law) .none kV24 dc24 pm24 an24 cd24 ct24, fun s v => .of_eq rfl, fun base kb nb hBt => ?_⟩
  have m_C := PySem.W.mg_of X G q_C
  have xm_C := exm_mk v_sb v_lk e8_C
  have O_C := own_base (x := "TooCoarse") kb m_C e1_C
  have h_draw := Has.of (ok_draw (P := l.prog) (w := w) (mg := mg) (base := base) F12) b12 F12.kp m12
  have h_pen := Has.of (ok_pen (P := l.prog) (w := w) (mg := mg) (base := base) F11 z_len) b11 F11.kp m11
  have h_word := Has.of (ok_word (P := l.prog) (w := w) (mg := mg) (base := base) F13) b13 F13.kp m13
  have h_many := Has.of (ok_many h_draw F14) b14 F14.kp m14
  have h_thing := Has.of (ok_thing h_draw h_word h_many F15) b15 F15.kp m15
  have h_stream := Has.of (ok_stream h_draw h_thing z_range F16) b16 F16.kp m16
  have h_room := Has.of (ok_room h_draw F19) b19 F19.kp m19
  have h_tree := ok_tree h_draw h_stream F17 b17 m17 8
  have h_so := ok_lso (P := l.prog) (w := w) (mg := mg) (base := base) z_isinstance z_list F18 b18 m18 30
  have h_times := Has.of (ok_times (P := l.prog) (w := w) (mg := mg) (base := base) z_sum F20) b20 F20.kp m20
  have H_mer : ∀ base : Heap, K.In base → base.Ns mainGlobals mg → Has l.prog w K mg base "merged_tally" 3 ["one", "other"] spMer := fun base _ _ => Has.of (ok_mer z_sorted z_tuple (Has.of (ok_addsums (Has.of (ok_added (base := base) z_dict F2) b2 F2.kp m2) F7) b7 F7.kp m7) (Has.of (ok_cut z_len z_sorted F1) b1 F1.kp m1) F8) b8 F8.kp m8
  have H_tof : ∀ base : Heap, K.In base → base.Ns mainGlobals mg → Has l.prog w K mg base "tally_of" 4 ["room", "stream"] spTof := fun base kb nb => Has.of (ok_tof (Has.of (ok_empty (base := base) F5) b5 F5.kp m5) (H_mer base kb nb) (Has.of (ok_thT F6) b6 F6.kp m6) F9) b9 F9.kp m9
  have H_gr : HasB l.prog w K mg "grown" 6 ["tree", "of_stream", "of_two"] (spGrown l.prog w K mg 5) := ⟨_, _, fun base _ _ => ok_grown (k := 5) (by decide) (Has.of (ok_steps (base := base) z_isinstance z_list z_len F3) b3 F3.kp m3) F4, b4, F4.kp, m4⟩
  have h_gt := Has.of (ok_gt (T := T) l10 c10 (PySem.W.codeHd_of_K kb hcT) hgP (hBt T (.head _)) H_gr H_tof H_mer m8 F8) b10 F10.kp m10
  have x1 := HasX.of (((ok_frq (P := l.prog) (w := w) (mg := mg) (base := base) F0).toX (CX := CX1 l.prog w)).or (okx_coa (P := l.prog) (w := w) O_C F0)) b0 F0.kp m0
  have h_told := Has.of (ok_told (P := l.prog) (w := w) (mg := mg) (base := base) x1 m_C xm_C F22) b22 F22.kp m22
  have h_heavy := Has.of (ok_heavy h_draw h_word h_so z_sum F21) b21 F21.kp m21
  have h_right := Has.of (ok_right h_told h_times z_sum z_sorted z_set F23) b23 F23.kp m23
  exact ok_law h_pen h_draw h_room h_tree h_so h_times h_heavy h_told h_right h_gt z_range z_sum F24
theorem walk {l : PySem.W.OpenLaw} {q : Program} {loose : List Str} {XP : (Str → Option Value) → Heap → Prop} {YP : World → Heap → Prop} {d : DefRec} {K : Params → PySem.W.Frag} {c T : Addr} (hn : l.most = some 63) (hdf : d.params.defaults = [])
    (hY : ∀ (w : World) (h : Heap), YP w h → (K w.params).In h)
    (hT : ∀ (w : World) (mg mb : Str → Option Value) (loose' : List Str) (mean : ExcName → Option Value) (h : Heap), PyProof.Rows.Top q loose' mean mg mb h → (K w.params).In h → PySem.W.TabsAt [(c, T)] h) (hKT : ∀ (w : World), (K w.params).lookup T = none)
    (F : ∀ (w : World) (mg : Str → Option Value) (fa : Addr) (h : Heap), (K w.params).In h → h.Ns mainGlobals mg → mg d.name = some (.ref fa) →
      ∃ fd : FuncData, (∀ (s : Shared) (u : Value), BindsTo s fd ⟨[u], []⟩ [("_law_script", u)]) ∧ ∀ base : Heap, (K w.params).In base → base.Ns mainGlobals mg → (∀ U ∈ ([(c, T)] : List (Addr × Addr)).map (·.2), base.BuiltinsAt mg U) → FnOk l.prog w (K w.params) mg base CX0 33 fa fd ["_law_script"] (spLaw (K w.params) T)) :
    PySem.W.WalkO q loose XP YP l.row.toRowW d [] (fun f vs => PySem.call f vs) :=
  L2.walk_T (n := 63) (k := 33) (x := "_law_script") (tabs := [(c, T)]) (sp := fun w => spLaw (K w.params) T) hn (by decide) hdf ⟨rfl, by decide, by decide⟩ hY hT (fun w U h => by rw [List.mem_singleton.mp h]; exact hKT w) F (fun _ _ a ns hl hS hTT => ⟨a, ns, rfl, hS, hl, ⟨.inl (hTT T (.head _))⟩, fun _ => rfl⟩)
end K13
open PySem PySem.W PyProof.Rows
set_option maxRecDepth 100000 in
set_option maxHeartbeats 0 in
theorem PySem.Challenge.cw_sumshare_k13_whole_frequent_marks_of_tre_holds : PySem.Challenge.rw_sumshare_k13_whole_frequent_marks_of_tre.Holds := by
  w_on; o_law; k_head; (case hw => w_witness2)
  k_fill
  refine K13.walk (l := PySem.Challenge.rw_sumshare_k13_whole_frequent_marks_of_tre) (c := 135) (T := 131) rfl rfl (fun w h Y => PySem.W.km_in_of Y) (fun w mg mb lo mean h TT X => List.forall_mem_cons.mpr ⟨PySem.W.tab_of (x := PySem.Str.ofString "grown_tally") (c := 135) (P := 131) TT X rfl (by kernel_rfl), fun _ h => nomatch h⟩) (fun w => by kernel_rfl) ?F
  case F =>
    intro w mg fa h KX G hmg
    refine' K13.all_mk (c := 135) (T := 131) KX G hmg ?a0 ?l0 ?c0 ?k0 ?a1 ?l1 ?c1 ?k1 ?a2 ?l2 ?c2 ?k2 ?a3 ?l3 ?c3 ?k3 ?a4 ?l4 ?c4 ?k4 ?a5 ?l5 ?c5 ?k5 ?a6 ?l6 ?c6 ?k6 ?a7 ?l7 ?c7 ?k7 ?a8 ?l8 ?c8 ?k8 ?a9 ?l9 ?c9 ?k9 ?a10 ?l10 ?c10 ?k10 ?a11 ?l11 ?c11 ?k11 ?a12 ?l12 ?c12 ?k12 ?a13 ?l13 ?c13 ?k13 ?a14 ?l14 ?c14 ?k14 ?a15 ?l15 ?c15 ?k15 ?a16 ?l16 ?c16 ?k16 ?a17 ?l17 ?c17 ?k17 ?a18 ?l18 ?c18 ?k18 ?a19 ?l19 ?c19 ?k19 ?a20 ?l20 ?c20 ?k20 ?a21 ?l21 ?c21 ?k21 ?a22 ?l22 ?c22 ?k22 ?a23 ?l23 ?c23 ?k23 ?a24 ?l24 ?c24 ?k24 ?y_len ?y_isinstance ?y_range ?y_list ?y_sorted ?y_tuple ?y_dict ?y_sum ?y_set ?q_C ?v_lk ?v_sb ?e1_C ?e8_C ?hcT ?hgP
    (case a0 => k_is); (case l0 => k_is); (case c0 => k_is); (case k0 => k_is)
    (case a1 => k_is); (case l1 => k_is); (case c1 => k_is); (case k1 => k_is)
    (case a2 => k_is); (case l2 => k_is); (case c2 => k_is); (case k2 => k_is)
    (case a3 => k_is); (case l3 => k_is); (case c3 => k_is); (case k3 => k_is)
    (case a4 => k_is); (case l4 => k_is); (case c4 => k_is); (case k4 => k_is)
    (case a5 => k_is); (case l5 => k_is); (case c5 => k_is); (case k5 => k_is)
    (case a6 => k_is); (case l6 => k_is); (case c6 => k_is); (case k6 => k_is)
    (case a7 => k_is); (case l7 => k_is); (case c7 => k_is); (case k7 => k_is)
    (case a8 => k_is); (case l8 => k_is); (case c8 => k_is); (case k8 => k_is)
    (case a9 => k_is); (case l9 => k_is); (case c9 => k_is); (case k9 => k_is)
    (case a10 => k_is); (case l10 => k_is); (case c10 => k_is); (case k10 => k_is)
    (case a11 => k_is); (case l11 => k_is); (case c11 => k_is); (case k11 => k_is)
    (case a12 => k_is); (case l12 => k_is); (case c12 => k_is); (case k12 => k_is)
    (case a13 => k_is); (case l13 => k_is); (case c13 => k_is); (case k13 => k_is)
    (case a14 => k_is); (case l14 => k_is); (case c14 => k_is); (case k14 => k_is)
    (case a15 => k_is); (case l15 => k_is); (case c15 => k_is); (case k15 => k_is)
    (case a16 => k_is); (case l16 => k_is); (case c16 => k_is); (case k16 => k_is)
    (case a17 => k_is); (case l17 => k_is); (case c17 => k_is); (case k17 => k_is)
    (case a18 => k_is); (case l18 => k_is); (case c18 => k_is); (case k18 => k_is)
    (case a19 => k_is); (case l19 => k_is); (case c19 => k_is); (case k19 => k_is)
    (case a20 => k_is); (case l20 => k_is); (case c20 => k_is); (case k20 => k_is)
    (case a21 => k_is); (case l21 => k_is); (case c21 => k_is); (case k21 => k_is)
    (case a22 => k_is); (case l22 => k_is); (case c22 => k_is); (case k22 => k_is)
    (case a23 => k_is); (case l23 => k_is); (case c23 => k_is); (case k23 => k_is)
    (case a24 => k_is); (case l24 => k_is); (case c24 => k_is); (case k24 => k_is)
    (case y_len => k_is)
    (case y_isinstance => k_is)
    (case y_range => k_is)
    (case y_list => k_is)
    (case y_sorted => k_is)
    (case y_tuple => k_is)
    (case y_dict => k_is)
    (case y_sum => k_is)
    (case y_set => k_is)
    (case q_C => k_is)
    (case v_lk => k_is)
    (case v_sb => k_is)
    (case e1_C => k_exc)
    (case e8_C => k_is)
    (case hcT => kernel_rfl); (case hgP => decide)
