import PyProof.Rows.All
import Wide.All
import OpenK.AllK
import Wide.FinOn
import Lean
import PyProof.EqAt
import PyProof.EqKinds
import PyProof.TupleCall
import PySem.Challenge.RW_sumshare_k37_open_marks
set_option Elab.async false
set_option linter.all false
set_option maxRecDepth 100000
/-! THE HAND LAYER, for ints, bools, texts, own classes, LISTS and tuples (index, slices, in, append, pop ..), calls, loops. Paste it whole ahead of your own text; what your proof does not reach may be deleted. -/
namespace L2
open PySem PySem.Spec PyProof.Rows

/-- a key: an int or a str -/
abbrev Key := Sum Int Str
def keyIs : Key → Value → Bool
  | .inl k, v => Value.isInt k v
  | .inr x, v => Value.isStrOf x v
def keyH (w : World) : Key → Int
  | .inl k => hashInt k
  | .inr x => hashStr w x
theorem keyIs_shape : ∀ {k : Key} {v : Value}, keyIs k v = true → (∃ i t, k = Sum.inl i ∧ v = Value.int i t) ∨ (∃ x t, k = Sum.inr x ∧ v = Value.str x t)
  | .inl i, v, h => by
    obtain ⟨t, e⟩ := Value.isInt_shape (k := i) (v := v) h
    exact .inl ⟨i, t, rfl, e⟩
  | .inr x, v, h => by
    obtain ⟨t, e⟩ := Value.isStrOf_shape (x := x) (v := v) h
    exact .inr ⟨x, t, rfl, e⟩
theorem keyIs_int (i : Int) (t : Tok) : keyIs (.inl i) (.int i t) = true := by simp [keyIs, Value.isInt]
theorem keyIs_str (x : Str) (t : Tok) : keyIs (.inr x) (.str x t) = true := by simp [keyIs, Value.isStrOf]
theorem key_ll (a b : Int) : decide ((Sum.inl a : Key) = Sum.inl b) = (a == b) := by
  by_cases e : a = b
  · subst e; simp
  · have h : ¬ (Sum.inl a : Key) = Sum.inl b := fun q => e (Sum.inl.inj q)
    rw [decide_eq_false h]
    exact (beq_eq_false_iff_ne.mpr e).symm
theorem key_rr (a b : Str) : decide ((Sum.inr a : Key) = Sum.inr b) = decide (a = b) := by
  by_cases e : a = b
  · subst e; simp
  · have h : ¬ (Sum.inr a : Key) = Sum.inr b := fun q => e (Sum.inr.inj q)
    rw [decide_eq_false h, decide_eq_false e]
theorem key_lr (a : Int) (b : Str) : decide ((Sum.inl a : Key) = Sum.inr b) = false := decide_eq_false (fun q => nomatch q)
theorem key_rl (a : Str) (b : Int) : decide ((Sum.inr a : Key) = Sum.inl b) = false := decide_eq_false (fun q => nomatch q)

def mixKind (prog : Program) (w : World) : PySem.KeyKind prog w Key where
  is := keyIs
  hash := keyH w
  inj := fun v a b ha hb => by
    rcases keyIs_shape ha with ⟨i, t, rfl, rfl⟩ | ⟨x, t, rfl, rfl⟩
    · rcases keyIs_shape hb with ⟨j, u, rfl, e⟩ | ⟨y, u, rfl, e⟩
      · injection e with e1 _; rw [e1]
      · exact nomatch e
    · rcases keyIs_shape hb with ⟨j, u, rfl, e⟩ | ⟨y, u, rfl, e⟩
      · exact nomatch e
      · injection e with e1 _; rw [e1]
  byValue := fun k v h => by
    rcases keyIs_shape h with ⟨i, t, rfl, rfl⟩ | ⟨x, t, rfl, rfl⟩ <;> rfl
  pyHash := fun hv h => by
    rcases keyIs_shape hv with ⟨i, t, rfl, rfl⟩ | ⟨x, t, rfl, rfl⟩
    · exact wpAny_pyHash_int h
    · exact wpAny_pyHash_str h
  eqBool := fun hu hv h => by
    rcases keyIs_shape hu with ⟨i, t, rfl, rfl⟩ | ⟨x, t, rfl, rfl⟩
    · rcases keyIs_shape hv with ⟨j, u, rfl, rfl⟩ | ⟨y, u, rfl, rfl⟩
      · rw [key_ll] at h; exact wpAny_eqBool_int h
      · rw [key_lr] at h; exact SeqAt.EqAt.int_str i t y u _ _ _ _ h
    · rcases keyIs_shape hv with ⟨j, u, rfl, rfl⟩ | ⟨y, u, rfl, rfl⟩
      · rw [key_rl] at h; exact SeqAt.EqAt.str_int x t j u _ _ _ _ h
      · rw [key_rr] at h; exact wpAny_eqBool_str h
  «strs» := fun k x t v h => by
    rcases keyIs_shape h with ⟨i, u, rfl, e⟩ | ⟨y, u, rfl, e⟩
    · exact nomatch e
    · injection e with e1 _
      subst e1
      cases v <;> rfl

theorem mixKind_int (prog : Program) (w : World) (i : Int) (t : Tok) : (mixKind prog w).is (.inl i) (.int i t) = true := keyIs_int i t
theorem mixKind_str (prog : Program) (w : World) (x : Str) (t : Tok) : (mixKind prog w).is (.inr x) (.str x t) = true := keyIs_str x t
end L2

namespace L2
open PySem PySem.Spec PyProof.Rows

/-- a value, without the heap -/
inductive V where
  | non | bl (b : Bool) | int (i : Int) | str (x : Str) | byt (b : Array UInt8) | flt (b : UInt64) | ref (a : Addr) | ty (n : String)
  deriving DecidableEq

def RelV : V → Value → Prop
  | .non, u => u = Value.none
  | .bl b, u => u = Value.bool b
  | .int i, u => ∃ t, u = Value.int i t
  | .str x, u => ∃ t, u = Value.str x t
  | .byt b, u => ∃ t, u = Value.bytes b t
  | .flt b, u => ∃ t, u = Value.float b t
  | .ref a, u => u = Value.ref a
  | .ty n, u => u = Value.type n

abbrev Vals : List V → List Value → Prop := Paired RelV
theorem Vals.length {xs : List V} {us : List Value} (r : Vals xs us) : xs.length = us.length := Paired.length r
theorem Vals.get : ∀ {xs : List V} {us : List Value} {i : Nat} {x : V}, Vals xs us → xs[i]? = some x → ∃ u, us[i]? = some u ∧ RelV x u
  | _, _, _, _, .nil, e => by simp at e
  | _, _, 0, _, .cons r _, e => by simp at e; subst e; exact ⟨_, rfl, r⟩
  | _, _, i + 1, x, .cons _ t, e => by
    obtain ⟨u, h1, h2⟩ := Vals.get (i := i) (x := x) t (by simpa using e)
    exact ⟨u, by simpa using h1, h2⟩
theorem Vals.set {x : V} {u : Value} (r : RelV x u) : ∀ {xs : List V} {us : List Value} (i : Nat), Vals xs us → Vals (xs.set i x) (us.set i u)
  | _, _, _, .nil => .nil
  | _, _, 0, .cons _ t => .cons r t
  | _, _, i + 1, .cons q t => .cons q (Vals.set r i t)
theorem Vals.append : ∀ {xs ys : List V} {us ws : List Value}, Vals xs us → Vals ys ws → Vals (xs ++ ys) (us ++ ws)
  | _, _, _, _, .nil, s => s
  | _, _, _, _, .cons r t, s => .cons r (Vals.append t s)
theorem Vals.take : ∀ {xs : List V} {us : List Value} (n : Nat), Vals xs us → Vals (xs.take n) (us.take n)
  | _, _, 0, _ => .nil
  | _, _, _ + 1, .nil => .nil
  | _, _, n + 1, .cons r t => .cons r (Vals.take n t)
theorem Vals.drop : ∀ {xs : List V} {us : List Value} (n : Nat), Vals xs us → Vals (xs.drop n) (us.drop n)
  | _, _, 0, r => r
  | _, _, _ + 1, .nil => .nil
  | _, _, n + 1, .cons _ t => Vals.drop n t

def RelO : Option V → Option Value → Prop
  | some v, some u => RelV v u
  | none, none => True
  | _, _ => False
def KV {κ : Type} : List (κ × V) → List (κ × Value) → Prop := Paired fun (p : κ × V) (q : κ × Value) => p.1 = q.1 ∧ RelV p.2 q.2

/-- a key of a dict (00_mix): an int or a text -/
def kV : Key → V
  | .inl i => .int i
  | .inr x => .str x

/-- what stands at a tracked address -/
inductive HO where
  /-- a list -/
  | lst (xs : List V)
  /-- a tuple (never changes) -/
  | tup (xs : List V)
  /-- a dict whose keys are ints and texts; one whose keys are tuples of ints and texts (the empty one is both) -/
  | dK (kvs : List (Key × V)) | dT (kvs : List (List Key × V))
  /-- a set of ints: its members, its size -/
  | set (S : Int → Bool) (n : Nat)
  /-- an instance of the class at C, its dict at dx, its attributes -/
  | ins (C dx : Addr) (fs : List (Str × V))
  /-- the dict of the instance at x -/
  | own (x : Addr)
  /-- the dict of an exception -/
  | xd (fs : List (Str × V))
  /-- a bound method, f of x -/
  | met (f x : Addr)
  /-- a range object lo, lo + 1, .. below hi -/
  | rng (lo hi : Int)
  /-- a thing that is known to the object (the script; a dict while a loop walks it): read, never written while it is so -/
  | frz (o : Obj) (u : HO)
  /-- a code object's table -/
  | tbl (ps : Array Value)
  /-- any other thing, by what is true of its one object (a def of one's own: SetO a S n := HO.ext fun h => ..) -/
  | ext (φ : Heap → Prop)

abbrev Hp := Addr → Option HO
def upd (H : Hp) (a : Addr) (o : HO) : Hp := fun b => if b = a then some o else H b
theorem upd_same {H : Hp} {a : Addr} {o : HO} : upd H a o a = some o := by unfold upd; rw [if_pos rfl]
theorem upd_ne {H : Hp} {a b : Addr} {o : HO} (h : b ≠ a) : upd H a o b = H b := by unfold upd; rw [if_neg h]
theorem upd_upd {H : Hp} {a : Addr} {o u : HO} : upd (upd H a o) a u = upd H a u := by
  funext b; unfold upd; split <;> rfl
theorem ne_of_none {H : Hp} {a b : Addr} {o : HO} (h : H a = some o) (h' : H b = none) : a ≠ b := by
  intro e; subst e; rw [h] at h'; cases h'

def TupN (h : Heap) (a : Addr) (items : Array Value) : Prop := ∃ o, h.get? a = some o ∧ (o.cls = .type "tuple" ∧ o.dict = none) ∧ ∃ n, o.data = .seq items n
theorem TupN.tup {h : Heap} {a : Addr} {items : Array Value} (x : TupN h a items) : IsTup h a items := let ⟨o, e, c, n, d⟩ := x; ⟨o, e, c.1, n, d⟩
theorem TupN.new (h : Heap) (items : Array Value) : TupN (h.push { cls := .type "tuple", data := .seq items }) h.objs.size items := ⟨_, Heap.get?_push_size _ rfl, ⟨rfl, rfl⟩, _, rfl⟩
section
variable (P : Program) (w : World)
def ObjOk (H : Hp) (h : Heap) (a : Addr) : HO → Prop
  | .lst xs => xs.length ≤ sizeLine ∧ ∃ (its : List Value) (n : Nat), Vals xs its ∧ h.get? a = some { cls := .type "list", data := .seq its.toArray n }
  | .tup xs => xs.length ≤ sizeLine ∧ ∃ its : List Value, Vals xs its ∧ TupN h a its.toArray
  | .dK kvs => kvs.length ≤ sizeLine ∧ (a == sysModules) = false ∧ ∃ vs, KV kvs vs ∧ h.DictOf (mixKind P w) a vs
  | .dT kvs => kvs.length ≤ sizeLine ∧ (a == sysModules) = false ∧ ∃ xs : List (List Key × Addr × Value),
      Paired (fun (p : List Key × V) (q : List Key × Addr × Value) => p.1 = q.1 ∧ H q.2.1 = some (.tup (p.1.map kV)) ∧ RelV p.2 q.2.2) kvs xs ∧
      ∃ o es ep, h.get? a = some o ∧ o.ExactDict ∧ o.data = .dict es ep ∧ es.toList = xs.map (entryOfKey (tupleKind (mixKind P w))) ∧ (xs.map (·.1)).Nodup
  | .set S n => h.SetOf (intKind P w) a S n
  | .ins C dx fs => H dx = some (.own a) ∧ fs.length ≤ 1000 ∧ dx ≠ a ∧ h.get? a = some (PySem.W.instObj C dx) ∧
      ∃ mA, h.Ns1 dx mA ∧ (∀ f, RelO (fs.lookup f) (mA f)) ∧ PySem.Within mA (fs.map (·.1))
  | .own _ => ∃ o, h.get? a = some o
  | .xd fs => ∃ mA, h.Ns1 a mA ∧ ∀ f, RelO (fs.lookup f) (mA f)
  | .rng lo hi => ∃ t u v, h.get? a = some { cls := .type "range", data := .fields #[.int lo t, .int hi u, .int 1 v] }
  | .frz o u => h.get? a = some o ∧ ObjOk H h a u
  | .tbl ps => h.get? a = some { cls := .none, data := .fields ps }
  | .met f x => h.get? a = some (PySem.W.methodObj (.ref f) (.ref x))
  | .ext φ => φ h ∧ (∃ o, h.get? a = some o) ∧ ∀ h1 h2 : Heap, φ h1 → (∀ o, h1.get? a = some o → h2.get? a = some o) → φ h2
/-- the abstract heap is held -/
def HOk (H : Hp) (h : Heap) : Prop := ∀ a o, H a = some o → ObjOk P w H h a o
end

section
variable {P : Program} {w : World} {H H' : Hp} {h h' : Heap} {a : Addr} {o : HO}
theorem ObjOk.lt (x : ObjOk P w H h a o) : a < h.objs.size := by
  cases o with
  | lst xs => obtain ⟨_, _, _, _, e⟩ := x; exact Heap.lt_size e
  | tup xs => obtain ⟨_, _, _, p⟩ := x; exact p.tup.lt
  | dK kvs => obtain ⟨_, _, _, _, o, _, _, e, _⟩ := x; exact Heap.lt_size e
  | dT kvs => obtain ⟨_, _, _, _, o, _, _, e, _⟩ := x; exact Heap.lt_size e
  | set S n => obtain ⟨o, _, _, _, e, _⟩ := x; exact Heap.lt_size e
  | ins C dx fs => obtain ⟨_, _, _, e, _⟩ := x; exact Heap.lt_size e
  | own y => obtain ⟨_, e⟩ := x; exact Heap.lt_size e
  | xd fs => obtain ⟨_, ⟨_, _, _, e, _⟩, _⟩ := x; exact Heap.lt_size e
  | rng lo hi => obtain ⟨_, _, _, e⟩ := x; exact Heap.lt_size e
  | frz ob u => obtain ⟨e, _⟩ := x; exact Heap.lt_size e
  | tbl ps => exact Heap.lt_size (show h.get? a = some _ from x)
  | met f y => exact Heap.lt_size (show h.get? a = some _ from x)
  | ext φ => obtain ⟨_, ⟨_, e⟩, _⟩ := x; exact Heap.lt_size e
theorem Paired.mapP {α β : Type} {F G : α → β → Prop} : ∀ {l₁ : List α} {l₂ : List β}, Paired F l₁ l₂ → (∀ a b, F a b → G a b) → Paired G l₁ l₂
  | _, _, .nil, _ => .nil
  | _, _, .cons r t, f => .cons (f _ _ r) (Paired.mapP t f)
/-- what an object's description leans on: its own object, its own dict, the tuples -/
theorem ObjOk.stay (x : ObjOk P w H h a o) (k : ∀ b u, (b = a ∨ H b = some (.own a)) → h.get? b = some u → h'.get? b = some u)
    (ho : ∀ b, H b = some (.own a) → H' b = some (.own a)) (ht : ∀ b xs, H b = some (.tup xs) → H' b = some (.tup xs)) : ObjOk P w H' h' a o := by
  induction o with
  | lst xs => obtain ⟨z, its, n, r, e⟩ := x; exact ⟨z, its, n, r, k _ _ (.inl rfl) e⟩
  | tup xs => obtain ⟨z, its, r, ob, e, c⟩ := x; exact ⟨z, its, r, ob, k _ _ (.inl rfl) e, c⟩
  | dK kvs => obtain ⟨z, y, vs, r, ob, es, ep, e, c⟩ := x; exact ⟨z, y, vs, r, ob, es, ep, k _ _ (.inl rfl) e, c⟩
  | dT kvs =>
    obtain ⟨z, y, xs, r, ob, es, ep, e, c⟩ := x
    exact ⟨z, y, xs, Paired.mapP r fun p q z => ⟨z.1, ht _ _ z.2.1, z.2.2⟩, ob, es, ep, k _ _ (.inl rfl) e, c⟩
  | set S n => obtain ⟨ob, es, ep, t, e, c⟩ := x; exact ⟨ob, es, ep, t, k _ _ (.inl rfl) e, c⟩
  | ins C dx fs =>
    obtain ⟨d, z, ne, e, mA, ⟨od, es, ep, e2, c⟩, r⟩ := x
    exact ⟨ho _ d, z, ne, k _ _ (.inl rfl) e, mA, ⟨od, es, ep, k _ _ (.inr d) e2, c⟩, r⟩
  | own y => obtain ⟨ob, e⟩ := x; exact ⟨ob, k _ _ (.inl rfl) e⟩
  | xd fs => obtain ⟨mA, ⟨od, es, ep, e, c⟩, r⟩ := x; exact ⟨mA, ⟨od, es, ep, k _ _ (.inl rfl) e, c⟩, r⟩
  | rng lo hi => obtain ⟨t, u, v, e⟩ := x; exact ⟨t, u, v, k _ _ (.inl rfl) e⟩
  | frz ob u ih => obtain ⟨e, q⟩ := x; exact ⟨k _ _ (.inl rfl) e, ih q⟩
  | tbl ps =>
    have e : h.get? a = some { cls := .none, data := .fields ps } := x
    show h'.get? a = some { cls := .none, data := .fields ps }
    exact k a _ (.inl rfl) e
  | met f y =>
    have e : h.get? a = some (PySem.W.methodObj (.ref f) (.ref y)) := x
    show h'.get? a = some (PySem.W.methodObj (.ref f) (.ref y))
    exact k a _ (.inl rfl) e
  | ext φ => obtain ⟨p, ⟨o, e⟩, st⟩ := x; exact ⟨st _ _ p fun o q => k _ _ (.inl rfl) q, ⟨o, k _ _ (.inl rfl) e⟩, st⟩
theorem HOk.lt (x : HOk P w H h) (e : H a = some o) : a < h.objs.size := (x a o e).lt
theorem HOk.fresh (x : HOk P w H h) (e : h.objs.size ≤ a) : H a = none := by
  cases q : H a with
  | none => rfl
  | some u => exact absurd (Nat.lt_of_lt_of_le (x.lt q) e) (Nat.lt_irrefl _)
/-- every object of the heap is kept -/
theorem HOk.kept (x : HOk P w H h) (k : ∀ b u, h.get? b = some u → h'.get? b = some u) : HOk P w H h' := fun a o e =>
  (x a o e).stay (fun b u _ q => k b u q) (fun _ q => q) fun _ _ q => q
/-- a new object is laid and tracked -/
theorem HOk.laid (x : HOk P w H h) (k : ∀ b u, h.get? b = some u → h'.get? b = some u) (hp : h.objs.size ≤ a) (new : ObjOk P w (upd H a o) h' a o) : HOk P w (upd H a o) h' := fun b u e => by
  have hn := x.fresh hp
  by_cases hb : b = a
  · subst hb; rw [upd_same] at e; cases e; exact new
  · rw [upd_ne hb] at e
    exact (x b u e).stay (fun c v _ q => k c v q) (fun c q => by rw [upd_ne (ne_of_none q hn)]; exact q) fun c xs q => by rw [upd_ne (ne_of_none q hn)]; exact q
end

/-- what may be read as u: it is u, or a known u -/
def Rd (H : Hp) (a : Addr) (u : HO) : Prop := H a = some u ∨ ∃ o, H a = some (.frz o u)
theorem Rd.of {H : Hp} {a : Addr} {u : HO} (h : H a = some u) : Rd H a u := .inl h
theorem Rd.ok {P : Program} {w : World} {H : Hp} {h : Heap} {a : Addr} {u : HO} (r : Rd H a u) (x : HOk P w H h) : ObjOk P w H h a u := by
  rcases r with r | ⟨o, r⟩
  · exact x a u r
  · obtain ⟨_, q⟩ := x a _ r
    exact q
/-- what may be written -/
def Mut : Option HO → Prop
  | some (.lst _) => True
  | some (.dK _) => True
  | some (.dT _) => True
  | some (.set _ _) => True
  | some (.ins _ _ _) => True
  | some (.ext _) => True
  | _ => False
section
variable {P : Program} {w : World} {H : Hp} {h h' : Heap} {x e : Addr} {o' : HO}
/-- the object at e is changed: x itself, or the dict of the instance x -/
theorem HOk.write (ok : HOk P w H h) (mu : Mut (H x)) (he : e = x ∨ H e = some (.own x)) (k : ∀ b u, b ≠ e → h.get? b = some u → h'.get? b = some u) (heo : ∃ u, h'.get? e = some u)
    (new : ObjOk P w (upd H x o') h' x o') : HOk P w (upd H x o') h' := fun b u q => by
  have nown : ∀ c y, H c = some (.own y) → c ≠ x := fun c y r z => by subst z; rw [r] at mu; exact mu
  have ntup : ∀ c xs, H c = some (.tup xs) → c ≠ x := fun c xs r z => by subst z; rw [r] at mu; exact mu
  by_cases hb : b = x
  · subst hb; rw [upd_same] at q; cases q; exact new
  · rw [upd_ne hb] at q
    by_cases hbe : b = e
    · have q' : H b = some (.own x) := by
        rcases he with z | z
        · exact absurd (hbe.trans z) hb
        · rw [hbe]; exact z
      rw [q] at q'; cases q'
      obtain ⟨v, hv⟩ := heo
      exact ⟨v, by rw [hbe]; exact hv⟩
    · refine (ok b u q).stay (fun c v hc r => k c v ?_ r) (fun c r => by rw [upd_ne (nown c b r)]; exact r) fun c xs r => by rw [upd_ne (ntup c xs r)]; exact r
      rcases hc with rfl | hc
      · exact hbe
      · rintro rfl
        rcases he with z | z
        · exact nown c b hc z
        · rw [hc] at z; cases z; exact hb rfl
end

/-! ### kept unless tracked; of the frames at fs (the callers') the slots may change (an exception that passes writes there); of the records at ex (iterators) nothing is said -/
structure Un (fs ex : List Addr) (H H' : Hp) (h h' : Heap) : Prop where
  keep : ∀ b o, h.get? b = some o → H b = none → b ∉ fs → b ∉ ex → h'.get? b = some o
  slot : ∀ b o, h.get? b = some o → H b = none → b ∈ fs → b ∉ ex → ∃ sl, h'.get? b = some { o with slots := sl }
  free : ∀ b o, h.get? b = some o → H b = none → b ∉ ex → H' b = none
  there : ∀ b o, h.get? b = some o → b ∉ ex → ∃ o', h'.get? b = some o'
  tups : ∀ b xs, H b = some (.tup xs) → H' b = some (.tup xs)
  frzs : ∀ b o u, H b = some (.frz o u) → H' b = some (.frz o u)
  tbls : ∀ b ps, H b = some (.tbl ps) → ∃ more, H' b = some (.tbl (ps ++ more))
section
variable {fs fs' ex ex' : List Addr} {H H1 H2 : Hp} {h h1 h2 h' : Heap} {a x e : Addr} {o : HO}
theorem Un.any (u : Un fs ex H H1 h h1) {b : Addr} {ob : Obj} (q : h.get? b = some ob) (n : H b = none) (hx : b ∉ ex) : ∃ sl, h1.get? b = some { ob with slots := sl } := by
  by_cases hb : b ∈ fs
  · exact u.slot b ob q n hb hx
  · exact ⟨ob.slots, u.keep b ob q n hb hx⟩
theorem Un.trans (a : Un fs ex H H1 h h1) (b : Un fs ex H1 H2 h1 h2) : Un fs ex H H2 h h2 where
  keep := fun c ob q n hc hx => b.keep c ob (a.keep c ob q n hc hx) (a.free c ob q n hx) hc hx
  slot := fun c ob q n hc hx => by
    obtain ⟨sl, e1⟩ := a.slot c ob q n hc hx
    obtain ⟨sl', e2⟩ := b.slot c _ e1 (a.free c ob q n hx) hc hx
    exact ⟨sl', e2⟩
  free := fun c ob q n hx => by
    obtain ⟨o', e1⟩ := a.there c ob q hx
    exact b.free c o' e1 (a.free c ob q n hx) hx
  there := fun c ob q hx => by
    obtain ⟨o', e1⟩ := a.there c ob q hx
    exact b.there c o' e1 hx
  tups := fun c xs q => b.tups c xs (a.tups c xs q)
  frzs := fun c ob xs q => b.frzs c ob xs (a.frzs c ob xs q)
  tbls := fun c ps q => by
    obtain ⟨m1, e1⟩ := a.tbls c ps q
    obtain ⟨m2, e2⟩ := b.tbls c _ e1
    exact ⟨m1 ++ m2, by rw [e2, Array.append_assoc]⟩
theorem Un.kept (k : ∀ b u, h.get? b = some u → h'.get? b = some u) : Un fs ex H H h h' :=
  ⟨fun b ob q _ _ _ => k b ob q, fun b ob q _ _ _ => ⟨ob.slots, k b ob q⟩, fun _ _ _ n _ => n, fun b ob q _ => ⟨ob, k b ob q⟩, fun _ _ q => q, fun _ _ _ q => q, fun _ ps q => ⟨#[], by rw [q]; simp⟩⟩
theorem Un.refl : Un fs ex H H h h := Un.kept fun _ _ q => q
theorem Un.laid (k : ∀ b u, h.get? b = some u → h'.get? b = some u) (hp : h.objs.size ≤ a) (hn : H a = none) : Un fs ex H (upd H a o) h h' where
  keep := fun b u q _ _ _ => k b u q
  slot := fun b u q _ _ _ => ⟨u.slots, k b u q⟩
  free := fun b u q n _ => by rw [upd_ne (Nat.ne_of_lt (Nat.lt_of_lt_of_le (Heap.lt_size q) hp))]; exact n
  there := fun b u q _ => ⟨u, k b u q⟩
  tups := fun b xs q => by rw [upd_ne (ne_of_none q hn)]; exact q
  frzs := fun b u xs q => by rw [upd_ne (ne_of_none q hn)]; exact q
  tbls := fun b ps q => ⟨#[], by rw [upd_ne (ne_of_none q hn), q]; simp⟩
theorem Un.write (mu : Mut (H x)) (he : e = x ∨ H e = some (.own x)) (k : ∀ b u, b ≠ e → h.get? b = some u → h'.get? b = some u) (heo : ∃ u, h'.get? e = some u) : Un fs ex H (upd H x o) h h' := by
  have hx : ∀ b, H b = none → b ≠ x := fun b n z => by subst z; rw [n] at mu; exact mu
  have hb : ∀ b, H b = none → b ≠ e := fun b n z => by
    subst z
    rcases he with r | r
    · exact hx b n r
    · rw [n] at r; cases r
  have hm : ∀ b u, H b = some u → ¬ Mut (some u) → b ≠ x := fun b u q nm z => by subst z; rw [q] at mu; exact nm mu
  refine ⟨fun b u q n _ _ => k b u (hb b n) q, fun b u q n _ _ => ⟨u.slots, k b u (hb b n) q⟩, fun b u q n _ => by rw [upd_ne (hx b n)]; exact n, fun b u q _ => ?_,
    fun b xs q => by rw [upd_ne (hm b _ q fun z => z)]; exact q, fun b u xs q => by rw [upd_ne (hm b _ q fun z => z)]; exact q, fun b ps q => ⟨#[], by rw [upd_ne (hm b _ q fun z => z), q]; simp⟩⟩
  by_cases hbe : b = e
  · subst hbe; exact heo
  · exact ⟨u, k b u hbe q⟩
theorem Un.mono (u : Un fs ex H H1 h h1) (hs : ∀ b ∈ fs, b ∈ fs') (hx : ∀ b ∈ ex, b ∈ ex') : Un fs' ex' H H1 h h1 :=
  ⟨fun b ob q n hb he => u.keep b ob q n (fun z => hb (hs b z)) fun z => he (hx b z), fun _ _ q n _ he => u.any q n fun z => he (hx _ z), fun b ob q n he => u.free b ob q n fun z => he (hx b z), fun b ob q he => u.there b ob q fun z => he (hx b z), u.tups, u.frzs, u.tbls⟩
end

/-! ### the heap without what is tracked -/
def trk (h : Heap) (H : Hp) : List Addr := (List.range h.objs.size).filter fun a => (H a).isSome
def hidT (h : Heap) (H : Hp) : Heap := PySem.W.hideAll h (trk h H)
theorem hidT_size (h : Heap) (H : Hp) : (hidT h H).objs.size = h.objs.size := PySem.W.hideAll_size _ _
theorem hidT_get {h : Heap} {H : Hp} {b : Addr} {o : Obj} (e : h.get? b = some o) (n : H b = none) : (hidT h H).get? b = some o :=
  PySem.W.hideAll_get _ e fun hm => by
    have q : (H b).isSome = true := (List.mem_filter.mp hm).2
    rw [n] at q; simp at q
theorem of_hidT {h : Heap} {H : Hp} {b : Addr} {o : Obj} (e : (hidT h H).get? b = some o) : h.get? b = some o ∧ H b = none := by
  have e' : h.get? b = some o := PySem.W.of_hideAll (trk h H) e
  refine ⟨e', ?_⟩
  cases q : H b with
  | none => rfl
  | some x =>
    have hm : b ∈ trk h H := List.mem_filter.mpr ⟨List.mem_range.mpr (Heap.lt_size e'), by simp [q]⟩
    have z : (hidT h H).get? b = none := PySem.W.hideAll_none (trk h H) hm
    rw [z] at e; cases e

/-! ### OpenK's ledger, filled with every new object but one -/
def allNews (g h : Heap) (L : Addr) : List (Addr × Obj) := (List.range h.objs.size).filterMap fun a => if a = L ∨ (g.get? a).isSome = true then none else (h.get? a).map fun o => (a, o)
def rest (g h : Heap) (L d : Addr) : List (Addr × Obj) := (allNews g h L).filter fun p => decide (p.1 ≠ d)
end L2

namespace L2
open PySem PySem.Spec PyProof.Rows

/-- the module's facts, over the base: the heap at the law's entry without what is tracked there -/
structure Mod (K : PySem.W.Frag) (mg : Str → Option Value) (base : Heap) : Prop where
  kin : K.In base
  glob : base.Ns mainGlobals mg
  blt : ∃ mb, base.Ns builtinsNs mb ∧ ∀ x : Str, x ≠ "__name__" → mb x = bootBuiltins x
  nolimit : base.NoLimit

/-- the context: a def's body (or a comprehension's block) running. base: fixed through the whole law; s₀, H₀: the entry; outer: the frames whose slots others may change (a def's callers); stack: all frames that run;
   ex: iterators that were made ahead of the entry and are walked here (a comprehension's); fn: the names whose cells were made at the entry (a def: all; a comprehension's block: its own); calm: not within an except suite; pn: pins that every state bears; xe: what is wanted of an exception that leaves the code -/
structure Cx where
  prog : Program
  w : World
  K : PySem.W.Frag
  mg : Str → Option Value
  base : Heap
  A : Around
  N : List Str
  s₀ : Shared
  H₀ : Hp
  env : Env
  outer : List Env
  stack : List Env
  ex : List Addr
  fn : Str → Bool
  calm : Bool
  pn : List (Addr × Obj)
  xe : Value → Shared → Prop
/-- the callers' frames -/
def frs (l : List Env) : List Addr := l.filterMap (·.frame)
abbrev Cx.fs (X : Cx) : List Addr := frs X.outer

def Vis (sc : Scope) (x : Str) : Prop := sc.names.lookup x = some .local ∨ sc.names.lookup x = some .cell ∨ sc.names.lookup x = some .free
def Loc (sc : Scope) (x : Str) : Prop := sc.names.lookup x = some .local ∨ sc.names.lookup x = some .cell
def Look (env : Env) (h : Heap) (m : Str → Option Value) (x : Str) (u : Value) : Prop :=
  (env.kindOf x = some .local ∧ m x = some u) ∨ ((env.kindOf x = some .cell ∨ env.kindOf x = some .free) ∧ ∃ c, env.cells.lookup x = some c ∧ h.IsCell c (some u))

structure Cx.Ok (X : Cx) : Prop where
  mod : Mod X.K X.mg X.base
  kind : X.env.scope.kind = .function
  glob : X.env.globals = mainGlobals
  blt : X.env.builtins = builtinsNs
  above : X.s₀.heap.objs.size ≤ X.env.locals
  inj : ∀ x y c, X.env.cells.lookup x = some c → X.env.cells.lookup y = some c → x = y
  has : ∀ x, (X.env.kindOf x = some .cell ∨ X.env.kindOf x = some .free) → ∃ c, X.env.cells.lookup x = some c
  cab : ∀ x c, X.fn x = true → X.env.cells.lookup x = some c → X.s₀.heap.objs.size ≤ c
  hd : X.calm = true → X.A.handled = none
  frames : X.A.frames = some X.stack
  stk : X.stack = X.outer ∨ (X.stack = X.env :: X.outer ∧ X.env.frame = some X.env.locals)
  exf : ∀ b ∈ X.ex, b ≠ X.env.locals ∧ ∀ x c, X.env.cells.lookup x = some c → c ≠ b
  bs : ∀ b o, X.base.get? b = some o → X.s₀.heap.get? b = some o ∧ X.H₀ b = none
  bsz : X.base.objs.size ≤ X.s₀.heap.objs.size
  noex : ∀ b o, X.base.get? b = some o → b ∉ X.ex
  exfs : ∀ b ∈ X.ex, b ∉ X.fs
  funs : X.s₀.heap.FunFrames X.base X.outer
  frf : ∀ b ∈ X.fs, X.H₀ b = none

structure Inv (X : Cx) (pins : List (Addr × Obj)) (σ : List (Option V)) (H : Hp) (s : Shared) : Prop where
  ok : X.Ok
  os : s.os = X.s₀.os
  bare : AllBare s.gens
  base : Un X.fs X.ex X.H₀ H X.s₀.heap s.heap
  loc : ∃ m, s.heap.Ns X.env.locals m ∧ ∀ (i : Nat) (x : Str) (v : V), X.N[i]? = some x → σ[i]? = some (some v) → Vis X.env.scope x → ∃ u, RelV v u ∧ Look X.env s.heap m x u
  cell : ∀ x c, X.env.cells.lookup x = some c → ∃ v, s.heap.IsCell c v
  free : H X.env.locals = none
  freeC : ∀ x c, X.env.cells.lookup x = some c → H c = none
  pin : ∀ p ∈ X.pn ++ pins, s.heap.get? p.1 = some p.2 ∧ H p.1 = none ∧ p.1 ≠ X.env.locals ∧ p.1 ∉ X.fs ∧ ∀ v, p.2.data ≠ .cell v
  hok : HOk X.prog X.w H s.heap
  len : σ.length = X.N.length

section
variable {X : Cx} {pins : List (Addr × Obj)} {σ : List (Option V)} {H H' : Hp} {s : Shared} {h' : Heap}

theorem Cx.Ok.nofr (ok : X.Ok) {b : Addr} {o : Obj} (e : X.base.get? b = some o) : b ∉ X.fs := fun hb => by
  have := (ok.funs.mem hb).1
  rw [e] at this; cases this
theorem Inv.bs (I : Inv X pins σ H s) : ∀ b o, X.base.get? b = some o → s.heap.get? b = some o ∧ H b = none := fun b o e =>
  ⟨I.base.keep b o (I.ok.bs b o e).1 (I.ok.bs b o e).2 (I.ok.nofr e) (I.ok.noex b o e), I.base.free b o (I.ok.bs b o e).1 (I.ok.bs b o e).2 (I.ok.noex b o e)⟩
theorem Inv.bk (I : Inv X pins σ H s) : ∀ b o, X.base.get? b = some o → s.heap.get? b = some o := fun b o e => (I.bs b o e).1
theorem Inv.mod (I : Inv X pins σ H s) : Mod X.K X.mg X.base := I.ok.mod
theorem Inv.kIn (I : Inv X pins σ H s) : X.K.In s.heap := I.ok.mod.kin.keeps I.bk
theorem Inv.nolimit (I : Inv X pins σ H s) : s.heap.NoLimit := I.ok.mod.nolimit.keeps I.bk
/-- the frame over the base: for OpenK's rules (K.In X.base is I.mod.kin) -/
theorem Inv.fr (I : Inv X pins σ H s) : ∃ m, Fr X.base X.env.locals s.heap m :=
  let ⟨m, hn, _⟩ := I.loc
  ⟨m, hn, I.bk, Nat.le_trans I.ok.bsz I.ok.above⟩
theorem Inv.lt (I : Inv X pins σ H s) : X.env.locals < s.heap.objs.size := let ⟨_, hn, _⟩ := I.loc; hn.lt
theorem Inv.sz (I : Inv X pins σ H s) : X.s₀.heap.objs.size ≤ s.heap.objs.size := Nat.le_trans I.ok.above (Nat.le_of_lt I.lt)
theorem Inv.nofs (I : Inv X pins σ H s) {a : Addr} (h : s.heap.objs.size ≤ a) : a ∉ X.fs := fun hb => by
  obtain ⟨_, o, ho, _⟩ := I.ok.funs.mem hb
  exact absurd (Nat.lt_of_lt_of_le (Heap.lt_size ho) (Nat.le_trans I.sz h)) (Nat.lt_irrefl _)
theorem Inv.cne (I : Inv X pins σ H s) : ∀ x c, X.env.cells.lookup x = some c → c ≠ X.env.locals := fun x c e z => by
  obtain ⟨v, o, ho, hd⟩ := I.cell x c e
  obtain ⟨m, ⟨o', es, ep, ho', hd', _⟩, _⟩ := I.loc
  rw [z, ho'] at ho; cases ho; rw [hd'] at hd; cases hd
theorem Inv.funs (I : Inv X pins σ H s) : s.heap.FunFrames X.base X.outer := by
  have all : ∀ (l : List Env), (∀ b ∈ frs l, b ∈ X.fs) → X.s₀.heap.FunFrames X.base l → s.heap.FunFrames X.base l := by
    intro l
    induction l with
    | nil => intro _ _; trivial
    | cons env r ih =>
      intro hs hl
      obtain ⟨hk, ⟨L, o, hf, hn, ho, hd⟩, hr⟩ := hl
      have hL : L ∈ X.fs := hs L (by unfold frs; rw [List.filterMap_cons, hf]; exact List.mem_cons_self)
      obtain ⟨sl, e⟩ := I.base.slot L o ho (I.ok.frf L hL) hL fun z => I.ok.exfs L z hL
      exact ⟨hk, ⟨L, _, hf, hn, e, hd⟩, ih (fun b hb => hs b (by unfold frs; rw [List.filterMap_cons, hf]; exact List.mem_cons_of_mem _ hb)) hr⟩
  exact all X.outer (fun _ hb => hb) I.ok.funs

/-- the frames that run, for a call -/
theorem Inv.stack (I : Inv X pins σ H s) : s.heap.FunFrames X.base X.stack := by
  rcases I.ok.stk with e | ⟨e, hf⟩
  · rw [e]; exact I.funs
  · rw [e]
    obtain ⟨m, hn, _⟩ := I.loc
    refine .cons (by rw [I.ok.kind]; decide) hf hn ?_ I.funs
    exact Heap.get?_none_of_le (Nat.le_trans I.ok.bsz I.ok.above)
theorem Inv.stkSub (I : Inv X pins σ H s) : ∀ b ∈ frs X.stack, b ∈ X.env.locals :: X.fs := fun b hb => by
  rcases I.ok.stk with e | ⟨e, hf⟩
  · rw [e] at hb; exact List.mem_cons_of_mem _ hb
  · rw [e] at hb
    unfold frs at hb
    rw [List.filterMap_cons, hf] at hb
    exact hb
theorem Inv.stkFree (I : Inv X pins σ H s) : ∀ b ∈ frs X.stack, H b = none := fun b hb => by
  rcases List.mem_cons.mp (I.stkSub b hb) with e | hb
  · rw [e]; exact I.free
  · obtain ⟨_, o, ho, _⟩ := I.ok.funs.mem hb
    exact I.base.free b o ho (I.ok.frf b hb) fun z => I.ok.exfs b z hb

/-- THE STEP: the untracked objects but the frame and the records at ch are kept (the callers' frames up to slots), the frame's map is kept, the new abstract heap is held -/
theorem Inv.step {g' : Array GenState} {t' : Nat} {d' : Drawn} {ch : List Addr} (I : Inv X pins σ H s)
    (hch : ∀ b ∈ ch, (b ∈ X.ex ∨ X.s₀.heap.objs.size ≤ b) ∧ b ≠ X.env.locals ∧ (∀ x c, X.env.cells.lookup x = some c → c ≠ b) ∧ ∀ p ∈ X.pn ++ pins, p.1 ≠ b)
    (keep : ∀ b o, b ≠ X.env.locals → b ∉ X.fs → b ∉ ch → s.heap.get? b = some o → H b = none → h'.get? b = some o)
    (slot : ∀ b o, b ≠ X.env.locals → b ∈ X.fs → b ∉ ch → s.heap.get? b = some o → H b = none → ∃ sl, h'.get? b = some { o with slots := sl }) (free : ∀ b o, b ∉ ch → s.heap.get? b = some o → H b = none → H' b = none)
    (there : ∀ b o, b ∉ ch → s.heap.get? b = some o → ∃ o', h'.get? b = some o')
    (tups : ∀ b xs, H b = some (.tup xs) → H' b = some (.tup xs)) (frzs : ∀ b o u, H b = some (.frz o u) → H' b = some (.frz o u)) (tbls : ∀ b ps, H b = some (.tbl ps) → ∃ more, H' b = some (.tbl (ps ++ more)))
    (ns : ∀ m, s.heap.Ns X.env.locals m → h'.Ns X.env.locals m) (hok : HOk X.prog X.w H' h') (hg : AllBare g') :
    Inv X pins σ H' { s with heap := h', gens := g', drawn := d', toks := t' } := by
  have neL : ∀ b o, X.s₀.heap.get? b = some o → b ≠ X.env.locals := fun b o e => Nat.ne_of_lt (Nat.lt_of_lt_of_le (Heap.lt_size e) I.ok.above)
  have neC : ∀ b o, X.s₀.heap.get? b = some o → b ∉ X.ex → b ∉ ch := fun b o e hx hb => by
    rcases (hch b hb).1 with z | z
    · exact hx z
    · exact absurd (Nat.lt_of_lt_of_le (Heap.lt_size e) z) (Nat.lt_irrefl _)
  have cellK : ∀ x c, X.env.cells.lookup x = some c → ∀ v, s.heap.IsCell c v → h'.IsCell c v := fun x c e v ⟨o, ho, hd⟩ => by
    have nch : c ∉ ch := fun z => (hch c z).2.2.1 x c e rfl
    by_cases hc : c ∈ X.fs
    · obtain ⟨sl, q⟩ := slot c o (I.cne x c e) hc nch ho (I.freeC x c e)
      exact ⟨_, q, hd⟩
    · exact ⟨o, keep c o (I.cne x c e) hc nch ho (I.freeC x c e), hd⟩
  refine ⟨I.ok, I.os, hg, ⟨fun b o e n hb hx => ?_, fun b o e n hb hx => ?_, fun b o e n hx => ?_, fun b o e hx => ?_, fun b xs e => tups b xs (I.base.tups b xs e), fun b o xs e => frzs b o xs (I.base.frzs b o xs e), fun b ps e => ?_⟩, ?_, fun x c e => ?_, ?_, fun x c e => ?_, fun p hp => ?_, hok, I.len⟩
  · exact keep b o (neL b o e) hb (neC b o e hx) (I.base.keep b o e n hb hx) (I.base.free b o e n hx)
  · obtain ⟨sl, e1⟩ := I.base.slot b o e n hb hx
    obtain ⟨sl', e2⟩ := slot b _ (neL b o e) hb (neC b o e hx) e1 (I.base.free b o e n hx)
    exact ⟨sl', e2⟩
  · obtain ⟨o', e1⟩ := I.base.there b o e hx
    exact free b o' (neC b o e hx) e1 (I.base.free b o e n hx)
  · obtain ⟨o', e1⟩ := I.base.there b o e hx
    exact there b o' (neC b o e hx) e1
  · obtain ⟨m1, e1⟩ := I.base.tbls b ps e
    obtain ⟨m2, e2⟩ := tbls b _ e1
    exact ⟨m1 ++ m2, by rw [e2, Array.append_assoc]⟩
  · obtain ⟨m, hn, hl⟩ := I.loc
    refine ⟨m, ns m hn, fun i x v e1 e2 e3 => ?_⟩
    obtain ⟨u, r, l⟩ := hl i x v e1 e2 e3
    refine ⟨u, r, ?_⟩
    rcases l with l | ⟨k, c, e, z⟩
    · exact .inl l
    · exact .inr ⟨k, c, e, cellK x c e _ z⟩
  · obtain ⟨v, z⟩ := I.cell x c e
    exact ⟨v, cellK x c e v z⟩
  · obtain ⟨m, ⟨o, _, _, ho, _⟩, _⟩ := I.loc
    exact free _ o (fun z => (hch _ z).2.1 rfl) ho I.free
  · obtain ⟨v, o, ho, hd⟩ := I.cell x c e
    exact free c o (fun z => (hch c z).2.2.1 x c e rfl) ho (I.freeC x c e)
  · obtain ⟨e, n, ne, nf, d⟩ := I.pin p hp
    have nch : p.1 ∉ ch := fun z => (hch p.1 z).2.2.2 p hp rfl
    exact ⟨keep p.1 p.2 ne nf nch e n, free p.1 p.2 nch e n, ne, nf, d⟩
/-- .. where the frame's own object is kept too -/
theorem Inv.un {t' : Nat} (I : Inv X pins σ H s) (u : Un X.fs [] H H' s.heap h') (hok : HOk X.prog X.w H' h') : Inv X pins σ H' { s with heap := h', toks := t' } := by
  obtain ⟨m, ⟨o, es, ep, ho, r⟩, _⟩ := id I.loc
  obtain ⟨sl, hL⟩ := u.any ho I.free (by simp)
  exact I.step (g' := s.gens) (d' := s.drawn) (ch := []) (fun _ z => nomatch z) (fun b o _ hb _ e n => u.keep b o e n hb (by simp)) (fun b o _ hb _ e n => u.slot b o e n hb (by simp)) (fun b o _ e n => u.free b o e n (by simp)) (fun b o _ e => u.there b o e (by simp)) u.tups u.frzs u.tbls (fun m' hm => by
    obtain ⟨o', es', ep', ho', r'⟩ := hm
    rw [ho] at ho'; cases ho'
    exact ⟨_, es', ep', hL, r'⟩) hok I.bare
/-- behind a call (or a comprehension's block): the slots of this frame may have changed too, the records at ch may have turned -/
theorem Inv.call {g' : Array GenState} {t' : Nat} {d' : Drawn} {ch : List Addr} (I : Inv X pins σ H s) (u : Un (frs X.stack) ch H H' s.heap h') (hok : HOk X.prog X.w H' h') (hg : AllBare g')
    (hch : ∀ b ∈ ch, (b ∈ X.ex ∨ X.s₀.heap.objs.size ≤ b) ∧ b ≠ X.env.locals ∧ (∀ x c, X.env.cells.lookup x = some c → c ≠ b) ∧ ∀ p ∈ X.pn ++ pins, p.1 ≠ b) :
    Inv X pins σ H' { s with heap := h', gens := g', drawn := d', toks := t' } := by
  obtain ⟨m, ⟨o, es, ep, ho, r⟩, _⟩ := id I.loc
  obtain ⟨sl, hL⟩ := u.any ho I.free fun z => (hch _ z).2.1 rfl
  exact I.step (ch := ch) hch (fun b o hL hb hc e n => u.keep b o e n (fun z => (List.mem_cons.mp (I.stkSub b z)).elim hL hb) hc) (fun b o _ _ hc e n => u.any e n hc) (fun b o hc e n => u.free b o e n hc) (fun b o hc e => u.there b o e hc) u.tups u.frzs u.tbls (fun m' hm => by
    obtain ⟨o', es', ep', ho', r'⟩ := hm
    rw [ho] at ho'; cases ho'
    exact ⟨_, es', ep', hL, r'⟩) hok hg
/-- an untracked record of ours (an iterator) has turned -/
theorem Inv.turned {t' : Nat} {it : Addr} (I : Inv X pins σ H s) (k : ∀ b o, b ≠ it → s.heap.get? b = some o → h'.get? b = some o) (hn : H it = none) (hL : it ≠ X.env.locals)
    (h1 : it ∈ X.ex ∨ X.s₀.heap.objs.size ≤ it) (h2 : ∀ x c, X.env.cells.lookup x = some c → c ≠ it) (h3 : ∀ p ∈ X.pn ++ pins, p.1 ≠ it) : Inv X pins σ H { s with heap := h', toks := t' } := by
  have nit : ∀ b u, H b = some u → b ≠ it := fun b u e z => by rw [z, hn] at e; cases e
  refine I.step (g' := s.gens) (d' := s.drawn) (ch := [it]) (fun b hb => ?_) (fun b o _ _ hc e _ => k b o (fun z => hc (by simp [z])) e) (fun b o _ _ hc e _ => ⟨o.slots, k b o (fun z => hc (by simp [z])) e⟩) (fun _ _ _ _ n => n)
    (fun b o hc e => ⟨o, k b o (fun z => hc (by simp [z])) e⟩) (fun _ _ e => e) (fun _ _ _ e => e) (fun b ps e => ⟨#[], by rw [e]; simp⟩) (fun m hm => ?_) (fun b u e => ?_) I.bare
  · have e : b = it := by simpa using hb
    subst e
    exact ⟨h1, hL, h2, h3⟩
  · obtain ⟨o, es, ep, ho, r⟩ := hm
    exact ⟨o, es, ep, k _ o (Ne.symm hL) ho, r⟩
  · refine (I.hok b u e).stay (fun c v hc q => k c v ?_ q) (fun _ q => q) fun _ _ q => q
    rcases hc with z | z
    · rw [z]; exact nit b u e
    · exact nit c _ z
theorem Inv.tok (I : Inv X pins σ H s) (t : Nat) : Inv X pins σ H { s with toks := t } := I.un (h' := s.heap) (t' := t) Un.refl I.hok
/-- all objects kept -/
theorem Inv.kept {t' : Nat} (I : Inv X pins σ H s) (k : ∀ b u, s.heap.get? b = some u → h'.get? b = some u) : Inv X pins σ H { s with heap := h', toks := t' } := I.un (Un.kept k) (I.hok.kept k)
/-- a new object laid and tracked -/
theorem Inv.laid {a : Addr} {o : HO} {t' : Nat} (I : Inv X pins σ H s) (k : ∀ b u, s.heap.get? b = some u → h'.get? b = some u) (hp : s.heap.objs.size ≤ a) (new : ObjOk X.prog X.w (upd H a o) h' a o) :
    Inv X pins σ (upd H a o) { s with heap := h', toks := t' } := I.un (Un.laid k hp (I.hok.fresh hp)) (I.hok.laid k hp new)
/-- an object written -/
theorem Inv.write {x e : Addr} {o : HO} {t' : Nat} (I : Inv X pins σ H s) (mu : Mut (H x)) (he : e = x ∨ H e = some (.own x)) (k : ∀ b u, b ≠ e → s.heap.get? b = some u → h'.get? b = some u) (heo : ∃ u, h'.get? e = some u)
    (new : ObjOk X.prog X.w (upd H x o) h' x o) : Inv X pins σ (upd H x o) { s with heap := h', toks := t' } := I.un (Un.write mu he k heo) (I.hok.write mu he k heo new)
/-- forgetting slots, pins -/
theorem Inv.weak {σ' : List (Option V)} (I : Inv X pins σ H s) (hl : σ'.length = σ.length) (w : ∀ (i : Nat) v, σ'[i]? = some (some v) → σ[i]? = some (some v)) : Inv X pins σ' H s :=
  ⟨I.ok, I.os, I.bare, I.base, let ⟨m, hn, hl'⟩ := I.loc; ⟨m, hn, fun i x v e1 e2 e3 => hl' i x v e1 (w i v e2) e3⟩, I.cell, I.free, I.freeC, I.pin, I.hok, hl.trans I.len⟩
theorem Inv.pins_of {pins' : List (Addr × Obj)} (I : Inv X pins σ H s) (h : ∀ p ∈ pins', s.heap.get? p.1 = some p.2 ∧ H p.1 = none ∧ p.1 ≠ X.env.locals ∧ p.1 ∉ X.fs ∧ ∀ v, p.2.data ≠ .cell v) : Inv X pins' σ H s :=
  ⟨I.ok, I.os, I.bare, I.base, I.loc, I.cell, I.free, I.freeC, fun p hp => (List.mem_append.mp hp).elim (fun z => I.pin p (List.mem_append_left _ z)) (h p), I.hok, I.len⟩

theorem nodup_ix {N : List Str} (hN : N.Nodup) {i j : Nat} {x : Str} (a : N[i]? = some x) (b : N[j]? = some x) : i = j := by
  obtain ⟨h1, e1⟩ := List.getElem?_eq_some_iff.mp a
  obtain ⟨h2, e2⟩ := List.getElem?_eq_some_iff.mp b
  exact (List.getElem_inj hN).mp (e1.trans e2.symm)

/-- a name is stored; what changed -/
theorem store_ok2 {M : Model} {A : Around} {E : Value → Shared → Prop} {i : Nat} {x : Str} {v : V} {u : Value} {Q : Unit → Shared → Prop} (I : Inv X pins σ H s) (hN : X.N.Nodup) (hi : X.N[i]? = some x) (hx : Loc X.env.scope x) (r : RelV v u)
    (h : ∀ s', Inv X pins (σ.set i (some v)) H s' → (∃ a, Heap.SameBut a s.heap s'.heap ∧ (a = X.env.locals ∨ X.env.cells.lookup x = some a)) → Q () s') (hf : X.fn x = true ∨ X.env.scope.names.lookup x = some .local := by first | exact .inl rfl | exact .inr rfl | assumption) : wpAny M A (storeName X.env x u) Q E s := by
  obtain ⟨m, hn, hl⟩ := id I.loc
  have hcls : (X.env.scope.kind == .class || (X.env.scope.kind == .module && X.env.locals != X.env.globals)) = false := by rw [I.ok.kind]; rfl
  have hiσ : i < σ.length := by rw [I.len]; exact (List.getElem?_eq_some_iff.mp hi).1
  have cne := I.cne
  have tracked : ∀ {a : Addr} {h' : Heap}, (∃ o, s.heap.get? a = some o ∧ H a = none) → Heap.SameBut a s.heap h' → HOk X.prog X.w H h' := fun {a h'} ha hs b ob e => by
    obtain ⟨_, _, hfree⟩ := ha
    refine (I.hok b ob e).stay (fun c w' hc q => (hs.2 c ?_).trans q) (fun _ q => q) fun _ _ q => q
    rintro rfl
    rcases hc with rfl | hc
    · rw [hfree] at e; cases e
    · rw [hfree] at hc; cases hc
  rcases hx with hk | hk
  · refine wpAny_storeName_local hk hn (fun h' hn' hs => ?_) hcls
    obtain ⟨oL, _, _, hoL, _⟩ := id hn
    refine h _ ⟨I.ok, I.os, I.bare, ⟨fun b o e n hb hx => ?_, fun b o e n hb hx => ?_, I.base.free, fun b o e hx => ?_, I.base.tups, I.base.frzs, I.base.tbls⟩, ⟨_, hn', fun j y v' e1 e2 e3 => ?_⟩, fun y c e => ?_, I.free, I.freeC, fun p hp => ?_, tracked ⟨oL, hoL, I.free⟩ hs, by simpa using I.len⟩ ⟨_, hs, .inl rfl⟩
    · exact (hs.2 b (Nat.ne_of_lt (Nat.lt_of_lt_of_le (Heap.lt_size e) I.ok.above))).trans (I.base.keep b o e n hb hx)
    · obtain ⟨sl, e1⟩ := I.base.slot b o e n hb hx
      exact ⟨sl, (hs.2 b (Nat.ne_of_lt (Nat.lt_of_lt_of_le (Heap.lt_size e) I.ok.above))).trans e1⟩
    · obtain ⟨o', e1⟩ := I.base.there b o e hx
      exact ⟨o', (hs.2 b (Nat.ne_of_lt (Nat.lt_of_lt_of_le (Heap.lt_size e) I.ok.above))).trans e1⟩
    · by_cases hj : j = i
      · subst hj
        rw [hi] at e1; cases e1
        rw [List.getElem?_set_self hiσ] at e2
        cases e2
        exact ⟨u, r, .inl ⟨hk, by simp⟩⟩
      · rw [List.getElem?_set_ne (Ne.symm hj)] at e2
        obtain ⟨u', r', q⟩ := hl j y v' e1 e2 e3
        refine ⟨u', r', ?_⟩
        rcases q with ⟨k, e⟩ | ⟨k, c, e, z⟩
        · refine .inl ⟨k, ?_⟩
          have : y ≠ x := fun e => hj (nodup_ix hN e1 (e ▸ hi))
          simp [this, e]
        · exact .inr ⟨k, c, e, z.sameBut hs (cne y c e)⟩
    · obtain ⟨w', z⟩ := I.cell y c e
      exact ⟨w', z.sameBut hs (cne y c e)⟩
    · obtain ⟨e, n, ne, nf, d⟩ := I.pin p hp
      exact ⟨(hs.2 p.1 ne).trans e, n, ne, nf, d⟩
  · have hfn : X.fn x = true := by
      rcases hf with z | z
      · exact z
      · rw [z] at hk; cases hk
    obtain ⟨c, hc⟩ := I.ok.has x (.inl hk)
    obtain ⟨w', z⟩ := I.cell x c hc
    refine wpAny_storeName_cell I.ok.kind hk hc z (fun h' hc' hs => ?_)
    obtain ⟨oc, hoc, hocd⟩ := id z
    refine h { s with heap := h' } ⟨I.ok, I.os, I.bare, ⟨fun b o e n hb hx => ?_, fun b o e n hb hx => ?_, I.base.free, fun b o e hx => ?_, I.base.tups, I.base.frzs, I.base.tbls⟩, ⟨m, hn.sameBut hs (Ne.symm (cne x c hc)), fun j y v' e1 e2 e3 => ?_⟩, fun y c' e => ?_, I.free, I.freeC, fun p hp => ?_, tracked ⟨oc, hoc, I.freeC x c hc⟩ hs, by simpa using I.len⟩ ⟨c, hs, .inr hc⟩
    · exact (hs.2 b (Nat.ne_of_lt (Nat.lt_of_lt_of_le (Heap.lt_size e) (I.ok.cab x c hfn hc)))).trans (I.base.keep b o e n hb hx)
    · obtain ⟨sl, e1⟩ := I.base.slot b o e n hb hx
      exact ⟨sl, (hs.2 b (Nat.ne_of_lt (Nat.lt_of_lt_of_le (Heap.lt_size e) (I.ok.cab x c hfn hc)))).trans e1⟩
    · obtain ⟨o', e1⟩ := I.base.there b o e hx
      exact ⟨o', (hs.2 b (Nat.ne_of_lt (Nat.lt_of_lt_of_le (Heap.lt_size e) (I.ok.cab x c hfn hc)))).trans e1⟩
    · by_cases hj : j = i
      · subst hj
        rw [hi] at e1; cases e1
        rw [List.getElem?_set_self hiσ] at e2
        cases e2
        exact ⟨u, r, .inr ⟨.inl hk, c, hc, hc'⟩⟩
      · rw [List.getElem?_set_ne (Ne.symm hj)] at e2
        obtain ⟨u', r', q⟩ := hl j y v' e1 e2 e3
        refine ⟨u', r', ?_⟩
        rcases q with q | ⟨k, c', e, z'⟩
        · exact .inl q
        · refine .inr ⟨k, c', e, z'.sameBut hs ?_⟩
          rintro rfl
          exact hj (nodup_ix hN e1 (I.ok.inj _ _ _ e hc ▸ hi))
    · by_cases hcc : c' = c
      · subst hcc; exact ⟨_, hc'⟩
      · obtain ⟨w2, z2⟩ := I.cell y c' e
        exact ⟨w2, z2.sameBut hs hcc⟩
    · obtain ⟨e, n, ne, nf, d⟩ := I.pin p hp
      refine ⟨(hs.2 p.1 ?_).trans e, n, ne, nf, d⟩
      intro q
      rw [q, hoc] at e
      have q' : oc = p.2 := Option.some.inj e
      exact d w' (by rw [← q']; exact hocd)
theorem store_ok {M : Model} {A : Around} {E : Value → Shared → Prop} {i : Nat} {x : Str} {v : V} {u : Value} {Q : Unit → Shared → Prop} (I : Inv X pins σ H s) (hN : X.N.Nodup) (hi : X.N[i]? = some x) (hx : Loc X.env.scope x) (r : RelV v u)
    (h : ∀ s', Inv X pins (σ.set i (some v)) H s' → Q () s') (hf : X.fn x = true ∨ X.env.scope.names.lookup x = some .local := by first | exact .inl rfl | exact .inr rfl | assumption) : wpAny M A (storeName X.env x u) Q E s :=
  store_ok2 I hN hi hx r (fun s' I' _ => h s' I') hf
/-- behind a call or a block, the state as it is -/
theorem Inv.call' {s' : Shared} {ch : List Addr} (I : Inv X pins σ H s) (ho : s'.os = s.os) (u : Un (frs X.stack) ch H H' s.heap s'.heap) (hok : HOk X.prog X.w H' s'.heap) (hg : AllBare s'.gens)
    (hch : ∀ b ∈ ch, (b ∈ X.ex ∨ X.s₀.heap.objs.size ≤ b) ∧ b ≠ X.env.locals ∧ (∀ x c, X.env.cells.lookup x = some c → c ≠ b) ∧ ∀ p ∈ X.pn ++ pins, p.1 ≠ b) : Inv X pins σ H' s' := by
  obtain ⟨h', g', d', t', o'⟩ := s'
  have e : o' = s.os := ho
  subst e
  exact I.call (g' := g') (t' := t') (d' := d') u hok hg hch
end

/-! ### the judgements -/
/-- an exception: its class, its own dict's address (where it has one), the abstract heap behind it -/
abbrev XK := Value → Option Addr → Hp → Prop
abbrev St := List (Option V)
abbrev VK := V → Hp → Prop
/-- an expression's reading; a test's; an argument list's -/
abbrev TE := St → Hp → VK → Prop
abbrev TT := St → Hp → (Bool → Hp → Prop) → Prop
abbrev TA := St → Hp → (List V → Hp → Prop) → Prop
/-- what is wanted behind a statement -/
structure Ends where
  nx : St → Hp → Prop
  rt : VK
  bk : St → Hp → Prop := fun _ _ => False
  ct : St → Hp → Prop := fun _ _ => False
abbrev TS := Ends → St → Hp → Prop

def EP (X : Cx) (pins : List (Addr × Obj)) (σ : St) (Q : VK) (u : Value) (s' : Shared) : Prop := ∃ v H', Inv X pins σ H' s' ∧ RelV v u ∧ Q v H'
def TP (X : Cx) (pins : List (Addr × Obj)) (σ : St) (Q : Bool → Hp → Prop) (b : Bool) (s' : Shared) : Prop := ∃ H', Inv X pins σ H' s' ∧ Q b H'
def AP (X : Cx) (pins : List (Addr × Obj)) (σ : St) (Q : List V → Hp → Prop) (us : List Value) (s' : Shared) : Prop := ∃ vs H', Inv X pins σ H' s' ∧ Vals vs us ∧ Q vs H'
def SP (X : Cx) (pins : List (Addr × Obj)) (D : Ends) (f : Flow) (s' : Shared) : Prop :=
  match f with
  | .next => ∃ σ' H', Inv X pins σ' H' s' ∧ D.nx σ' H'
  | .brk => ∃ σ' H', Inv X pins σ' H' s' ∧ D.bk σ' H'
  | .cont => ∃ σ' H', Inv X pins σ' H' s' ∧ D.ct σ' H'
  | .ret u => ∃ v σ' H', Inv X pins σ' H' s' ∧ RelV v u ∧ D.rt v H'

def PE (X : Cx) (e : Expr) (t : TE) : Prop :=
  ∀ (pins : List (Addr × Obj)) (s : Shared) (σ : St) (H : Hp) (Q : VK), Inv X pins σ H s → t σ H Q → wpAny (model X.prog X.w) X.A (eval e X.env) (EP X pins σ Q) X.xe s
def PT (X : Cx) (e : Expr) (t : TT) : Prop :=
  ∀ (pins : List (Addr × Obj)) (s : Shared) (σ : St) (H : Hp) (Q : Bool → Hp → Prop), Inv X pins σ H s → t σ H Q → wpAny (model X.prog X.w) X.A (isTrue e X.env (eval e X.env)) (TP X pins σ Q) X.xe s
/-- a test whatever its 'whole' is (and, or) -/
def PW (X : Cx) (e : Expr) (t : TT) : Prop :=
  ∀ (whole : Sem Value) (pins : List (Addr × Obj)) (s : Shared) (σ : St) (H : Hp) (Q : Bool → Hp → Prop), Inv X pins σ H s → t σ H Q → wpAny (model X.prog X.w) X.A (isTrue e X.env whole) (TP X pins σ Q) X.xe s
theorem PW.pt {X : Cx} {e : Expr} {t : TT} (h : PW X e t) : PT X e t := h _
/-- an argument list (no star), from the left -/
def PA (X : Cx) (es : List Expr) (t : TA) : Prop :=
  ∀ (pos : Pos) (pins : List (Addr × Obj)) (s : Shared) (σ : St) (H : Hp) (Q : List V → Hp → Prop), Inv X pins σ H s → t σ H Q → wpAny (model X.prog X.w) X.A (spliced (backTo pos (starEach es X.env))) (AP X pins σ Q) X.xe s
def PS (X : Cx) (st : Stmt) (t : TS) : Prop :=
  ∀ (pins : List (Addr × Obj)) (s : Shared) (σ : St) (H : Hp) (D : Ends), Inv X pins σ H s → t D σ H → wpAny (model X.prog X.w) X.A (exec st X.env) (SP X pins D) X.xe s
def PSs (X : Cx) (st : List Stmt) (t : TS) : Prop :=
  ∀ (pins : List (Addr × Obj)) (s : Shared) (σ : St) (H : Hp) (D : Ends), Inv X pins σ H s → t D σ H → wpAny (model X.prog X.w) X.A (execs st X.env) (SP X pins D) X.xe s
/-- weaken the end -/
theorem thn {α : Type} {t : Sem α} {Q Q' : α → Shared → Prop} {M : Model} {A : Around} {E : Value → Shared → Prop} {s : Shared} (h : wpAny M A t Q E s) (hQ : ∀ a s, Q a s → Q' a s) : wpAny M A t Q' E s := wpAny_mono h hQ fun _ _ x => x
end L2

namespace L2
open PySem PySem.Spec PyProof.Rows
section
variable {X : Cx}


/-! ### names and constants -/
def tVar (i : Nat) : TE := fun σ H Q => ∃ v, σ[i]? = some (some v) ∧ Q v H
def tC (v : V) : TE := fun _ H Q => Q v H
theorem pe_var {i : Nat} {x : Str} {pos : Pos} (hN : X.N[i]? = some x) (hv : Vis X.env.scope x) (hd : (x == ("__debug__" : Str)) = false := by decide) (hcd : (x == ("__classdict__" : Str)) = false := by decide) : PE X (.Name x pos) (tVar i) := by
  intro pins s σ H Q I h
  obtain ⟨v, e, h⟩ := h
  obtain ⟨m, hn, hl⟩ := I.loc
  obtain ⟨u, r, l⟩ := hl i x v hN e hv
  have fin : EP X pins σ Q u s := ⟨v, H, I, r, h⟩
  rcases l with ⟨hk, hm⟩ | ⟨hk, c, hc, hcell⟩
  · exact wpAny_Name (wpAny_loadName_local I.ok.kind hk hn hm fin) hd
  · rcases hk with hk | hk
    · exact wpAny_Name (wpAny_loadName_cell I.ok.kind hk hc hcell fin) hd
    · exact wpAny_Name (wpAny_loadName_free I.ok.kind hk hc hcell fin hcd) hd
theorem pe_int {i j pos} : PE X (.Constant (.int i) j pos) (tC (.int i)) := fun _ _ _ H _ I h => wpAny_Constant_int ⟨.int i, H, I.tok _, ⟨_, rfl⟩, h⟩
theorem pe_bl {b j pos} : PE X (.Constant (.bool b) j pos) (tC (.bl b)) := fun _ _ _ H _ I h => Constant_bool ⟨.bl b, H, I, rfl, h⟩
theorem pe_str {x j pos} : PE X (.Constant (.str x) j pos) (tC (.str x)) := fun _ _ _ H _ I h => Calls.Constant_str ⟨.str x, H, I.tok _, ⟨_, rfl⟩, h⟩

/-- a global name of the def -/
def Gl (X : Cx) (x : Str) : Prop := X.env.kindOf x = some .globalImplicit
theorem ld_glob {E : Value → Shared → Prop} {pins : List (Addr × Obj)} {s : Shared} {σ : St} {H : Hp} {x : Str} {u : Value} {pos : Pos} {Q : Value → Shared → Prop} (I : Inv X pins σ H s) (hg : Gl X x) (hm : X.mg x = some u) (h : Q u s)
    (hd : (x == ("__debug__" : Str)) = false := by decide) : wpAny (model X.prog X.w) X.A (eval (.Name x pos) X.env) Q E s :=
  Calls.Name_function_global I.ok.kind hg (Calls.loadGlobal_global (by rw [I.ok.glob]; exact I.mod.glob.keeps I.bk) hm h) hd
theorem ld_blt {E : Value → Shared → Prop} {pins : List (Addr × Obj)} {s : Shared} {σ : St} {H : Hp} {x : Str} {u : Value} {pos : Pos} {Q : Value → Shared → Prop} (I : Inv X pins σ H s) (hg : Gl X x) (hm : X.mg x = none) (hv : bootBuiltins x = some u) (h : Q u s)
    (hn : x ≠ "__name__" := by decide) (hd : (x == ("__debug__" : Str)) = false := by decide) : wpAny (model X.prog X.w) X.A (eval (.Name x pos) X.env) Q E s := by
  obtain ⟨mb, h1, h2⟩ := I.mod.blt
  exact Calls.Name_function_global I.ok.kind hg (Calls.loadGlobal_builtin (by rw [I.ok.glob]; exact I.mod.glob.keeps I.bk) hm (by rw [I.ok.blt]; exact h1.keeps I.bk) ((h2 x hn).trans hv) h) hd
theorem pe_bltn {x : Str} {v : V} {u : Value} {pos : Pos} (hg : Gl X x) (hm : X.mg x = none) (hv : bootBuiltins x = some u) (r : RelV v u) (hn : x ≠ "__name__" := by decide) (hd : (x == ("__debug__" : Str)) = false := by decide) : PE X (.Name x pos) (tC v) :=
  fun _ _ _ H _ I h => ld_blt I hg hm hv ⟨v, H, I, r, h⟩ hn hd

/-! ### arithmetic -/
/-- two ints -/
def t2I (ta tb : TE) (k : Int → Int → Hp → Prop) : St → Hp → Prop := fun σ H => ta σ H fun x H1 => tb σ H1 fun y H2 => ∃ i j, x = .int i ∧ y = .int j ∧ k i j H2
def tAdd (ta tb : TE) : TE := fun σ H Q => t2I ta tb (fun i j H2 => Q (.int (i + j)) H2) σ H
def tSub (ta tb : TE) : TE := fun σ H Q => t2I ta tb (fun i j H2 => Q (.int (i - j)) H2) σ H
/-- the left factor below 2^64 -/
def tMul (ta tb : TE) : TE := fun σ H Q => t2I ta tb (fun i j H2 => (-(2 ^ 64) < i ∧ i < 2 ^ 64) ∧ Q (.int (i * j)) H2) σ H
variable {a b : Expr} {ta tb : TE} {pos : Pos}

/-! ### comparisons -/
def PC (X : Cx) (op : CmpOp) (a b : Expr) (t : TE) : Prop :=
  ∀ (pins : List (Addr × Obj)) (s : Shared) (σ : St) (H : Hp) (Q : VK), Inv X pins σ H s → t σ H Q →
    wpAny (model X.prog X.w) X.A (eval a X.env) (fun v s₁ => wpAny (model X.prog X.w) X.A (eval b X.env) (fun u s₂ => wpAny (model X.prog X.w) X.A (compareOp op v u) (EP X pins σ Q) X.xe s₂) X.xe s₁) X.xe s
def tCmp (p : Int → Int → Bool) (ta tb : TE) : TE := fun σ H Q => t2I ta tb (fun i j H2 => Q (.bl (p i j)) H2) σ H
abbrev tLt : TE → TE → TE := tCmp fun i j => decide (i < j)
abbrev tLe : TE → TE → TE := tCmp fun i j => decide (i ≤ j)
abbrev tGt : TE → TE → TE := tCmp fun i j => decide (j < i)
abbrev tGe : TE → TE → TE := tCmp fun i j => decide (j ≤ i)
abbrev tEqI : TE → TE → TE := tCmp fun i j => decide (i = j)
abbrev tNeI : TE → TE → TE := tCmp fun i j => !decide (i = j)
/-- is None -/
def tIsN (ta : TE) : TE := fun σ H Q => ta σ H fun x H1 => Q (.bl (decide (x = .non))) H1
def tNotN (ta : TE) : TE := fun σ H Q => ta σ H fun x H1 => Q (.bl (!decide (x = .non))) H1
/-- a comparison as a value, as a test -/
def tB (t : TE) : TT := fun σ H Q => t σ H fun x H1 => ∃ c, x = .bl c ∧ Q c H1
/-- an expression whose value is a bool, as a test -/
theorem pt_val {e : Expr} {t : TE} (h : PE X e t) (he : ∀ whole, isTrue e X.env whole = (do let v ← whole; standAt e.pos; holding [v] (truthy v)) := by intro _; rfl) : PT X e (tB t) := by
  intro pins s σ H Q I hw
  refine isTrue_plain (thn (h pins s σ H _ I hw) fun v s1 ⟨x, H1, I1, r1, q1⟩ => ?_) (he _)
  obtain ⟨d, rfl, q⟩ := q1
  cases r1
  exact wpAny_truthy_bool ⟨H1, I1, q⟩

/-! ### and, or, not -/
variable {tA tB' : TT} {rest : List Expr}
def tAnd (t u : TT) : TT := fun σ H Q => t σ H fun c H1 => if c = true then u σ H1 Q else Q false H1
def tOr (t u : TT) : TT := fun σ H Q => t σ H fun c H1 => if c = true then Q true H1 else u σ H1 Q
def tNot (t : TT) : TT := fun σ H Q => t σ H fun c H1 => Q (!c) H1
theorem pw_and1 (ha : PT X a tA) : PW X (.BoolOp .And [a] pos) tA := by
  intro wh pins s σ H Q I h
  refine isTrue_and (thn (ha pins s σ H Q I h) fun c s1 e => ?_)
  cases c with
  | true => exact isTrue_and_nil e
  | false => exact e
theorem pw_or1 (ha : PT X a tA) : PW X (.BoolOp .Or [a] pos) tA := by
  intro wh pins s σ H Q I h
  refine isTrue_or (thn (ha pins s σ H Q I h) fun c s1 e => ?_)
  cases c with
  | false => exact isTrue_or_nil e
  | true => exact e
theorem pw_and (ha : PT X a tA) (hb : PW X (.BoolOp .And (b :: rest) pos) tB') : PW X (.BoolOp .And (a :: b :: rest) pos) (tAnd tA tB') := by
  intro wh pins s σ H Q I h
  refine isTrue_and (thn (ha pins s σ H _ I h) fun c s1 ⟨H1, I1, q1⟩ => ?_)
  cases c with
  | true => exact hb wh pins s1 σ H1 Q I1 q1
  | false => exact ⟨H1, I1, q1⟩
theorem pw_or (ha : PT X a tA) (hb : PW X (.BoolOp .Or (b :: rest) pos) tB') : PW X (.BoolOp .Or (a :: b :: rest) pos) (tOr tA tB') := by
  intro wh pins s σ H Q I h
  refine isTrue_or (thn (ha pins s σ H _ I h) fun c s1 ⟨H1, I1, q1⟩ => ?_)
  cases c with
  | true => exact ⟨H1, I1, q1⟩
  | false => exact hb wh pins s1 σ H1 Q I1 q1
theorem pt_not (ha : PT X a tA) : PT X (.UnaryOp .Not a pos) (tNot tA) := by
  intro pins s σ H Q I h
  exact isTrue_not (ha pins s σ H (fun c H1 => Q (!c) H1) I h)
/-- .. as values (bools) -/
def tAndV (ta tb : TE) : TE := fun σ H Q => ta σ H fun x H1 => ∃ c, x = .bl c ∧ if c = true then tb σ H1 Q else Q (.bl false) H1
def tOrV (ta tb : TE) : TE := fun σ H Q => ta σ H fun x H1 => ∃ c, x = .bl c ∧ if c = true then Q (.bl true) H1 else tb σ H1 Q
def tNotV (ta : TE) : TE := fun σ H Q => ta σ H fun x H1 => ∃ c, x = .bl c ∧ Q (.bl (!c)) H1
theorem pe_one {op} {t : TE} (h : PE X a t) : PE X (.BoolOp op [a] pos) t := fun pins s σ H Q I hw => BoolOp_one (h pins s σ H Q I hw)
theorem pe_and (ha : PE X a ta) (hb : PE X (.BoolOp .And (b :: rest) pos) tb) : PE X (.BoolOp .And (a :: b :: rest) pos) (tAndV ta tb) := by
  intro pins s σ H Q I h
  refine BoolOp_and (thn (ha pins s σ H _ I h) fun v s1 ⟨x, H1, I1, r1, q1⟩ => ?_)
  obtain ⟨c, rfl, q1⟩ := q1
  cases r1
  refine wpAny_truthy_bool ?_
  cases c with
  | true => exact hb pins s1 σ H1 Q I1 q1
  | false => exact ⟨.bl false, H1, I1, rfl, q1⟩
/-- a if t else b -/
def tIf (t : TT) (ta tb : TE) : TE := fun σ H Q => t σ H fun c H1 => if c = true then ta σ H1 Q else tb σ H1 Q
end
end L2

namespace L2
open PySem PySem.Spec PyProof.Rows

/-! ### a list, a tuple that is read: tracked, frozen, or an object of the module -/
def SqL (K : PySem.W.Frag) (H : Hp) (a : Addr) (xs : List V) : Prop :=
  Rd H a (.lst xs) ∨
    ∃ (o : Obj) (its : Array Value) (n : Nat), K.lookup a = some o ∧ o.cls = .type "list" ∧ o.dict = none ∧ o.data = .seq its n ∧ its.size ≤ sizeLine ∧ Vals xs its.toList
def SqT (K : PySem.W.Frag) (H : Hp) (a : Addr) (xs : List V) : Prop :=
  Rd H a (.tup xs) ∨
    ∃ (o : Obj) (its : Array Value) (n : Nat), K.lookup a = some o ∧ o.cls = .type "tuple" ∧ o.data = .seq its n ∧ its.size ≤ sizeLine ∧ Vals xs its.toList
def absV : Value → Option V
  | .none => some .non
  | .bool b => some (.bl b)
  | .int i _ => some (.int i)
  | .str x _ => some (.str x)
  | .bytes b _ => some (.byt b)
  | .float b _ => some (.flt b)
  | .ref a => some (.ref a)
  | .type n => some (.ty n)
  | _ => none
theorem RelV.abs {x : V} {u : Value} (r : RelV x u) : absV u = some x := by
  cases x with
  | non => cases r; rfl
  | bl _ => cases r; rfl
  | int _ => obtain ⟨t, rfl⟩ := r; rfl
  | str _ => obtain ⟨t, rfl⟩ := r; rfl
  | byt _ => obtain ⟨t, rfl⟩ := r; rfl
  | flt _ => obtain ⟨t, rfl⟩ := r; rfl
  | ref _ => cases r; rfl
  | ty _ => cases r; rfl
theorem RelV.inj {x y : V} {u : Value} (r : RelV x u) (q : RelV y u) : x = y := Option.some.inj (r.abs.symm.trans q.abs)
theorem Vals.inj : ∀ {xs ys : List V} {us : List Value}, Vals xs us → Vals ys us → xs = ys
  | _, _, _, .nil, .nil => rfl
  | _, _, _, .cons r t, .cons r' t' => by rw [r.inj r', Vals.inj t t']
section
variable {X : Cx} {pins : List (Addr × Obj)} {σ : St} {H : Hp} {s : Shared} {a : Addr} {xs ys : List V}
theorem SqL.of {K : PySem.W.Frag} (h : H a = some (.lst xs)) : SqL K H a xs := .inl (.inl h)
theorem SqT.of {K : PySem.W.Frag} (h : H a = some (.tup xs)) : SqT K H a xs := .inl (.inl h)
theorem Inv.list (I : Inv X pins σ H s) (h : SqL X.K H a xs) : ∃ its : List Value, Vals xs its ∧ PlainL s.heap a its.toArray ∧ xs.length ≤ sizeLine := by
  rcases h with h | ⟨o, its, n, hk, hc, hd, hs, hz, r⟩
  · obtain ⟨z, its, n, r, e⟩ := h.ok I.hok
    exact ⟨its, r, ⟨_, n, e, rfl, rfl, rfl⟩, z⟩
  · refine ⟨its.toList, r, ⟨o, n, I.kIn a o hk, hc, hd, by simpa using hs⟩, ?_⟩
    have e := r.length
    simp only [Array.length_toList] at e
    omega
theorem Inv.tuple (I : Inv X pins σ H s) (h : SqT X.K H a xs) : ∃ its : List Value, Vals xs its ∧ IsTup s.heap a its.toArray ∧ xs.length ≤ sizeLine := by
  rcases h with h | ⟨o, its, n, hk, hc, hs, hz, r⟩
  · obtain ⟨z, its, r, p⟩ := h.ok I.hok
    exact ⟨its, r, p.tup, z⟩
  · refine ⟨its.toList, r, ⟨o, I.kIn a o hk, hc, n, by simpa using hs⟩, ?_⟩
    have e := r.length
    simp only [Array.length_toList] at e
    omega
theorem Inv.list_inj (I : Inv X pins σ H s) (h : SqL X.K H a xs) (h' : SqL X.K H a ys) : xs = ys := by
  obtain ⟨its, r, ⟨o, n, e, _, _, d⟩, _⟩ := I.list h
  obtain ⟨its', r', ⟨o', n', e', _, _, d'⟩, _⟩ := I.list h'
  rw [e] at e'; cases e'
  rw [d] at d'
  injection d' with d1 _
  have : its = its' := by simpa using congrArg Array.toList d1
  subst this
  exact r.inj r'
theorem Inv.tuple_inj (I : Inv X pins σ H s) (h : SqT X.K H a xs) (h' : SqT X.K H a ys) : xs = ys := by
  obtain ⟨its, r, ⟨o, e, _, n, d⟩, _⟩ := I.tuple h
  obtain ⟨its', r', ⟨o', e', _, n', d'⟩, _⟩ := I.tuple h'
  rw [e] at e'; cases e'
  rw [d] at d'
  injection d' with d1 _
  have : its = its' := by simpa using congrArg Array.toList d1
  subst this
  exact r.inj r'
end

/-! ### another wish about exceptions -/
abbrev Cx.wish (X : Cx) (E : Value → Shared → Prop) : Cx := { X with xe := E }
/-- no exception leaves -/
abbrev Cx.nox (X : Cx) : Cx := X.wish fun _ _ => False
theorem Cx.Ok.wish {X : Cx} (ok : X.Ok) (E : Value → Shared → Prop) : (X.wish E).Ok :=
  ⟨ok.mod, ok.kind, ok.glob, ok.blt, ok.above, ok.inj, ok.has, ok.cab, ok.hd, ok.frames, ok.stk, ok.exf, ok.bs, ok.bsz, ok.noex, ok.exfs, ok.funs, ok.frf⟩
theorem Cx.Ok.unwish {X : Cx} {E : Value → Shared → Prop} (ok : (X.wish E).Ok) : X.Ok :=
  ⟨ok.mod, ok.kind, ok.glob, ok.blt, ok.above, ok.inj, ok.has, ok.cab, ok.hd, ok.frames, ok.stk, ok.exf, ok.bs, ok.bsz, ok.noex, ok.exfs, ok.funs, ok.frf⟩
section
variable {X : Cx} {pins : List (Addr × Obj)} {σ : St} {H : Hp} {s : Shared} {E : Value → Shared → Prop}
theorem Inv.wish (I : Inv X pins σ H s) (E : Value → Shared → Prop) : Inv (X.wish E) pins σ H s := ⟨I.ok.wish E, I.os, I.bare, I.base, I.loc, I.cell, I.free, I.freeC, I.pin, I.hok, I.len⟩
theorem Inv.unwish (I : Inv (X.wish E) pins σ H s) : Inv X pins σ H s := ⟨I.ok.unwish, I.os, I.bare, I.base, I.loc, I.cell, I.free, I.freeC, I.pin, I.hok, I.len⟩
theorem SP.unwish {D : Ends} {f : Flow} {s' : Shared} (h : SP (X.wish E) pins D f s') : SP X pins D f s' := by
  cases f with
  | next => obtain ⟨σ', H', I, q⟩ := h; exact ⟨σ', H', I.unwish, q⟩
  | brk => obtain ⟨σ', H', I, q⟩ := h; exact ⟨σ', H', I.unwish, q⟩
  | cont => obtain ⟨σ', H', I, q⟩ := h; exact ⟨σ', H', I.unwish, q⟩
  | ret u => obtain ⟨v, σ', H', I, r, q⟩ := h; exact ⟨v, σ', H', I.unwish, r, q⟩
theorem PE.nox {e : Expr} {t : TE} (h : PE X.nox e t) : PE X e t := fun pins s σ H Q I hw =>
  wpAny_mono (h pins s σ H Q (I.wish _) hw) (fun _ _ ⟨v, H', I', r, q⟩ => ⟨v, H', I'.unwish, r, q⟩) fun _ _ z => False.elim z
theorem PT.nox {e : Expr} {t : TT} (h : PT X.nox e t) : PT X e t := fun pins s σ H Q I hw =>
  wpAny_mono (h pins s σ H Q (I.wish _) hw) (fun _ _ ⟨H', I', q⟩ => ⟨H', I'.unwish, q⟩) fun _ _ z => False.elim z
theorem PSs.nox {st : List Stmt} {t : TS} (h : PSs X.nox st t) : PSs X st t := fun pins s σ H D I hw =>
  wpAny_mono (h pins s σ H D (I.wish _) hw) (fun _ _ q => q.unwish) fun _ _ z => False.elim z
end

/-! ### blocks and small statements -/
section
variable {X : Cx} {st : Stmt} {rest : List Stmt} {t u : TS} {e : Expr} {te : TE} {pos : Pos}
def tNext : TS := fun D σ H => D.nx σ H
def tSeq (t u : TS) : TS := fun D σ H => t { D with nx := u D } σ H
theorem pss_nil : PSs X [] tNext := fun _ _ σ H _ I h => wpAny_execs_nil ⟨σ, H, I, h⟩
theorem pss_cons (h1 : PS X st t) (h2 : PSs X rest u) : PSs X (st :: rest) (tSeq t u) := by
  intro pins s σ H D I h
  refine wpAny_execs_cons (thn (h1 pins s σ H { D with nx := u D } I h) fun f s1 q => ?_)
  cases f with
  | next =>
    obtain ⟨σ', H', I', q⟩ := q
    exact h2 pins s1 σ' H' D I' q
  | ret v => exact q
  | brk => exact q
  | cont => exact q
theorem pss_one (h1 : PS X st t) : PSs X [st] t := by
  intro pins s σ H D I h
  refine wpAny_execs_cons (thn (h1 pins s σ H D I h) fun f s1 q => ?_)
  cases f with
  | next => exact wpAny_execs_nil q
  | ret v => exact q
  | brk => exact q
  | cont => exact q
def tBreak : TS := fun D σ H => D.bk σ H
def tCont : TS := fun D σ H => D.ct σ H
/-- in a def's body nothing is shown -/
theorem Inv.quiet {pins : List (Addr × Obj)} {σ : St} {H : Hp} {s : Shared} (I : Inv X pins σ H s) : interactive X.env = false := by simp [interactive, I.ok.kind]
/-- an expression whose value is dropped -/
def tDrop (te : TE) : TS := fun D σ H => te σ H fun _ H1 => D.nx σ H1
theorem ps_expr (he : PE X e te) (hs : swapsWith e none pos.line X.env = pure false := by rfl) : PS X (.Expr e pos) (tDrop te) := by
  intro pins s σ H D I h
  exact wpAny_Expr_any (thn (he pins s σ H _ I h) fun v s1 ⟨x, H1, I1, r1, q1⟩ => ⟨σ, H1, I1, q1⟩) I.quiet hs
def tRet (te : TE) : TS := fun D σ H => te σ H D.rt
theorem ps_ret (he : PE X e te) : PS X (.Return (some e) pos) (tRet te) := by
  intro pins s σ H D I h
  exact wpAny_Return_some (thn (he pins s σ H _ I h) fun v s1 ⟨x, H1, I1, r1, q1⟩ => ⟨x, σ, H1, I1, r1, q1⟩)
def tRetN : TS := fun D _ H => D.rt .non H
def tIfS (c : TT) (t u : TS) : TS := fun D σ H => c σ H fun b H1 => if b = true then t D σ H1 else u D σ H1
theorem ps_if {c : Expr} {a b : List Stmt} {tc : TT} (hc : PT X c tc) (ha : PSs X a t) (hb : PSs X b u) : PS X (.If c a b pos) (tIfS tc t u) := by
  intro pins s σ H D I h
  refine wpAny_If (thn (hc pins s σ H _ I h) fun d s1 ⟨H1, I1, q1⟩ => ?_)
  cases d with
  | true => exact ha pins s1 σ H1 D I1 q1
  | false => exact hb pins s1 σ H1 D I1 q1
/-- code that the proof never comes to -/
def tNever : TS := fun _ _ _ => False
end

/-! ### targets -/
abbrev TG := V → St → Hp → (St → Hp → Prop) → Prop
abbrev TGs := List V → St → Hp → (St → Hp → Prop) → Prop
def PG (X : Cx) (target : Expr) (t : TG) : Prop :=
  ∀ (pins : List (Addr × Obj)) (s : Shared) (σ : St) (H : Hp) (v : V) (u : Value) (Q : St → Hp → Prop), Inv X pins σ H s → RelV v u → t v σ H Q →
    wpAny (model X.prog X.w) X.A (assign target X.env u) (fun _ s' => ∃ σ' H', Inv X pins σ' H' s' ∧ Q σ' H') X.xe s
/-- several targets, one after another -/
def PGs (X : Cx) (ts : List Expr) (t : TGs) : Prop :=
  ∀ (pins : List (Addr × Obj)) (s : Shared) (σ : St) (H : Hp) (vs : List V) (us : List Value) (Q : St → Hp → Prop), Inv X pins σ H s → Vals vs us → t vs σ H Q →
    wpAny (model X.prog X.w) X.A (assignInOrder ((assignEach ts X.env).map (·.2)) us) (fun _ s' => ∃ σ' H', Inv X pins σ' H' s' ∧ Q σ' H') X.xe s
/-- o[i] = v, by values -/
abbrev TSet := V → V → V → Hp → (Hp → Prop) → Prop
def PSet (X : Cx) (t : TSet) : Prop :=
  ∀ (pins : List (Addr × Obj)) (s : Shared) (σ : St) (H : Hp) (o i v : V) (ov iv u : Value) (Q : Hp → Prop), Inv X pins σ H s → RelV o ov → RelV i iv → RelV v u → t o i v H Q →
    wpAny (model X.prog X.w) X.A (setItem ov iv u) (fun _ s' => ∃ H', Inv X pins σ H' s' ∧ Q H') X.xe s
/-- a op= b, by values -/
abbrev TIp := V → V → Hp → VK → Prop
def PIp (X : Cx) (op : Operator) (t : TIp) : Prop :=
  ∀ (pins : List (Addr × Obj)) (s : Shared) (σ : St) (H : Hp) (x y : V) (v u : Value) (Q : VK), Inv X pins σ H s → RelV x v → RelV y u → t x y H Q →
    wpAny (model X.prog X.w) X.A (inplaceOp op v u) (EP X pins σ Q) X.xe s
section
variable {X : Cx} {pos : Pos}
def gName (i : Nat) : TG := fun v σ H Q => Q (σ.set i (some v)) H
theorem pg_name {i : Nat} {x : Str} (hN : X.N.Nodup) (hi : X.N[i]? = some x) (hx : Loc X.env.scope x) (hf : X.fn x = true ∨ X.env.scope.names.lookup x = some .local := by first | exact .inl rfl | exact .inr rfl | assumption) : PG X (.Name x pos) (gName i) := by
  intro pins s σ H v u Q I r h
  exact wpAny_assign_Name (store_ok I hN hi hx r (fun s' I' => ⟨_, H, I', h⟩) hf)
def gNil : TGs := fun vs σ H Q => vs = [] ∧ Q σ H
def gCons (t : TG) (u : TGs) : TGs := fun vs σ H Q => ∃ v r, vs = v :: r ∧ t v σ H fun σ' H' => u r σ' H' Q
theorem pgs_nil : PGs X [] gNil := by
  intro pins s σ H vs us Q I r h
  obtain ⟨e, h⟩ := h
  subst e
  cases r
  exact assignInOrder_nil ⟨σ, H, I, h⟩
theorem pgs_cons {e : Expr} {es : List Expr} {t : TG} {u : TGs} (h1 : PG X e t) (h2 : PGs X es u)
    (hs : (assignEach (e :: es) X.env).map (·.2) = assign e X.env :: (assignEach es X.env).map (·.2) := by rfl) : PGs X (e :: es) (gCons t u) := by
  intro pins s σ H vs us Q I r h
  obtain ⟨v, vr, e1, h⟩ := h
  subst e1
  cases r with
  | cons r rr =>
    rw [hs]
    refine assignInOrder_cons (thn (h1 pins s σ H _ _ _ I r h) fun _ s1 ⟨σ1, H1, I1, q1⟩ => ?_)
    exact h2 pins s1 σ1 H1 _ _ Q I1 rr q1
/-- (a, b, ..) = a tuple of that length -/
def gTup (K : PySem.W.Frag) (n : Nat) (t : TGs) : TG := fun v σ H Q => ∃ a xs, v = .ref a ∧ SqT K H a xs ∧ xs.length = n ∧ t xs σ H Q
theorem pg_tup {es : List Expr} {k : Nat} {t : TGs} {n : Nat} (hc : X.calm = true) (h : PGs X es t)
    (hn : (assignEach es X.env).length = n := by rfl) (hst : (assignEach es X.env).findIdx? (·.1) = none := by rfl) : PG X (.Tuple es k pos) (gTup X.K n t) := by
  intro pins s σ H v u Q I r hw
  obtain ⟨a, xs, e1, hq, hl, hw⟩ := hw
  subst e1
  cases r
  obtain ⟨its, rv, ht, hz⟩ := I.tuple hq
  refine assign_Tuple_tuple (I.ok.hd hc) ht (by simp [hn, ← hl, rv.length]) hst fun h' hx => ?_
  have I1 : Inv X pins σ H { s with heap := h' } := I.kept (t' := s.toks) fun b o e => hx b o (Nat.ne_of_lt (Heap.lt_size e)) e
  exact h pins _ σ H xs _ Q I1 (by simpa using rv) hw
/-- o[i] = .. -/
def gSub (to ti : TE) (t : TSet) : TG := fun v σ H Q => to σ H fun o H1 => ti σ H1 fun i H2 => t o i v H2 fun H3 => Q σ H3
theorem pg_sub {o i : Expr} {to ti : TE} {t : TSet} (ho : PE X o to) (hi : PE X i ti) (hs : PSet X t)
    (ha : ∀ v, assign (.Subscript o i pos) X.env v = (do
      let ov ← holding [v] (eval o X.env)
      let iv ← holding [v, ov] (eval i X.env)
      standAt pos
      holding [v, ov, iv] (setItem ov iv v)
      release [v, ov, iv] []) := by intro _; rfl) : PG X (.Subscript o i pos) (gSub to ti t) := by
  intro pins s σ H v u Q I r h
  rw [ha]
  refine wpAny_bind (wpAny_holding (thn (ho pins s σ H _ I h) fun ov s1 ⟨x, H1, I1, r1, q1⟩ => ?_))
  refine wpAny_bind (wpAny_holding (thn (hi pins s1 σ H1 _ I1 q1) fun iv s2 ⟨y, H2, I2, r2, q2⟩ => ?_))
  refine wpAny_bind (wpAny_standAt (wpAny_bind (wpAny_holding (thn (hs pins s2 σ H2 x y v ov iv u _ I2 r1 r2 r q2) fun _ s3 ⟨H3, I3, q3⟩ => ?_))))
  exact wpAny_release ⟨σ, H3, I3, q3⟩
/-- target = value -/
def tAsg (te : TE) (g : TG) : TS := fun D σ H => te σ H fun x H1 => g x σ H1 D.nx
theorem ps_asg {tg e : Expr} {te : TE} {g : TG} (he : PE X e te) (hg : PG X tg g) (hs : swapsWithSole [tg] e pos.line X.env = pure false := by rfl) (hw : swappedStores [tg] e X.env = pure none := by rfl)
    (h1 : (assignEach [tg] X.env).map (·.2) = [assign tg X.env] := by rfl) : PS X (.Assign [tg] e pos) (tAsg te g) := by
  intro pins s σ H D I h
  refine wpAny_Assign_stores (thn (he pins s σ H _ I h) fun v s1 ⟨x, H1, I1, r1, q1⟩ => ?_) hs hw
  rw [h1]
  exact thn (hg pins s1 σ H1 x v _ I1 r1 q1) fun _ s2 q => q
/-- name = value -/
theorem ps_set {i : Nat} {x : Str} {e : Expr} {te : TE} {pos' : Pos} (hN : X.N.Nodup) (hi : X.N[i]? = some x) (hx : Loc X.env.scope x) (he : PE X e te) (hs : swapsWith e (some (.Name x pos')) pos.line X.env = pure false := by rfl) (hf : X.fn x = true ∨ X.env.scope.names.lookup x = some .local := by first | exact .inl rfl | exact .inr rfl | assumption) :
    PS X (.Assign [.Name x pos'] e pos) (tAsg te (gName i)) := by
  intro pins s σ H D I h
  refine wpAny_Assign_Name (thn (he pins s σ H _ I h) fun v s1 ⟨y, H1, I1, r1, q1⟩ => ?_) hs
  exact store_ok I1 hN hi hx r1 (fun s2 I2 => ⟨_, H1, I2, q1⟩) hf
/-- a, b = x, y with plain local names: stored from the right; the pair itself is not tracked (the opening rows as in PyProof/Rows/TupAssign.lean:23) -/
def tPar (i j : Nat) (ta : TA) : TS := fun D σ H => ta σ H fun vs H1 => ∃ v w, vs = [v, w] ∧ D.nx ((σ.set i (some v)).set j (some w)) H1
/-- name op= e -/
def tAug (i : Nat) (te : TE) (ti : TIp) : TS := fun D σ H => ∃ x, σ[i]? = some (some x) ∧ te σ H fun y H1 => ti x y H1 fun z H2 => D.nx (σ.set i (some z)) H2
/-- o[i] op= e -/
def tAugS (to ti te : TE) (tget : V → V → Hp → VK → Prop) (tip : TIp) (tset : TSet) : TS := fun D σ H => to σ H fun o H1 => ti σ H1 fun i H2 => tget o i H2 fun x H3 => te σ H3 fun y H4 => tip x y H4 fun z H5 => tset o i z H5 fun H6 => D.nx σ H6
/-- o[i], by values -/
def PGet (X : Cx) (t : V → V → Hp → VK → Prop) : Prop :=
  ∀ (pins : List (Addr × Obj)) (s : Shared) (σ : St) (H : Hp) (o i : V) (ov iv : Value) (Q : VK), Inv X pins σ H s → RelV o ov → RelV i iv → t o i H Q →
    wpAny (model X.prog X.w) X.A (getItem ov iv) (EP X pins σ Q) X.xe s
/-- ints -/
def ipI (f : Int → Int → Int) : TIp := fun x y H Q => ∃ i j, x = .int i ∧ y = .int j ∧ Q (.int (f i j)) H
end

/-! ### while -/
section
variable {X : Cx} {pos : Pos}
/-- the invariant W with its measure -/
def tWhile (c : TT) (tb : TS) : TS := fun D σ H => ∃ W : Nat → St → Hp → Prop, (∃ m, W m σ H) ∧ ∀ m σ H, W m σ H →
  c σ H fun b H1 => if b = true then ∃ N : St → Hp → Prop, (∀ σ' H', N σ' H' → ∃ m', m' < m ∧ W m' σ' H') ∧ tb { D with nx := N, ct := N, bk := D.nx } σ H1 else D.nx σ H1
end

/-! ### what a loop or a comprehension walks -/
/-- at turn i: it yields x (the heap may grow), or it stops -/
structure It where
  go : Nat → Hp → Prop
  yld : Nat → Hp → V → Hp → Prop
  stop : Nat → Hp → Prop
/-- the iterator's own objects may turn: they are not the frame's, not pinned, younger than the entry (or a comprehension's own) -/
def FpOk (X : Cx) (pins : List (Addr × Obj)) (H : Hp) (b : Addr) : Prop :=
  H b = none ∧ b ≠ X.env.locals ∧ b ∉ X.fs ∧ (b ∈ X.ex ∨ X.s₀.heap.objs.size ≤ b) ∧ (∀ x c, X.env.cells.lookup x = some c → c ≠ b) ∧ ∀ p ∈ X.pn ++ pins, p.1 ≠ b
theorem Inv.fpOk {X : Cx} {pins : List (Addr × Obj)} {σ : St} {H H' : Hp} {s : Shared} {b : Addr} (I : Inv X pins σ H s) (hb : s.heap.objs.size ≤ b) (hn : H' b = none) : FpOk X pins H' b := by
  refine ⟨hn, Nat.ne_of_gt (Nat.lt_of_lt_of_le I.lt hb), I.nofs hb, .inr (Nat.le_trans I.sz hb), fun x c e z => ?_, fun p hp z => ?_⟩
  · obtain ⟨v, q⟩ := I.cell x c e
    exact absurd (Nat.lt_of_lt_of_le q.lt (by rw [z]; exact hb)) (Nat.lt_irrefl _)
  · exact absurd (Nat.lt_of_lt_of_le (Heap.lt_size (I.pin p hp).1) (by rw [z]; exact hb)) (Nat.lt_irrefl _)
structure Turn (P : Program) (w : World) (K : PySem.W.Frag) (tg : Expr) (J : It) (fp : List Addr) (it : Addr) (tn : Nat → Heap → Prop) : Prop where
  mem : it ∈ fp
  obj : ∀ i h, tn i h → ∀ b ∈ fp, ∃ o, h.get? b = some o ∧ ∀ v, o.data ≠ .cell v
  keep : ∀ i h h', tn i h → (∀ b ∈ fp, ∀ o, h.get? b = some o → h'.get? b = some o) → tn i h'
  item : ∀ (X : Cx), X.prog = P → X.w = w → X.K = K → X.calm = true → ∀ (i : Nat) (pins : List (Addr × Obj)) (s : Shared) (σ : St) (H : Hp) (E : Value → Shared → Prop), Inv X pins σ H s → (∀ b ∈ fp, FpOk X pins H b) → tn i s.heap → J.go i H →
    wpAny (model P w) X.A (pyNext (.ref it)) (fun r s1 => ∃ u, r = some u ∧
      wpAny (model P w) X.A (letOwnedTupleGo tg (.ref it) u) (fun _ s2 => ∃ x H', Inv X pins σ H' s2 ∧ RelV x u ∧ J.yld i H x H' ∧ tn (i + 1) s2.heap ∧ ∀ b ∈ fp, H' b = none) E s1) E s
  done : ∀ (X : Cx), X.prog = P → X.w = w → X.K = K → X.calm = true → ∀ (i : Nat) (pins : List (Addr × Obj)) (s : Shared) (σ : St) (H : Hp) (E : Value → Shared → Prop), Inv X pins σ H s → (∀ b ∈ fp, FpOk X pins H b) → tn i s.heap → J.stop i H →
    wpAny (model P w) X.A (pyNext (.ref it)) (fun r s1 => r = none ∧ Inv X pins σ H s1) E s
  self : ∀ (A : Around) (i : Nat) (s : Shared) (Q : Value → Shared → Prop) (E : Value → Shared → Prop), tn i s.heap → Q (.ref it) s → wpAny (model P w) A (pyIter (.ref it)) Q E s
abbrev TI := St → Hp → (It → Hp → Prop) → Prop
/-- an iterator has come -/
def PIE (X : Cx) (pins : List (Addr × Obj)) (σ : St) (tg : Expr) (R : It → Hp → Prop) (itv : Value) (s2 : Shared) : Prop :=
  ∃ (it : Addr) (fp : List Addr) (tn : Nat → Heap → Prop) (J : It) (H' : Hp), itv = .ref it ∧ Inv X pins σ H' s2 ∧ Turn X.prog X.w X.K tg J fp it tn ∧ tn 0 s2.heap ∧ (∀ b ∈ fp, FpOk X pins H' b) ∧ R J H'
def PI (X : Cx) (tg iter : Expr) (wi : TI) : Prop :=
  ∀ (pins : List (Addr × Obj)) (s : Shared) (σ : St) (H : Hp) (R : It → Hp → Prop), Inv X pins σ H s → wi σ H R →
    wpAny (model X.prog X.w) X.A (eval iter X.env) (fun v s1 => wpAny (model X.prog X.w) X.A (pyIter v) (PIE X pins σ tg R) X.xe s1) X.xe s

/-- the step ahead of the store is nothing for an iterator that keeps no tuple -/
theorem go_of {M : Model} {A : Around} {E : Value → Shared → Prop} {s : Shared} {tg : Expr} {it : Addr} {u : Value} {o : Obj} {n : String} {vs : Array Value} {Q : Unit → Shared → Prop} (ho : s.heap.get? it = some o) (hc : o.cls = .type n) (hd : o.data = .fields vs)
    (hn : ["enumerate", "zip", "dict_itemiterator", "dict_reverseitemiterator", "odict_iterator", "itertools.zip_longest", "itertools.pairwise"].contains n = false) (hQ : Q () s) : wpAny M A (letOwnedTupleGo tg (.ref it) u) Q E s := by
  unfold letOwnedTupleGo
  cases tg <;> first
    | exact wpAny_pure hQ
    | (cases u <;> first
        | exact wpAny_pure hQ
        | (refine wpAny_bind (wpAny_load ho ?_)
           rw [hc, hd]
           show wpAny M A (if (["enumerate", "zip", "dict_itemiterator", "dict_reverseitemiterator", "odict_iterator", "itertools.zip_longest", "itertools.pairwise"].contains n && vs[0]? == some (rawInt _)) = true then _ else _) Q E s
           rw [if_neg (by intro h; rw [hn, Bool.false_and] at h; cases h)]
           exact wpAny_pure hQ))

/-- the list at a, as it stands at each turn (a loop may append to it) -/
def Itl (K : PySem.W.Frag) (a : Addr) : It :=
  ⟨fun i H => ∃ xs x, SqL K H a xs ∧ xs[i]? = some x, fun i H x H' => H' = H ∧ ∀ xs, SqL K H a xs → xs[i]? = some x, fun i H => ∃ xs, SqL K H a xs ∧ xs.length ≤ i⟩
def Itt (K : PySem.W.Frag) (a : Addr) : It :=
  ⟨fun i H => ∃ xs x, SqT K H a xs ∧ xs[i]? = some x, fun i H x H' => H' = H ∧ ∀ xs, SqT K H a xs → xs[i]? = some x, fun i H => ∃ xs, SqT K H a xs ∧ xs.length ≤ i⟩
/-- lo, lo + 1, .. (n of them) -/
def Itr (lo : Int) (n : Nat) : It := ⟨fun i _ => i < n, fun i H x H' => H' = H ∧ x = .int (lo + i), fun i _ => n ≤ i⟩
theorem turn_list {P : Program} {w : World} {K : PySem.W.Frag} {tg : Expr} (a it : Addr) : Turn P w K tg (Itl K a) [it] it (fun i h => h.IsListIter it a i) where
  mem := by simp
  obj := fun i h st b hb => by
    have e : b = it := by simpa using hb
    subst e
    obtain ⟨o, e, c, d⟩ := st
    exact ⟨o, e, fun v z => by rw [d] at z; cases z⟩
  keep := fun i h h' st k => st.at fun o e => k it (by simp) o e
  item := by
    intro X hP hw hK hc i pins s σ H E I hf st hg
    subst hP hw hK
    obtain ⟨xs, x, hq, hx⟩ := hg
    obtain ⟨its, rv, p, hz⟩ := I.list hq
    obtain ⟨u, hu, ru⟩ := rv.get hx
    obtain ⟨f0, f1, f2, f3, f4, f5⟩ := hf it (by simp)
    refine wpAny_pyNext_list_item st p.isList (x := u) (by simpa using hu) fun h' st' sb => ?_
    have I1 : Inv X pins σ H { s with heap := h' } := I.turned (t' := s.toks) (fun b o hb e => (sb.2 b hb).trans e) f0 f1 f3 f4 f5
    obtain ⟨o, e, c, d⟩ := id st'
    exact ⟨u, rfl, go_of (s := { s with heap := h' }) e c d (by decide) ⟨x, H, I1, ru, ⟨rfl, fun ys hy => by rw [I.list_inj hy hq]; exact hx⟩, st', fun b hb => (hf b hb).1⟩⟩
  done := by
    intro X hP hw hK hc i pins s σ H E I hf st hg
    subst hP hw hK
    obtain ⟨xs, hq, hx⟩ := hg
    obtain ⟨its, rv, p, hz⟩ := I.list hq
    obtain ⟨f0, f1, f2, f3, f4, f5⟩ := hf it (by simp)
    have hl := rv.length
    exact wpAny_pyNext_list_end (I.ok.hd hc) st p.isList (by simp; omega) fun h' eb => ⟨rfl, I.turned (t' := s.toks) (fun b o hb e => eb b o hb e) f0 f1 f3 f4 f5⟩
  self := fun _ _ _ _ _ st h => wpAny_pyIter_listiter st h
theorem turn_tuple {P : Program} {w : World} {K : PySem.W.Frag} {tg : Expr} (a it : Addr) : Turn P w K tg (Itt K a) [it] it (fun i h => h.IsTupleIter it a i) where
  mem := by simp
  obj := fun i h st b hb => by
    have e : b = it := by simpa using hb
    subst e
    obtain ⟨o, e, c, d⟩ := st
    exact ⟨o, e, fun v z => by rw [d] at z; cases z⟩
  keep := fun i h h' st k => st.at fun o e => k it (by simp) o e
  item := by
    intro X hP hw hK hc i pins s σ H E I hf st hg
    subst hP hw hK
    obtain ⟨xs, x, hq, hx⟩ := hg
    obtain ⟨its, rv, p, hz⟩ := I.tuple hq
    obtain ⟨u, hu, ru⟩ := rv.get hx
    obtain ⟨f0, f1, f2, f3, f4, f5⟩ := hf it (by simp)
    refine wpAny_pyNext_tuple_item st (show s.heap.IsTuple a its.toArray from p) (x := u) (by simpa using hu) fun h' st' sb => ?_
    have I1 : Inv X pins σ H { s with heap := h' } := I.turned (t' := s.toks) (fun b o hb e => (sb.2 b hb).trans e) f0 f1 f3 f4 f5
    obtain ⟨o, e, c, d⟩ := id st'
    exact ⟨u, rfl, go_of (s := { s with heap := h' }) e c d (by decide) ⟨x, H, I1, ru, ⟨rfl, fun ys hy => by rw [I.tuple_inj hy hq]; exact hx⟩, st', fun b hb => (hf b hb).1⟩⟩
  done := by
    intro X hP hw hK hc i pins s σ H E I hf st hg
    subst hP hw hK
    obtain ⟨xs, hq, hx⟩ := hg
    obtain ⟨its, rv, p, hz⟩ := I.tuple hq
    obtain ⟨f0, f1, f2, f3, f4, f5⟩ := hf it (by simp)
    have hl := rv.length
    exact wpAny_pyNext_tuple_end (I.ok.hd hc) st (show s.heap.IsTuple a its.toArray from p) (by simp; omega) fun h' eb => ⟨rfl, I.turned (t' := s.toks) (fun b o hb e => eb b o hb e) f0 f1 f3 f4 f5⟩
  self := fun _ _ _ _ _ st h => wpAny_pyIter_tupleiter st h
theorem turn_range {P : Program} {w : World} {K : PySem.W.Frag} {tg : Expr} (it : Addr) (lo : Int) (n : Nat) : Turn P w K tg (Itr lo n) [it] it (fun i h => IsRangeIter h it (lo + (i : Nat) * 1) ((n : Int) - (i : Nat)) 1) where
  mem := by simp
  obj := fun i h st b hb => by
    have e : b = it := by simpa using hb
    subst e
    exact ⟨_, st, fun v z => by
      have z' : Data.fields _ = Data.cell v := z
      cases z'⟩
  keep := fun i h h' st k => k it (by simp) _ st
  item := by
    intro X hP hw hK hc i pins s σ H E I hf st hg
    subst hP hw hK
    obtain ⟨f0, f1, f2, f3, f4, f5⟩ := hf it (by simp)
    have W := Walks.range (prog := X.prog) (w := X.w) (I.ok.hd hc) it lo 1 n
    refine W.item i s _ _ hg st fun v h' tk hv st' kk => ?_
    obtain ⟨t, rfl⟩ := hv
    have I1 : Inv X pins σ H { s with heap := h', toks := tk } := I.turned (fun b o hb e => kk b o (by simpa using hb) e) f0 f1 f3 f4 f5
    refine ⟨_, rfl, go_of (s := { s with heap := h', toks := tk }) (n := "range_iterator") st' rfl rfl (by decide) ⟨.int (lo + i), H, I1, ⟨t, ?_⟩, ⟨rfl, rfl⟩, st', fun b hb => (hf b hb).1⟩⟩
    rw [Int.mul_one]
  done := by
    intro X hP hw hK hc i pins s σ H E I hf st hg
    subst hP hw hK
    obtain ⟨f0, f1, f2, f3, f4, f5⟩ := hf it (by simp)
    exact wpAny_pyNext_range_end (I.ok.hd hc) st (by have : n ≤ i := hg; omega) fun h' eb => ⟨rfl, I.turned (t' := s.toks) (fun b o hb e => eb b o hb e) f0 f1 f3 f4 f5⟩
  self := fun _ _ _ _ _ st h => wpAny_pyIter_rangeiter st h
end L2

namespace L2
open PySem PySem.Spec PyProof.Rows
section
variable {X : Cx} {tg : Expr}
def iList (K : PySem.W.Frag) (tl : TE) : TI := fun σ H R => tl σ H fun x H1 => ∃ a, x = .ref a ∧ (∃ xs, SqL K H1 a xs) ∧ R (Itl K a) H1
def iTup (K : PySem.W.Frag) (tl : TE) : TI := fun σ H R => tl σ H fun x H1 => ∃ a, x = .ref a ∧ (∃ xs, SqT K H1 a xs) ∧ R (Itt K a) H1
theorem pi_list {l : Expr} {tl : TE} (hl : PE X l tl) : PI X tg l (iList X.K tl) := by
  intro pins s σ H R I h
  refine thn (hl pins s σ H _ I h) fun v s1 ⟨x, H1, I1, r1, q1⟩ => ?_
  obtain ⟨a, e, ⟨xs, hq⟩, q⟩ := q1
  subst e
  cases r1
  obtain ⟨its, rv, p, hz⟩ := I1.list hq
  refine wpAny_pyIter_list p.isList ?_
  refine ⟨s1.heap.objs.size, [s1.heap.objs.size], _, _, H1, rfl, I1.kept (t' := s1.toks) fun b o e => Heap.get?_push_of_some _ e, turn_list a _, ⟨_, Heap.get?_push_size _ rfl, rfl, rfl⟩, fun b hb => ?_, q⟩
  have e : b = s1.heap.objs.size := by simpa using hb
  subst e
  exact I1.fpOk (Nat.le_refl _) (I1.hok.fresh (Nat.le_refl _))
theorem pi_tup {l : Expr} {tl : TE} (hl : PE X l tl) : PI X tg l (iTup X.K tl) := by
  intro pins s σ H R I h
  refine thn (hl pins s σ H _ I h) fun v s1 ⟨x, H1, I1, r1, q1⟩ => ?_
  obtain ⟨a, e, ⟨xs, hq⟩, q⟩ := q1
  subst e
  cases r1
  obtain ⟨its, rv, p, hz⟩ := I1.tuple hq
  refine wpAny_pyIter_tuple (show s1.heap.IsTuple a its.toArray from p) ?_
  refine ⟨s1.heap.objs.size, [s1.heap.objs.size], _, _, H1, rfl, I1.kept (t' := s1.toks) fun b o e => Heap.get?_push_of_some _ e, turn_tuple a _, ⟨_, Heap.get?_push_size _ rfl, rfl, rfl⟩, fun b hb => ?_, q⟩
  have e : b = s1.heap.objs.size := by simpa using hb
  subst e
  exact I1.fpOk (Nat.le_refl _) (I1.hok.fresh (Nat.le_refl _))
/-- a range object just made, walked -/
theorem range_it {pins : List (Addr × Obj)} {σ : St} {H : Hp} {s : Shared} {R : It → Hp → Prop} {E : Value → Shared → Prop} {lo hi : Int} {t u v : Tok} {tk : Nat} (I : Inv X pins σ H s) (h1 : -(2 ^ 62) ≤ lo) (h2 : lo < 2 ^ 62) (h3 : -(2 ^ 62) ≤ hi) (h4 : hi < 2 ^ 62)
    (q : R (Itr lo (hi - lo).toNat) H) : wpAny (model X.prog X.w) X.A (pyIter (.ref s.heap.objs.size)) (PIE X pins σ tg R) E { s with heap := s.heap.push { cls := .type "range", data := .fields #[.int lo t, .int hi u, .int 1 v] }, toks := tk } := by
  refine wpAny_pyIter_range (IsRange.new ..) (small_one h1 h2 h3 h4) ?_
  have I1 : Inv X pins σ H { s with heap := s.heap.push { cls := .type "range", data := .fields #[.int lo t, .int hi u, .int 1 v] }, toks := tk } := I.kept fun b o e => Heap.get?_push_of_some _ e
  refine ⟨(s.heap.push { cls := .type "range", data := .fields #[.int lo t, .int hi u, .int 1 v] }).objs.size, [(s.heap.push { cls := .type "range", data := .fields #[.int lo t, .int hi u, .int 1 v] }).objs.size], _, _, H, rfl,
    I1.kept (t' := tk) fun b o e => Heap.get?_push_of_some _ e, turn_range _ lo (hi - lo).toNat, ?_, fun b hb => ?_, q⟩
  · have e1 : lo + ((0 : Nat) : Int) * 1 = lo := by simp
    have e2 : (((hi - lo).toNat : Nat) : Int) - ((0 : Nat) : Int) = Builtin.Range.rangeSize lo hi 1 := by rw [rangeSize_one]; split <;> omega
    show IsRangeIter _ _ (lo + ((0 : Nat) : Int) * 1) ((((hi - lo).toNat : Nat) : Int) - ((0 : Nat) : Int)) 1
    rw [e1, e2]
    exact Heap.get?_push_size _ rfl
  · have e : b = (s.heap.push { cls := .type "range", data := .fields #[.int lo t, .int hi u, .int 1 v] }).objs.size := by simpa using hb
    subst e
    exact I1.fpOk (Nat.le_refl _) (I1.hok.fresh (Nat.le_refl _))
def iRng1 (ta : TA) : TI := fun σ H R => ta σ H fun vs H1 => ∃ j : Int, vs = [.int j] ∧ -(2 ^ 62) ≤ j ∧ j < 2 ^ 62 ∧ R (Itr 0 j.toNat) H1
def iRng2 (ta : TA) : TI := fun σ H R => ta σ H fun vs H1 => ∃ i j : Int, vs = [.int i, .int j] ∧ (-(2 ^ 62) ≤ i ∧ i < 2 ^ 62 ∧ -(2 ^ 62) ≤ j ∧ j < 2 ^ 62) ∧ R (Itr i (j - i).toNat) H1
theorem pi_range1 {a : Expr} {ta : TA} {p pos : Pos} (hg : Gl X "range") (hm : X.mg "range" = none) (ha : PA X [a] ta) (hs : starEach [a] X.env = [(false, eval a X.env)] := by rfl) : PI X tg (.Call (.Name "range" p) [a] [] pos) (iRng1 ta) := by
  intro pins s σ H R I h
  refine Call_ (ld_blt I hg hm boot_range (PyProof.Rows.callWith_type1 (thn (ha pos pins s σ H _ I h) fun us s1 ⟨vs, H1, I1, r1, q1⟩ => ?_) hs rfl))
  obtain ⟨j, e, q1, q2, q⟩ := q1
  subst e
  cases r1 with
  | cons r rr =>
    cases rr
    obtain ⟨t, rfl⟩ := r
    exact call_range_1 (range_it I1 (by omega) (by omega) q1 q2 (by simpa using q))

/-! ### for -/
/-- W: the invariant by the turn and a measure; N: what the body is to reach -/
def tFor (wi : TI) (g : TG) (tb : TS) : TS := fun D σ H => wi σ H fun J H1 => ∃ W : Nat → Nat → St → Hp → Prop, (∃ m, W 0 m σ H1) ∧ ∀ i m σ H, W i m σ H →
  (J.stop i H ∧ D.nx σ H) ∨ (J.go i H ∧ ∃ N : St → Hp → Prop, (∀ σ' H', N σ' H' → ∃ m', m' < m ∧ W (i + 1) m' σ' H') ∧ ∀ x H', J.yld i H x H' → g x σ H' fun σ2 H2 => tb { D with nx := N, ct := N, bk := D.nx } σ2 H2)
/-- the records at fp as they stand -/
def pinsAt (fp : List Addr) (h : Heap) : List (Addr × Obj) := fp.filterMap fun b => (h.get? b).map fun o => (b, o)
theorem mem_pinsAt {fp : List Addr} {h : Heap} {b : Addr} {o : Obj} (hb : b ∈ fp) (e : h.get? b = some o) : (b, o) ∈ pinsAt fp h := List.mem_filterMap.mpr ⟨b, hb, by rw [e]; rfl⟩
theorem of_pinsAt {fp : List Addr} {h : Heap} {p : Addr × Obj} (hp : p ∈ pinsAt fp h) : p.1 ∈ fp ∧ h.get? p.1 = some p.2 := by
  obtain ⟨b, hb, e⟩ := List.mem_filterMap.mp hp
  cases q : h.get? b with
  | none => rw [q] at e; cases e
  | some o =>
    rw [q] at e
    have e' : (b, o) = p := Option.some.inj e
    subst e'
    exact ⟨hb, q⟩
theorem Inv.pinned {pins : List (Addr × Obj)} {σ : St} {H : Hp} {s : Shared} {fp : List Addr} (I : Inv X pins σ H s) (hf : ∀ b ∈ fp, FpOk X pins H b) (ho : ∀ b ∈ fp, ∃ o, s.heap.get? b = some o ∧ ∀ v, o.data ≠ .cell v) : Inv X (pins ++ pinsAt fp s.heap) σ H s :=
  I.pins_of fun p hp => (List.mem_append.mp hp).elim (fun z => I.pin p (List.mem_append_right _ z)) fun z => by
    obtain ⟨hb, e⟩ := of_pinsAt z
    obtain ⟨f0, f1, f2, _⟩ := hf p.1 hb
    obtain ⟨o, e', d⟩ := ho p.1 hb
    rw [e] at e'; cases e'
    exact ⟨e, f0, f1, f2, d⟩
theorem Inv.unpinned {pins pl : List (Addr × Obj)} {σ : St} {H : Hp} {s : Shared} (I : Inv X (pins ++ pl) σ H s) : Inv X pins σ H s := I.pins_of fun p hp => I.pin p (List.mem_append_right _ (List.mem_append_left _ hp))
theorem ps_for {iter : Expr} {body : List Stmt} {wi : TI} {g : TG} {tb : TS} {pos : Pos} (hp : PassesOwn (model X.prog X.w) X.A X.env X.xe) (hc : X.calm = true) (hi : PI X tg iter wi) (hg : PG X tg g) (hb : PSs X body tb)
    (hs : ∀ x, foldedSetIterable iter X.env x = pure x := by intro _; rfl) : PS X (.For tg iter body [] pos) (tFor wi g tb) := by
  intro pins s σ H D I h
  refine wpAny_For (thn (hi pins s σ H _ I h) fun v s1 h1 => thn h1 fun itv s2 h2 => ?_) hs
  obtain ⟨it, fp, tn, J, H2, e, I2, T, st2, f2, W, ⟨m0, w0⟩, turn⟩ := h2
  subst e
  -- what stays true of the iterator's objects through the loop
  have stat : ∀ {H' : Hp}, (∀ b ∈ fp, H' b = none) → ∀ b ∈ fp, FpOk X pins H' b := fun hn b hb => ⟨hn b hb, (f2 b hb).2⟩
  refine codeAny_forLoop_any (fun n s' => ∃ i σ' H', Inv X pins σ' H' s' ∧ tn i s'.heap ∧ (∀ b ∈ fp, H' b = none) ∧ W i n σ' H') ?_ m0 ⟨0, σ, H2, I2, st2, fun b hb => (f2 b hb).1, w0⟩
  rintro n s3 ⟨i, σ3, H3, I3, st3, fr3, w3⟩
  rcases turn i n σ3 H3 w3 with ⟨stop, qn⟩ | ⟨go, N, hN, step⟩
  · refine wpAny_passesOwn hp (thn (T.done X rfl rfl rfl hc i pins s3 σ3 H3 X.xe I3 (stat fr3) st3 stop) fun r s4 ⟨hr, I4⟩ => ?_)
    subst hr
    exact wpAny_execs_nil ⟨σ3, H3, I4, qn⟩
  · refine wpAny_passesOwn hp (thn (T.item X rfl rfl rfl hc i pins s3 σ3 H3 X.xe I3 (stat fr3) st3 go) fun r s4 ⟨u, hr, h4⟩ => ?_)
    subst hr
    refine wpAny_passesOwn hp (thn h4 fun _ s5 ⟨x, H5, I5, r5, y5, st5, fr5⟩ => ?_)
    have I5' := I5.pinned (stat fr5) (T.obj _ _ st5)
    refine wpAny_passesOwn hp (thn (hg _ s5 σ3 H5 x u _ I5' r5 (step x H5 y5)) fun _ s6 ⟨σ6, H6, I6, q6⟩ => ?_)
    refine wpAny_passesOwn hp (thn (hb _ s6 σ6 H6 _ I6 q6) fun f s7 q7 => ?_)
    have again : ∀ {σ7 : St} {H7 : Hp}, Inv X (pins ++ pinsAt fp s5.heap) σ7 H7 s7 → N σ7 H7 → ∃ m, m < n ∧ ∃ i σ' H', Inv X pins σ' H' s7 ∧ tn i s7.heap ∧ (∀ b ∈ fp, H' b = none) ∧ W i m σ' H' := fun {σ7 H7} I7 n7 => by
      obtain ⟨m', hm, w7⟩ := hN σ7 H7 n7
      refine ⟨m', hm, i + 1, σ7, H7, I7.unpinned, T.keep _ _ _ st5 fun b hb o e => (I7.pin (b, o) (List.mem_append_right _ (List.mem_append_right _ (mem_pinsAt hb e)))).1, fun b hb => ?_, w7⟩
      obtain ⟨o, e, d⟩ := T.obj _ _ st5 b hb
      exact (I7.pin (b, o) (List.mem_append_right _ (List.mem_append_right _ (mem_pinsAt hb e)))).2.1
    cases f with
    | next => obtain ⟨σ7, H7, I7, n7⟩ := q7; exact again I7 n7
    | cont => obtain ⟨σ7, H7, I7, n7⟩ := q7; exact again I7 n7
    | brk => obtain ⟨σ7, H7, I7, q7⟩ := q7; exact ⟨σ7, H7, I7.unpinned, q7⟩
    | ret v => obtain ⟨x7, σ7, H7, I7, r7, q7⟩ := q7; exact ⟨x7, σ7, H7, I7.unpinned, r7, q7⟩
end

/-! ### the forms one uses -/
/-- over a list that the body leaves as it is -/
theorem for_list {K : PySem.W.Frag} {a : Addr} {xs : List V} {g : TG} {tb : TS} {D : Ends} {σ : St} {H : Hp} (Pv : Nat → St → Hp → Prop) (h0 : Pv 0 σ H) (hl : ∀ i σ H, i ≤ xs.length → Pv i σ H → SqL K H a xs)
    (hs : ∀ i x σ H, xs[i]? = some x → Pv i σ H → g x σ H fun σ2 H2 => tb { D with nx := Pv (i + 1), ct := Pv (i + 1), bk := D.nx } σ2 H2) (hd : ∀ σ H, Pv xs.length σ H → D.nx σ H) :
    ∃ W : Nat → Nat → St → Hp → Prop, (∃ m, W 0 m σ H) ∧ ∀ i m σ H, W i m σ H →
      ((Itl K a).stop i H ∧ D.nx σ H) ∨ ((Itl K a).go i H ∧ ∃ N : St → Hp → Prop, (∀ σ' H', N σ' H' → ∃ m', m' < m ∧ W (i + 1) m' σ' H') ∧ ∀ x H', (Itl K a).yld i H x H' → g x σ H' fun σ2 H2 => tb { D with nx := N, ct := N, bk := D.nx } σ2 H2) := by
  refine ⟨fun i m σ H => m = xs.length - i ∧ i ≤ xs.length ∧ Pv i σ H, ⟨xs.length, by simp, Nat.zero_le _, h0⟩, ?_⟩
  rintro i m σ H ⟨rfl, hi, p⟩
  have q := hl i σ H hi p
  by_cases hlt : i < xs.length
  · refine .inr ⟨⟨xs, xs[i], q, by simp [hlt]⟩, Pv (i + 1), fun σ' H' p' => ⟨xs.length - (i + 1), by omega, rfl, hlt, p'⟩, fun x H' y => ?_⟩
    obtain ⟨e, y⟩ := y
    subst e
    exact hs i x σ _ (y xs q) p
  · have e : i = xs.length := by omega
    subst e
    exact .inl ⟨⟨xs, q, Nat.le_refl _⟩, hd σ H p⟩
theorem for_range {lo : Int} {n : Nat} {g : TG} {tb : TS} {D : Ends} {σ : St} {H : Hp} (Pv : Nat → St → Hp → Prop) (h0 : Pv 0 σ H)
    (hs : ∀ i σ H, i < n → Pv i σ H → g (.int (lo + i)) σ H fun σ2 H2 => tb { D with nx := Pv (i + 1), ct := Pv (i + 1), bk := D.nx } σ2 H2) (hd : ∀ σ H, Pv n σ H → D.nx σ H) :
    ∃ W : Nat → Nat → St → Hp → Prop, (∃ m, W 0 m σ H) ∧ ∀ i m σ H, W i m σ H →
      ((Itr lo n).stop i H ∧ D.nx σ H) ∨ ((Itr lo n).go i H ∧ ∃ N : St → Hp → Prop, (∀ σ' H', N σ' H' → ∃ m', m' < m ∧ W (i + 1) m' σ' H') ∧ ∀ x H', (Itr lo n).yld i H x H' → g x σ H' fun σ2 H2 => tb { D with nx := N, ct := N, bk := D.nx } σ2 H2) := by
  refine ⟨fun i m σ H => m = n - i ∧ i ≤ n ∧ Pv i σ H, ⟨n, by simp, Nat.zero_le _, h0⟩, ?_⟩
  rintro i m σ H ⟨rfl, hi, p⟩
  by_cases hlt : i < n
  · refine .inr ⟨hlt, Pv (i + 1), fun σ' H' p' => ⟨n - (i + 1), by omega, rfl, hlt, p'⟩, fun x H' y => ?_⟩
    obtain ⟨e, y⟩ := y
    subst e y
    exact hs i σ _ hlt p
  · have e : i = n := by omega
    subst e
    exact .inl ⟨Nat.le_refl _, hd σ H p⟩
end L2

namespace L2
open PySem PySem.Spec PyProof.Rows

abbrev R2 := V → V → Hp → VK → Prop
/-- a two-place operation on values: f is binaryOp op, inplaceOp op or compareOp op -/
def OpR (X : Cx) (f : Value → Value → Sem Value) (r : R2) : Prop :=
  ∀ (pins : List (Addr × Obj)) (s : Shared) (σ : St) (H : Hp) (x y : V) (v u : Value) (Q : VK), Inv X pins σ H s → RelV x v → RelV y u → r x y H Q →
    wpAny (model X.prog X.w) X.A (f v u) (EP X pins σ Q) X.xe s
/-- a one-place operation -/
def UnR (X : Cx) (f : Value → Sem Value) (r : V → Hp → VK → Prop) : Prop :=
  ∀ (pins : List (Addr × Obj)) (s : Shared) (σ : St) (H : Hp) (x : V) (v : Value) (Q : VK), Inv X pins σ H s → RelV x v → r x H Q →
    wpAny (model X.prog X.w) X.A (f v) (EP X pins σ Q) X.xe s
/-- a call of a value that is known (a builtin, a type) with values -/
def CallR (X : Cx) (f : Value) (r : List V → Hp → VK → Prop) : Prop :=
  ∀ (pins : List (Addr × Obj)) (s : Shared) (σ : St) (H : Hp) (xs : List V) (us : List Value) (Q : VK), Inv X pins σ H s → Vals xs us → r xs H Q →
    wpAny (model X.prog X.w) X.A (call f us) (EP X pins σ Q) X.xe s
/-- a value's truth -/
def TruR (X : Cx) (r : V → Hp → (Bool → Hp → Prop) → Prop) : Prop :=
  ∀ (pins : List (Addr × Obj)) (s : Shared) (σ : St) (H : Hp) (x : V) (v : Value) (Q : Bool → Hp → Prop), Inv X pins σ H s → RelV x v → r x H Q →
    wpAny (model X.prog X.w) X.A (truthy v) (TP X pins σ Q) X.xe s

def tOp (r : R2) (ta tb : TE) : TE := fun σ H Q => ta σ H fun x H1 => tb σ H1 fun y H2 => r x y H2 Q
def tUn (r : V → Hp → VK → Prop) (ta : TE) : TE := fun σ H Q => ta σ H fun x H1 => r x H1 Q
/-- ints in, under C, and a value out -/
def rI (C : Int → Int → Prop) (g : Int → Int → V) : R2 := fun x y H Q => ∃ i j, x = .int i ∧ y = .int j ∧ C i j ∧ Q (g i j) H
def rI0 (g : Int → Int → V) : R2 := fun x y H Q => ∃ i j, x = .int i ∧ y = .int j ∧ Q (g i j) H
def rU (g : Int → V) : V → Hp → VK → Prop := fun x H Q => ∃ i, x = .int i ∧ Q (g i) H

section
variable {X : Cx} {a b c : Expr} {ta tb tc : TE} {pos : Pos}

theorem binT (ha : PE X a ta) (hb : PE X b tb) {pins : List (Addr × Obj)} {s : Shared} {σ : St} {H : Hp} {R : V → V → Hp → Prop} (I : Inv X pins σ H s)
    (h : ta σ H fun x H1 => tb σ H1 fun y H2 => R x y H2) {Q : Value → Shared → Prop} {f : Value → Value → Sem Value}
    (hf : ∀ v u s2 x y H2, Inv X pins σ H2 s2 → RelV x v → RelV y u → R x y H2 → wpAny (model X.prog X.w) X.A (f v u) Q X.xe s2) :
    wpAny (model X.prog X.w) X.A (eval a X.env) (fun v s₁ => wpAny (model X.prog X.w) X.A (eval b X.env) (fun u s₂ => wpAny (model X.prog X.w) X.A (f v u) Q X.xe s₂) X.xe s₁) X.xe s := by
  refine thn (ha pins s σ H _ I h) fun v s1 ⟨x, H1, I1, r1, q1⟩ => ?_
  refine thn (hb pins s1 σ H1 _ I1 q1) fun u s2 ⟨y, H2, I2, r2, q2⟩ => ?_
  exact hf v u s2 x y H2 I2 r1 r2 q2

theorem pe_op {op : Operator} {r : R2} (ho : OpR X (binaryOp op) r) (ha : PE X a ta) (hb : PE X b tb) : PE X (.BinOp a op b pos) (tOp r ta tb) := by
  intro pins s σ H Q I h
  exact wpAny_BinOp (binT ha hb I h fun v u s2 x y H2 I2 rx ry q => ho pins s2 σ H2 x y v u Q I2 rx ry q)

/-! ### ints -/
theorem opI {f : Value → Value → Sem Value} {C : Int → Int → Prop} {g : Int → Int → Int}
    (rule : ∀ (i j : Int) (t u : Tok) (s : Shared) (Q : Value → Shared → Prop) (E : Value → Shared → Prop), C i j → Q (.int (g i j) s.toks) { s with toks := s.toks + 1 } → wpAny (model X.prog X.w) X.A (f (.int i t) (.int j u)) Q E s) :
    OpR X f (rI C fun i j => .int (g i j)) := by
  intro pins s σ H x y v u Q I rx ry h
  obtain ⟨i, j, rfl, rfl, hc, q⟩ := h
  obtain ⟨t, rfl⟩ := rx
  obtain ⟨t', rfl⟩ := ry
  exact rule i j t t' s _ _ hc ⟨.int (g i j), H, I.tok _, ⟨_, rfl⟩, q⟩
theorem opI0 {f : Value → Value → Sem Value} {g : Int → Int → Int}
    (rule : ∀ (i j : Int) (t u : Tok) (s : Shared) (Q : Value → Shared → Prop) (E : Value → Shared → Prop), Q (.int (g i j) s.toks) { s with toks := s.toks + 1 } → wpAny (model X.prog X.w) X.A (f (.int i t) (.int j u)) Q E s) :
    OpR X f (rI0 fun i j => .int (g i j)) := by
  intro pins s σ H x y v u Q I rx ry h
  obtain ⟨i, j, rfl, rfl, q⟩ := h
  obtain ⟨t, rfl⟩ := rx
  obtain ⟨t', rfl⟩ := ry
  exact rule i j t t' s _ _ ⟨.int (g i j), H, I.tok _, ⟨_, rfl⟩, q⟩
theorem opB0 {f : Value → Value → Sem Value} {g : Int → Int → Bool}
    (rule : ∀ (i j : Int) (t u : Tok) (s : Shared) (Q : Value → Shared → Prop) (E : Value → Shared → Prop), Q (.bool (g i j)) s → wpAny (model X.prog X.w) X.A (f (.int i t) (.int j u)) Q E s) :
    OpR X f (rI0 fun i j => .bl (g i j)) := by
  intro pins s σ H x y v u Q I rx ry h
  obtain ⟨i, j, rfl, rfl, q⟩ := h
  obtain ⟨t, rfl⟩ := rx
  obtain ⟨t', rfl⟩ := ry
  exact rule i j t t' s _ _ ⟨.bl (g i j), H, I, rfl, q⟩

def CDiv (i j : Int) : Prop := 0 < j ∧ j < 1073741824
def CDivN (i j : Int) : Prop := j ≠ 0 ∧ j.natAbs < 1073741824
def CPow (i j : Int) : Prop := 0 ≤ j ∧ j ≤ 1000000 ∧ i.natAbs < 2 ^ 64
def CMul (i j : Int) : Prop := (-(2 ^ 64) < i ∧ i < 2 ^ 64) ∨ (-(2 ^ 64) < j ∧ j < 2 ^ 64)
theorem CMul.ok {i j : Int} (h : CMul i j) : IntMulOk i j := by
  rcases h with ⟨h1, h2⟩ | ⟨h1, h2⟩
  · exact .of_left (intBits_le_64 h1 h2)
  · exact .of_right (intBits_le_64 h1 h2)

theorem op_add : OpR X (binaryOp .Add) (rI0 fun i j => .int (i + j)) := opI0 fun _ _ _ _ _ _ _ q => add_int q
theorem op_sub : OpR X (binaryOp .Sub) (rI0 fun i j => .int (i - j)) := opI0 fun _ _ _ _ _ _ _ q => sub_int q
theorem op_mul : OpR X (binaryOp .Mult) (rI CMul fun i j => .int (i * j)) := opI fun _ _ _ _ _ _ _ hc q => mul_int q hc.ok
/-- // by a positive divisor -/
theorem op_fdiv : OpR X (binaryOp .FloorDiv) (rI CDiv fun i j => .int (i / j)) := opI fun i j _ _ _ _ _ hc q => by
  have h1 : (0 : Int) < j := hc.1
  have h2 : j < 1073741824 := hc.2
  exact floordiv_int (by omega) (by rw [Int.fdiv_eq_ediv_of_nonneg i (by omega)]; exact q) (.inl (PyProof.noPylong_small (by omega)))
/-- % by a positive divisor of any size -/
theorem op_mod : OpR X (binaryOp .Mod) (rI (fun _ j => 0 < j) fun i j => .int (i % j)) := opI fun i j _ _ _ _ _ hc q => by
  have h1 : (0 : Int) < j := hc
  exact mod_int' (by omega) (by rw [Int.fmod_eq_emod_of_nonneg i (by omega)]; exact q)
theorem op_pow : OpR X (binaryOp .Pow) (rI CPow fun i j => .int (i ^ j.toNat)) := opI fun _ _ _ _ _ _ _ hc q => pow_int_small hc.1 hc.2.1 hc.2.2 q



/-! ### bools among ints: n += (a < b) -/
end

/-! ### comparisons -/
/-- the scalars that == tells apart as data does -/
def scal : V → V → Bool
  | .non, .non => true | .non, .int _ => true | .int _, .non => true | .non, .bl _ => true | .bl _, .non => true | .non, .str _ => true | .str _, .non => true
  | .int _, .int _ => true | .bl _, .bl _ => true | .str _, .str _ => true | .byt _, .byt _ => true
  | .int _, .str _ => true | .str _, .int _ => true | .bl _, .str _ => true | .str _, .bl _ => true
  | _, _ => false
def rEq : R2 := fun x y H Q => scal x y = true ∧ Q (.bl (decide (x = y))) H
def rNe : R2 := fun x y H Q => scal x y = true ∧ Q (.bl (!decide (x = y))) H

theorem dec_int {i j : Int} : decide (V.int i = V.int j) = (i == j) := by
  rw [Bool.eq_iff_iff]
  simp
theorem dec_bl {i j : Bool} : decide (V.bl i = V.bl j) = (i == j) := by
  rw [Bool.eq_iff_iff]
  simp
theorem dec_str {i j : Str} : decide (V.str i = V.str j) = (i == j) := by
  rw [Bool.eq_iff_iff]
  simp
theorem dec_byt {i j : Array UInt8} : decide (V.byt i = V.byt j) = (i.toList == j.toList) := by
  rw [Bool.eq_iff_iff]
  cases i
  cases j
  simp

section
variable {X : Cx} {a b c : Expr} {ta tb tc : TE} {pos : Pos}
theorem fin_bl {pins : List (Addr × Obj)} {σ : St} {H : Hp} {s : Shared} {Q : VK} {k k' : Bool} (I : Inv X pins σ H s) (q : Q (.bl k) H) (e : k = k') : EP X pins σ Q (.bool k') s := by
  subst e
  exact ⟨.bl k, H, I, rfl, q⟩
theorem op_eq : OpR X (compareOp .Eq) rEq := by
  intro pins s σ H x y v u Q I rx ry h
  obtain ⟨hs, q⟩ := h
  cases x with
  | non =>
    cases rx
    cases y with
    | non => cases ry; exact PySem.EqNone.eq_none_none (fin_bl I q (by simp))
    | bl j => cases ry; exact PySem.EqNone.eq_none_bool (fin_bl I q (by simp))
    | int j => obtain ⟨t', rfl⟩ := ry; exact PySem.EqNone.eq_none_int (fin_bl I q (by simp))
    | str j => obtain ⟨t', rfl⟩ := ry; exact PySem.EqNone.eq_none_str (fin_bl I q (by simp))
    | _ => exact absurd (show false = true from hs) Bool.false_ne_true
  | bl i =>
    cases rx
    cases y with
    | non => cases ry; exact PySem.EqNone.eq_bool_none (fin_bl I q (by simp))
    | bl j => cases ry; exact eq_bool (fin_bl I q dec_bl)
    | str j => obtain ⟨t', rfl⟩ := ry; exact PySem.EqMixed.eq_bool_str (fin_bl I q (by simp))
    | _ => exact absurd (show false = true from hs) Bool.false_ne_true
  | int i =>
    obtain ⟨t, rfl⟩ := rx
    cases y with
    | non => cases ry; exact PySem.EqNone.eq_int_none (fin_bl I q (by simp))
    | int j => obtain ⟨t', rfl⟩ := ry; exact eq_int (fin_bl I q dec_int)
    | str j => obtain ⟨t', rfl⟩ := ry; exact PySem.EqMixed.eq_int_str (fin_bl I q (by simp))
    | _ => exact absurd (show false = true from hs) Bool.false_ne_true
  | str i =>
    obtain ⟨t, rfl⟩ := rx
    cases y with
    | non => cases ry; exact PySem.EqNone.eq_str_none (fin_bl I q (by simp))
    | bl j => cases ry; exact PySem.EqMixed.eq_str_bool (fin_bl I q (by simp))
    | int j => obtain ⟨t', rfl⟩ := ry; exact PySem.EqMixed.eq_str_int (fin_bl I q (by simp))
    | str j => obtain ⟨t', rfl⟩ := ry; exact eq_str (fin_bl I q dec_str)
    | _ => exact absurd (show false = true from hs) Bool.false_ne_true
  | byt i =>
    obtain ⟨t, rfl⟩ := rx
    cases y with
    | byt j => obtain ⟨t', rfl⟩ := ry; exact PySem.W.eq_bytes (fin_bl I q dec_byt)
    | _ => exact absurd (show false = true from hs) Bool.false_ne_true
  | _ => cases y <;> exact absurd (show false = true from hs) Bool.false_ne_true
theorem op_ne : OpR X (compareOp .NotEq) rNe := by
  intro pins s σ H x y v u Q I rx ry h
  obtain ⟨hs, q⟩ := h
  cases x with
  | non =>
    cases rx
    cases y with
    | non => cases ry; exact PySem.EqNone.ne_none_none (fin_bl I q (by simp))
    | bl j => cases ry; exact PySem.EqNone.ne_none_bool (fin_bl I q (by simp))
    | int j => obtain ⟨t', rfl⟩ := ry; exact PySem.EqNone.ne_none_int (fin_bl I q (by simp))
    | str j => obtain ⟨t', rfl⟩ := ry; exact PySem.EqNone.ne_none_str (fin_bl I q (by simp))
    | _ => exact absurd (show false = true from hs) Bool.false_ne_true
  | bl i =>
    cases rx
    cases y with
    | non => cases ry; exact PySem.EqNone.ne_bool_none (fin_bl I q (by simp))
    | bl j => cases ry; exact ne_bool (fin_bl I q (congrArg not dec_bl))
    | str j => obtain ⟨t', rfl⟩ := ry; exact PySem.EqMixed.ne_bool_str (fin_bl I q (by simp))
    | _ => exact absurd (show false = true from hs) Bool.false_ne_true
  | int i =>
    obtain ⟨t, rfl⟩ := rx
    cases y with
    | non => cases ry; exact PySem.EqNone.ne_int_none (fin_bl I q (by simp))
    | int j => obtain ⟨t', rfl⟩ := ry; exact ne_int (fin_bl I q (congrArg not dec_int))
    | str j => obtain ⟨t', rfl⟩ := ry; exact PySem.EqMixed.ne_int_str (fin_bl I q (by simp))
    | _ => exact absurd (show false = true from hs) Bool.false_ne_true
  | str i =>
    obtain ⟨t, rfl⟩ := rx
    cases y with
    | non => cases ry; exact PySem.EqNone.ne_str_none (fin_bl I q (by simp))
    | bl j => cases ry; exact PySem.EqMixed.ne_str_bool (fin_bl I q (by simp))
    | int j => obtain ⟨t', rfl⟩ := ry; exact PySem.EqMixed.ne_str_int (fin_bl I q (by simp))
    | str j => obtain ⟨t', rfl⟩ := ry; exact ne_str (fin_bl I q (congrArg not dec_str))
    | _ => exact absurd (show false = true from hs) Bool.false_ne_true
  | byt i =>
    obtain ⟨t, rfl⟩ := rx
    cases y with
    | byt j => obtain ⟨t', rfl⟩ := ry; exact PySem.W.ne_bytes (fin_bl I q (congrArg not dec_byt))
    | _ => exact absurd (show false = true from hs) Bool.false_ne_true
  | _ => cases y <;> exact absurd (show false = true from hs) Bool.false_ne_true

theorem op_lt : OpR X (compareOp .Lt) (rI0 fun i j => .bl (decide (i < j))) := opB0 fun _ _ _ _ _ _ _ q => lt_int q
theorem op_gt : OpR X (compareOp .Gt) (rI0 fun i j => .bl (decide (j < i))) := opB0 fun _ _ _ _ _ _ _ q => gt_int q
theorem op_ge : OpR X (compareOp .GtE) (rI0 fun i j => .bl (decide (j ≤ i))) := opB0 fun _ _ _ _ _ _ _ q => ge_int q


/-- is, is not of two objects that are tracked lists or instances -/
def isObj : HO → Bool
  | .lst _ => true
  | .ins _ _ _ => true
  | _ => false

/-- two rules for one operation: by cases -/
theorem OpR.or {f : Value → Value → Sem Value} {r r' : R2} (h : OpR X f r) (h' : OpR X f r') : OpR X f (fun x y H Q => r x y H Q ∨ r' x y H Q) := by
  intro pins s σ H x y v u Q I rx ry q
  rcases q with q | q
  · exact h pins s σ H x y v u Q I rx ry q
  · exact h' pins s σ H x y v u Q I rx ry q

theorem nomark (b : Expr) {op : CmpOp} (h : op ≠ .In := by decide) (h2 : op ≠ .NotIn := by decide) : behindInMarks op b = false := by
  have e1 : (op == CmpOp.In) = false := by cases op <;> first | rfl | exact absurd rfl h
  have e2 : (op == CmpOp.NotIn) = false := by cases op <;> first | rfl | exact absurd rfl h2
  cases b <;> simp [behindInMarks, e1, e2]
/-- a comparison as a value; hm: nomark b, or (for in, not in) by with_unfolding_all rfl -/
theorem pe_cmpR {op : CmpOp} {r : R2} (ho : OpR X (compareOp op) r) (ha : PE X a ta) (hb : PE X b tb) (hm : behindInMarks op b = false) : PE X (.Compare a [op] [b] pos) (tOp r ta tb) := by
  intro pins s σ H Q I h
  exact wpAny_Compare1 (binT ha hb I h fun v u s2 x y H2 I2 rx ry q => ho pins s2 σ H2 x y v u Q I2 rx ry q) hm
/-- a reading of a value as a test -/
def tTest (t : TE) : TT := fun σ H Q => t σ H fun x H' => ∃ k, x = .bl k ∧ Q k H'
theorem pt_cmpR {op : CmpOp} {r : R2} (ho : OpR X (compareOp op) r) (ha : PE X a ta) (hb : PE X b tb) (hm : behindInMarks op b = false) : PT X (.Compare a [op] [b] pos) (tTest (tOp r ta tb)) := by
  intro pins s σ H Q I h
  refine wpAny_isTrue_Compare1 (thn (ha pins s σ H _ I h) fun v s1 ⟨x, H1, I1, r1, q1⟩ => thn (hb pins s1 σ H1 _ I1 q1) fun u s2 ⟨y, H2, I2, r2, q2⟩ =>
    thn (ho pins s2 σ H2 x y v u _ I2 r1 r2 q2) fun c s3 ⟨z, H3, I3, r3, k, e, q3⟩ => ?_) hm
  subst e
  cases r3
  exact wpAny_truthy_bool ⟨H3, I3, q3⟩
/-- a op1 b op2 c -/
def tChain (r r' : R2) (ta tb tc : TE) : TE := fun σ H Q => ta σ H fun x H1 => tb σ H1 fun y H2 => r x y H2 fun z H3 => ∃ k, z = .bl k ∧
  (if k = true then tc σ H3 fun w' H4 => r' y w' H4 Q else Q (.bl false) H3)

/-! ### truth -/
/-- a value's truth by the abstract heap -/
def TruV (K : PySem.W.Frag) (x : V) (H : Hp) (k : Bool) : Prop :=
  match x with
  | .non => k = false
  | .bl b => k = b
  | .int i => k = (i != 0)
  | .str y => y.length ≤ sizeLine ∧ k = ((y.length : Int) != 0)
  | .byt y => y.size ≤ sizeLine ∧ k = ((y.size : Int) != 0)
  | .ref p => (∃ xs, SqL K H p xs ∧ k = !xs.isEmpty) ∨ (∃ xs, SqT K H p xs ∧ k = !xs.isEmpty) ∨ ∃ kvs, H p = some (.dK kvs) ∧ k = !kvs.isEmpty
  | _ => False
theorem line63 : (sizeLine : Nat) < 2 ^ 63 := by rw [sizeLine_eq]; decide

/-! ### strs and bytes -/
theorem op_add_str : OpR X (binaryOp .Add) (fun x y H Q => ∃ i j, x = .str i ∧ y = .str j ∧ i.length + j.length ≤ sizeLine ∧ Q (.str (i ++ j)) H) := by
  intro pins s σ H x y v u Q I rx ry h
  obtain ⟨i, j, rfl, rfl, hz, q⟩ := h
  obtain ⟨t, rfl⟩ := rx
  obtain ⟨t', rfl⟩ := ry
  exact add_str (fun t' tk => ⟨.str (i ++ j), H, I.tok _, ⟨_, rfl⟩, q⟩) hz

def PlainIxT (b : Expr) : Prop := ∀ o i, subscripted b false o i = operate [o, i] (getItem o i)

/-! ### scalar builtins, by CallR -/
theorem vals1 {x : V} {us : List Value} (r : Vals [x] us) : ∃ u, us = [u] ∧ RelV x u := by
  cases r with
  | cons r1 r2 => cases r2; exact ⟨_, rfl, r1⟩
theorem vals2 {x y : V} {us : List Value} (r : Vals [x, y] us) : ∃ u w', us = [u, w'] ∧ RelV x u ∧ RelV y w' := by
  cases r with
  | cons r1 r2 =>
    cases r2 with
    | cons r3 r4 => cases r4; exact ⟨_, _, rfl, r1, r3⟩
theorem call_int1 : CallR X (.type "int") (fun xs H Q => (∃ i, xs = [.int i] ∧ Q (.int i) H) ∨ ∃ k, xs = [.bl k] ∧ Q (.int (if k then 1 else 0)) H) := by
  intro pins s σ H xs us Q I r h
  rcases h with ⟨i, rfl, q⟩ | ⟨k, rfl, q⟩
  · obtain ⟨u, rfl, t, rfl⟩ := vals1 r
    exact call_int_int ⟨.int i, H, I, ⟨_, rfl⟩, q⟩
  · obtain ⟨u, rfl, r1⟩ := vals1 r
    cases r1
    exact call_int_bool ⟨.int (if k then 1 else 0), H, I.tok _, ⟨_, rfl⟩, q⟩
/-- len of a str, a bytes, a list, a tuple -/
def LenV (K : PySem.W.Frag) (x : V) (H : Hp) (n : Nat) : Prop :=
  match x with
  | .str y => y.length ≤ sizeLine ∧ n = y.length
  | .byt y => y.size ≤ sizeLine ∧ n = y.size
  | .ref p => (∃ xs, SqL K H p xs ∧ n = xs.length) ∨ ∃ xs, SqT K H p xs ∧ n = xs.length
  | _ => False
end
end L2

namespace L2
open PySem PySem.Spec PyProof.Rows

/-! ### an instance, its attributes a map -/
structure ObjM (h : Heap) (x dx C : Addr) (mA : Str → Option Value) : Prop where
  obj : h.get? x = some (PySem.W.instObj C dx)
  ns : h.Ns1 dx mA
  ne : dx ≠ x

theorem lookIn_ns {h : Heap} {dx : Addr} {mA : Str → Option Value} (n : h.Ns1 dx mA) : ∃ od, h.get? dx = some od ∧ ∀ name, PySem.W.lookIn name od = some (mA name) := by
  obtain ⟨o, es, ep, ho, hd, hk, _, hm⟩ := n
  refine ⟨o, ho, fun name => ?_⟩
  have e := hm name
  unfold nsFind findBy at e
  rw [← Array.find?_toList] at e
  unfold PySem.W.lookIn
  rw [hd]
  dsimp only
  split
  · rename_i y q
    rw [q] at e
    exact congrArg some e
  · rename_i q
    rw [q] at e
    have a : es.toList.any (·.refKey) = false := by
      rw [List.any_eq_false]
      intro y hy
      obtain ⟨z, t, hkey⟩ := hk y (Array.mem_toList_iff.mp hy)
      simp [DictEntry.refKey, hkey]
    have a' : ¬ es.toList.any (·.refKey) = true := by rw [a]; exact Bool.false_ne_true
    rw [if_neg a']
    exact congrArg some e

theorem ObjM.look {h : Heap} {x dx C : Addr} {mA : Str → Option Value} (I : ObjM h x dx C mA) : ∃ od, PySem.W.InstAt h x (PySem.W.instObj C dx) C (some od) ∧ ∀ name, PySem.W.lookIn name od = some (mA name) :=
  let ⟨od, ho, hl⟩ := lookIn_ns I.ns
  ⟨od, ⟨I.obj, rfl, rfl, ho⟩, hl⟩

section
variable {prog : Program} {w : World} {A : Around} {E : Value → Shared → Prop} {s : Shared} {K : PySem.W.Frag} {x dx C f : Addr} {mA : Str → Option Value} {name : Str} {v : Value}





end

/-! ### the attributes as a list of pairs -/
def putF (f : Str) (v : V) : List (Str × V) → List (Str × V)
  | [] => [(f, v)]
  | (g, x) :: r => if g = f then (g, v) :: r else (g, x) :: putF f v r


section
variable {P : Program} {w : World} {H H' : Hp} {h h' : Heap} {a C dx : Addr} {fs fs' : List (Str × V)}
theorem ins_get (hok : HOk P w H h) (e : H a = some (.ins C dx fs)) : ∃ mA, ObjM h a dx C mA ∧ (∀ f, RelO (fs.lookup f) (mA f)) ∧ PySem.Within mA (fs.map (·.1)) ∧ fs.length ≤ 1000 ∧ H dx = some (.own a) := by
  obtain ⟨d, z, ne, ob, mA, n, r, q⟩ := (show ObjOk P w H h a (.ins C dx fs) from hok a _ e)
  exact ⟨mA, ⟨ob, n, ne⟩, r, q, z, d⟩
end

/-! ### what of the text a class must have -/
structure Cls (K : PySem.W.Frag) (C : Addr) : Prop where
  pg : PySem.W.plainGet K C Str.empty = true
  hd : PySem.W.hasDictIn K C = true
  po : PySem.W.plainOver K C = true
  sa : PySem.W.findIn K (.ref C) "__setattr__" = some (some (.builtin "object.__setattr__"))
theorem Cls.get {K : PySem.W.Frag} {C : Addr} (c : Cls K C) (f : Str) : PySem.W.plainGet K C f = true := c.pg
/-- no class of it has the name -/
def NoAttr (K : PySem.W.Frag) (C : Addr) (f : Str) : Prop := PySem.W.findIn K (.ref C) f = some none
/-- a constant of the class -/
structure Con (K : PySem.W.Frag) (C : Addr) (f : Str) (v : V) (u : Value) : Prop where
  at_ : PySem.W.findIn K (.ref C) f = some (some u)
  rel : RelV v u
  get : PySem.W.specialIn K u "__get__" = some none
  cp : PySem.W.copiedNames.contains f = false
/-- a method: a plain def of the class or of one above it -/
structure Meth (K : PySem.W.Frag) (C : Addr) (m : Str) (f : Addr) : Prop where
  at_ : PySem.W.findIn K (.ref C) m = some (some (.ref f))
  fn : PySem.W.isFn K (.ref f) = true
  kp : PySem.W.keepIn K (.ref f) = true

section
variable {X : Cx} {pins : List (Addr × Obj)} {σ : St} {H : Hp} {s : Shared} {a C dx : Addr} {fs : List (Str × V)} {f : Str} {v : V} {A : Around} {E : Value → Shared → Prop}





/-- a new instance, tracked, without attributes -/
theorem Inv.made (I : Inv X pins σ H s) : Inv X pins σ (upd (upd H s.heap.objs.size (.own (s.heap.objs.size + 1))) (s.heap.objs.size + 1) (.ins C s.heap.objs.size []))
    { s with heap := (s.heap.push PySem.W.emptyDict).push (PySem.W.instObj C s.heap.objs.size) } := by
  have e1 : (s.heap.push PySem.W.emptyDict).get? s.heap.objs.size = some PySem.W.emptyDict := Heap.get?_push_size s.heap rfl
  have e2 : ((s.heap.push PySem.W.emptyDict).push (PySem.W.instObj C s.heap.objs.size)).get? (s.heap.objs.size + 1) = some (PySem.W.instObj C s.heap.objs.size) := by
    have := Heap.get?_push_size (s.heap.push PySem.W.emptyDict) (o := PySem.W.instObj C s.heap.objs.size) rfl
    rwa [Heap.size_push] at this
  have e3 : (s.heap.push PySem.W.emptyDict).Ns s.heap.objs.size (fun _ => none) := ⟨PySem.W.emptyDict, #[], _, e1, rfl, (fun e he => absurd he (by simp)), fun _ => rfl⟩
  have I1 := I.laid (a := s.heap.objs.size) (o := .own (s.heap.objs.size + 1)) (h' := s.heap.push PySem.W.emptyDict) (t' := s.toks) (fun b u q => Heap.get?_push_of_some _ q) (Nat.le_refl _) ⟨_, e1⟩
  refine I1.laid (a := s.heap.objs.size + 1) (o := .ins C s.heap.objs.size []) (t' := s.toks) (fun b u q => Heap.get?_push_of_some _ q) (Nat.le_of_eq (Heap.size_push _ _)) ?_
  have ne : s.heap.objs.size ≠ s.heap.objs.size + 1 := Nat.ne_of_lt (Nat.lt_succ_self _)
  refine ⟨by rw [upd_ne ne, upd_same], Nat.zero_le _, ne, e2, fun _ => none, (Heap.Ns1.of_empty e3).at fun o q => Heap.get?_push_of_some _ q, fun _ => True.intro, fun y hy => absurd rfl hy⟩

end

/-! ### readings and rules -/
/-- e.f, an attribute of the instance -/
def tFld (K : PySem.W.Frag) (ta : TE) (f : Str) : TE := fun σ H Q => ta σ H fun x H1 => ∃ a C dx fs v, x = .ref a ∧ H1 a = some (.ins C dx fs) ∧ Cls K C ∧ NoAttr K C f ∧ fs.lookup f = some v ∧ Q v H1
/-- e.f, a constant of the class -/
def tCon (K : PySem.W.Frag) (ta : TE) (f : Str) : TE := fun σ H Q => ta σ H fun x H1 => ∃ a C dx fs v u, x = .ref a ∧ H1 a = some (.ins C dx fs) ∧ Cls K C ∧ Con K C f v u ∧ fs.lookup f = none ∧ Q v H1
/-- e.f = value -/
def sFld (K : PySem.W.Frag) (ta tv : TE) (f : Str) : TS := fun D σ H => tv σ H fun y H1 => ta σ H1 fun x H2 => ∃ a C dx fs, x = .ref a ∧ H2 a = some (.ins C dx fs) ∧ Cls K C ∧ NoAttr K C f ∧ fs.length < 1000 ∧
  D.nx σ (upd H2 a (.ins C dx (putF f y fs)))
/-- an augmented operator on two values -/
def InOp (X : Cx) (op : Operator) (rd : V → V → Hp → VK → Prop) : Prop :=
  ∀ (pins : List (Addr × Obj)) (s : Shared) (σ : St) (H : Hp) (x y : V) (u v : Value) (Q : VK), Inv X pins σ H s → RelV x u → RelV y v → rd x y H Q → wpAny (model X.prog X.w) X.A (inplaceOp op u v) (EP X pins σ Q) X.xe s
/-- e.f op= value -/
def sFldAug (K : PySem.W.Frag) (ta tv : TE) (rd : V → V → Hp → VK → Prop) (f : Str) : TS := fun D σ H => ta σ H fun x H1 => ∃ a C dx fs v, x = .ref a ∧ H1 a = some (.ins C dx fs) ∧ Cls K C ∧ NoAttr K C f ∧ fs.lookup f = some v ∧
  tv σ H1 fun y H2 => rd v y H2 fun z H3 => ∃ dx' fs', H3 a = some (.ins C dx' fs') ∧ fs'.length < 1000 ∧ D.nx σ (upd H3 a (.ins C dx' (putF f z fs')))

section
variable {X : Cx} {o e value : Expr} {f : Str} {pos pos' tpos : Pos} {ta tv : TE}
def rAdd : V → V → Hp → VK → Prop := fun x y H Q => ∃ i j, x = .int i ∧ y = .int j ∧ Q (.int (i + j)) H
def rSub : V → V → Hp → VK → Prop := fun x y H Q => ∃ i j, x = .int i ∧ y = .int j ∧ Q (.int (i - j)) H

end

/-! ### isinstance -/
section
variable {X : Cx} {pins : List (Addr × Obj)} {σ : St} {H : Hp} {s : Shared} {A : Around} {E : Value → Shared → Prop} {Q : Value → Shared → Prop} {c : Value} {b : Bool}
/-- the type of a value, as the fragment's deciders take it; for an instance its class -/
inductive TyOf (K : PySem.W.Frag) (H : Hp) : V → Value → Prop where
  | non : TyOf K H .non (.type "NoneType")
  | bl (x : Bool) : TyOf K H (.bl x) (.type "bool")
  | int (i : Int) : TyOf K H (.int i) (.type "int")
  | str (x : Str) : TyOf K H (.str x) (.type "str")
  | flt (x : UInt64) : TyOf K H (.flt x) (.type "float")
  | lst {a : Addr} {xs : List V} (e : H a = some (.lst xs)) : TyOf K H (.ref a) (.type "list")
  | frz {a : Addr} {o : Obj} {xs : List V} (e : H a = some (.frz o (.lst xs))) : TyOf K H (.ref a) (.type "list")
  | tup {a : Addr} {xs : List V} (e : H a = some (.tup xs)) : TyOf K H (.ref a) (.type "tuple")
  | dK {a : Addr} {kvs : List (Key × V)} (e : H a = some (.dK kvs)) : TyOf K H (.ref a) (.type "dict")
  | dT {a : Addr} {kvs : List (List Key × V)} (e : H a = some (.dT kvs)) : TyOf K H (.ref a) (.type "dict")
  | ins {a C dx : Addr} {fs : List (Str × V)} (e : H a = some (.ins C dx fs)) (cl : Cls K C) (ha : PySem.W.findIn K (.ref C) "__class__" = some (some (.builtin "object.__class__")))
      (hn : PySem.W.specialIn K (.builtin "object.__class__") "__get__" = some (some (.builtin "getset_descriptor.__get__"))) (htk : PySem.W.takesIn K (.builtin "object.__class__") = some true)
      (hm : PySem.W.mroIn K C (.type "object") = some true) : TyOf K H (.ref a) (.ref C)
/-- isinstance(x, c) for one class c, a built-in or an own one: kitOne's answer -/
theorem isinst_ok {x : V} {u t : Value} (I : Inv X pins σ H s) (rx : RelV x u) (ty : TyOf X.K H x t) (e : PySem.W.kitOne X.K t c = some b) (h : ∀ tk, Q (.bool b) { s with toks := tk }) :
    wpAny (model X.prog X.w) A (call (.builtin "isinstance") [u, c]) Q E s := by
  cases ty with
  | non => cases (show u = Value.none from rx); exact PySem.W.kia_one PySem.W.kitx_none I.kIn True.intro e (fun z => nomatch z) h
  | bl y => cases (show u = Value.bool y from rx); exact PySem.W.kia_one PySem.W.kitx_bool I.kIn True.intro e (fun z => nomatch z) h
  | int i => obtain ⟨t, q⟩ := (show ∃ t, u = Value.int i t from rx); cases q; exact PySem.W.kia_one PySem.W.kitx_int I.kIn True.intro e (fun z => nomatch z) h
  | str y => obtain ⟨t, q⟩ := (show ∃ t, u = Value.str y t from rx); cases q; exact PySem.W.kia_one PySem.W.kitx_str I.kIn True.intro e (fun z => nomatch z) h
  | flt y => obtain ⟨t, q⟩ := (show ∃ t, u = Value.float y t from rx); cases q; exact PySem.W.kia_one PySem.W.kitx_float I.kIn True.intro e (fun z => nomatch z) h
  | @lst a xs ea =>
    cases (show u = Value.ref a from rx)
    obtain ⟨_, _, n, _, h1⟩ := (show ObjOk X.prog X.w H s.heap a (.lst xs) from I.hok a _ ea)
    exact PySem.W.kia_one PySem.W.kitx_list I.kIn ⟨_, h1, rfl⟩ e (fun z => nomatch z) h
  | @frz a ob xs ea =>
    cases (show u = Value.ref a from rx)
    obtain ⟨_, _, _, n, _, h1⟩ := (show ObjOk X.prog X.w H s.heap a (.frz ob (.lst xs)) from I.hok a _ ea)
    exact PySem.W.kia_one PySem.W.kitx_list I.kIn ⟨_, h1, rfl⟩ e (fun z => nomatch z) h
  | @tup a xs ea =>
    cases (show u = Value.ref a from rx)
    obtain ⟨_, _, _, p⟩ := (show ObjOk X.prog X.w H s.heap a (.tup xs) from I.hok a _ ea)
    obtain ⟨o, h1, h2, _⟩ := p
    exact PySem.W.kia_one PySem.W.kitx_tuple I.kIn ⟨o, h1, h2.1⟩ e (fun z => nomatch z) h
  | @dK a kvs ea =>
    cases (show u = Value.ref a from rx)
    obtain ⟨_, _, vs, _, p⟩ := (show ObjOk X.prog X.w H s.heap a (.dK kvs) from I.hok a _ ea)
    obtain ⟨o, es, ep, h1, h2, _⟩ := p
    exact PySem.W.kia_one PySem.W.kitx_dict I.kIn ⟨o, h1, h2.1⟩ e (fun z => nomatch z) h
  | @dT a kvs ea =>
    cases (show u = Value.ref a from rx)
    obtain ⟨_, _, xs, _, o, es, ep, h1, h2, _⟩ := (show ObjOk X.prog X.w H s.heap a (.dT kvs) from I.hok a _ ea)
    exact PySem.W.kia_one PySem.W.kitx_dict I.kIn ⟨o, h1, h2.1⟩ e (fun z => nomatch z) h
  | @ins a C dx fs ea cl ha hn htk hm =>
    cases (show u = Value.ref a from rx)
    obtain ⟨mA, O, _⟩ := ins_get I.hok ea
    obtain ⟨od, J, _⟩ := O.look
    exact PySem.W.kia_one (PySem.W.kitx_own (cl.get _) cl.hd ha hn htk hm) I.kIn J e (fun z => nomatch z) h
end
end L2

namespace L2
open PySem PySem.Spec PyProof.Rows

/-! ### room -/
structure Room (k : Nat) (A : Around) : Prop where
  hd : A.handled = none
  dp : A.depth + 3 * k + 5 < recursionLimit
  un : A.units + 16 * k + 200 < cLine
theorem Room.mono {j k : Nat} {A : Around} (r : Room k A) (h : j ≤ k) : Room j A := ⟨r.hd, by have := r.dp; omega, by have := r.un; omega⟩
theorem Room.deeper {k : Nat} {A : Around} (r : Room (k + 1) A) (env : Env) : Room k (A.deeper env) :=
  ⟨r.hd, by have := r.dp; show A.depth + 1 + 3 * k + 5 < _; omega, by have := r.un; show A.units + 3 + 16 * k + 200 < _; omega⟩
theorem Room.in1 {k : Nat} {A : Around} (r : Room (k + 1) A) : Room k A.in1 :=
  ⟨r.hd, by have := r.dp; show A.depth + 3 * k + 5 < _; omega, by have := r.un; show A.units + 1 + 16 * k + 200 < _; omega⟩
theorem Room.depth {k : Nat} {A : Around} (r : Room k A) : A.depth < recursionLimit := by have := r.dp; omega
theorem Room.units {k : Nat} {A : Around} (r : Room k A) : A.units + 64 < cLine := by have := r.un; omega

/-! ### argument lists and displays -/
def tNil : TA := fun _ H Q => Q [] H
def tCons (ta : TE) (tr : TA) : TA := fun σ H Q => ta σ H fun x H1 => tr σ H1 fun xs H2 => Q (x :: xs) H2
section
variable {X : Cx} {e : Expr} {es : List Expr} {te : TE} {t : TA} {pos : Pos}
theorem pa_nil : PA X [] tNil := fun _ _ _ _ H Q I h => Calls.spliced_nil ⟨[], H, I, .nil, h⟩
theorem pa_cons (ha : PE X e te) (hr : PA X es t) (hs : starEach (e :: es) X.env = (false, eval e X.env) :: starEach es X.env := by rfl) : PA X (e :: es) (tCons te t) := by
  intro pos pins s σ H Q I h
  rw [hs]
  show wpAny _ _ (spliced ((false, eval e X.env) :: backTo pos (starEach es X.env))) _ _ s
  refine Calls.spliced_cons (thn (ha pins s σ H _ I h) fun u s1 ⟨x, H1, I1, r1, q1⟩ => ?_)
  exact thn (hr pos pins s1 σ H1 _ I1 q1) fun us s2 ⟨xs, H2, I2, r2, q2⟩ => ⟨x :: xs, H2, I2, .cons r1 r2, q2⟩

/-- a tuple, a list of written items -/
def tTup (t : TA) : TE := fun σ H Q => t σ H fun xs H1 => xs.length ≤ sizeLine ∧ ∀ p, H1 p = none → Q (.ref p) (upd H1 p (.tup xs))
def tLst (t : TA) : TE := fun σ H Q => t σ H fun xs H1 => xs.length ≤ sizeLine ∧ ∀ p, H1 p = none → Q (.ref p) (upd H1 p (.lst xs))
theorem pe_tup {x1} (h : PA X es t) : PE X (.Tuple es x1 pos) (tTup t) := by
  intro pins s σ H Q I hq
  refine wpAny_Tuple_spliced (thn (h pos pins s σ H _ I hq) fun us s1 ⟨xs, H1, I1, r, z, q⟩ => ⟨by rw [← r.length]; exact z, ?_⟩)
  have hf : H1 s1.heap.objs.size = none := I1.hok.fresh (Nat.le_refl _)
  refine ⟨.ref s1.heap.objs.size, upd H1 s1.heap.objs.size (.tup xs), I1.laid (t' := s1.toks) (fun b u e => Heap.get?_push_of_some _ e) (Nat.le_refl _) ?_, rfl, q _ hf⟩
  exact ⟨z, us, r, TupN.new _ _⟩
theorem pe_lst (h : PA X es t) : PE X (.List es pos) (tLst t) := by
  intro pins s σ H Q I hq
  refine wpAny_List_spliced (thn (h pos pins s σ H _ I hq) fun us s1 ⟨xs, H1, I1, r, z, q⟩ => ⟨by rw [← r.length]; exact z, ?_⟩)
  have hf : H1 s1.heap.objs.size = none := I1.hok.fresh (Nat.le_refl _)
  refine ⟨.ref s1.heap.objs.size, upd H1 s1.heap.objs.size (.lst xs), I1.laid (t' := s1.toks) (fun b u e => Heap.get?_push_of_some _ e) (Nat.le_refl _) ?_, rfl, q _ hf⟩
  exact ⟨z, us, 0, r, Heap.get?_push_size _ rfl⟩
end

/-! ### what a def promises -/
/-- a def's promise: the bound arguments in the parameters' order, the heap, the wanted end, the wanted exception -/
abbrev Sp := List V → Hp → VK → XK → Prop
/-- how an exception lies behind a call (file 08 gives it): the callers' frames, abstract heap and state ahead of the call, the wish, the exception, the state -/
abbrev CXT := List Env → Hp → Shared → XK → Value → Shared → Prop

/-- the state at a call -/
structure Env0 (P : Program) (w : World) (K : PySem.W.Frag) (mg : Str → Option Value) (base : Heap) (A : Around) (outer : List Env) (s : Shared) (H : Hp) : Prop where
  frames : A.frames = some outer
  mod : Mod K mg base
  bs : ∀ b o, base.get? b = some o → s.heap.get? b = some o ∧ H b = none
  bsz : base.objs.size ≤ s.heap.objs.size
  funs : s.heap.FunFrames base outer
  frf : ∀ b ∈ frs outer, H b = none
  hok : HOk P w H s.heap
  bare : AllBare s.gens
/-- a call's end -/
def CE (outer : List Env) (P : Program) (w : World) (H : Hp) (s : Shared) (Q : VK) (u : Value) (s' : Shared) : Prop :=
  ∃ v H', s'.os = s.os ∧ AllBare s'.gens ∧ Un (frs outer) [] H H' s.heap s'.heap ∧ HOk P w H' s'.heap ∧ RelV v u ∧ Q v H'
def CR (CX : CXT) (outer : List Env) (P : Program) (w : World) (H : Hp) (s : Shared) (Q : VK) (E : XK) (r : Result) (s' : Shared) : Prop :=
  match r with
  | .ok (.ret u) => CE outer P w H s Q u s'
  | .ok _ => False
  | .error e => CX outer H s E e s'
structure FnOk (P : Program) (w : World) (K : PySem.W.Frag) (mg : Str → Option Value) (base : Heap) (CX : CXT) (k : Nat) (f : Addr) (fd : FuncData) (ps : List Str) (sp : Sp) : Prop where
  len : ∀ vs H Q E, sp vs H Q E → vs.length = ps.length
  run : ∀ (A : Around) (outer : List Env) (s : Shared) (H : Hp) (args : Args) (us : List Value) (vs : List V) (Q : VK) (E : XK), Room k A → Env0 P w K mg base A outer s H → BindsTo s fd args (ps.zip us) → Vals vs us → sp vs H Q E →
    codeAny (model P w) A (.call (.ref f) args) (CR CX outer P w H s Q E) s
theorem FnOk.mono {P : Program} {w : World} {K : PySem.W.Frag} {mg : Str → Option Value} {base : Heap} {CX : CXT} {j k : Nat} {f : Addr} {fd : FuncData} {ps : List Str} {sp : Sp} (F : FnOk P w K mg base CX j f fd ps sp) (h : j ≤ k) :
    FnOk P w K mg base CX k f fd ps sp := ⟨F.len, fun A outer s H args us vs Q E hr => F.run A outer s H args us vs Q E (hr.mono h)⟩
/-- a weaker promise -/
theorem FnOk.imp {P : Program} {w : World} {K : PySem.W.Frag} {mg : Str → Option Value} {base : Heap} {CX : CXT} {k : Nat} {f : Addr} {fd : FuncData} {ps : List Str} {sp sp' : Sp} (F : FnOk P w K mg base CX k f fd ps sp)
    (h : ∀ vs H Q E, sp' vs H Q E → sp vs H Q E) : FnOk P w K mg base CX k f fd ps sp' :=
  ⟨fun vs H Q E q => F.len vs H Q E (h _ _ _ _ q), fun A outer s H args us vs Q E hr he hb hv hs => F.run A outer s H args us vs Q E hr he hb hv (h _ _ _ _ hs)⟩

theorem Env0.in1 {P : Program} {w : World} {K : PySem.W.Frag} {mg : Str → Option Value} {base : Heap} {A : Around} {outer : List Env} {s : Shared} {H : Hp} (e : Env0 P w K mg base A outer s H) :
    Env0 P w K mg base A.in1 outer s H := ⟨e.frames, e.mod, e.bs, e.bsz, e.funs, e.frf, e.hok, e.bare⟩

section
variable {X : Cx} {pins : List (Addr × Obj)} {σ : St} {H : Hp} {s s' : Shared}
/-- from a body: what a callee wants -/
theorem Inv.env0 (I : Inv X pins σ H s) : Env0 X.prog X.w X.K X.mg X.base X.A X.stack s H :=
  ⟨I.ok.frames, I.ok.mod, I.bs, Nat.le_trans I.ok.bsz I.sz, I.stack, I.stkFree, I.hok, I.bare⟩
/-- behind a call -/
theorem Inv.after {Q : VK} {u : Value} (I : Inv X pins σ H s) (h : CE X.stack X.prog X.w H s Q u s') : EP X pins σ Q u s' := by
  obtain ⟨v, H', os, bare, un, hok, r, q⟩ := h
  obtain ⟨hh, g, d, t, os'⟩ := s'
  obtain rfl : os' = s.os := os
  exact ⟨v, H', I.call (h' := hh) (g' := g) (d' := d) (t' := t) (ch := []) un hok bare (fun b z => absurd z (by simp)), r, q⟩
end

/-! ### calls -/
/-- f(..): the written arguments, then the defaults dvs; E: what is wanted of an exception -/
def tCall (sp : Sp) (dvs : List V) (E : XK) (t : TA) : TE := fun σ H Q => t σ H fun vs H1 => sp (vs ++ dvs) H1 Q E
/-- o.m(..) of an instance of the class at C -/
def tMeth (C : Addr) (m : Str) (sp : Sp) (dvs : List V) (E : XK) (ta : TE) (t : TA) : TE := fun σ H Q => ta σ H fun x H1 => ∃ a dx fs, x = .ref a ∧ H1 a = some (.ins C dx fs) ∧ fs.lookup m = none ∧
  t σ H1 fun vs H2 => sp (x :: (vs ++ dvs)) H2 Q E
/-- C(..): a new instance and its dict, then __init__ -/
def tMake (C : Addr) (sp : Sp) (dvs : List V) (E : XK) (t : TA) : TE := fun σ H Q => t σ H fun vs H1 => ∀ x dx, H1 x = none → H1 dx = none → dx ≠ x →
  sp (.ref x :: (vs ++ dvs)) (upd (upd H1 dx (.own x)) x (.ins C dx [])) (fun v H2 => v = .non ∧ Q (.ref x) H2) E

/-- how the parameters are bound: us the positional arguments, kw the keywords' values by name, ds the defaults that fill up -/
def Binds (K : PySem.W.Frag) (fd : FuncData) (ps : List Str) (ds : List Value) : Prop :=
  ∀ (s : Shared) (us : List Value), K.In s.heap → (us ++ ds).length = ps.length → BindsTo s fd ⟨us, []⟩ (ps.zip (us ++ ds))
/-- every parameter is given -/
theorem Binds.all {K : PySem.W.Frag} {fd : FuncData} {ps : List Str} (h : ∀ us : List Value, us.length = ps.length → bindArgs fd ⟨us, []⟩ = pure (ps.zip us)) : Binds K fd ps [] := fun s us _ hl => by
  rw [List.append_nil] at hl ⊢
  exact .of_eq (h us hl)

/-- an exception of a callee reaches what this body wants of exceptions -/
def Passes (CX : CXT) (X : Cx) (E : XK) : Prop := ∀ (pins : List (Addr × Obj)) (σ : St) (H : Hp) (s : Shared) (e : Value) (s' : Shared), Inv X pins σ H s → CX X.stack H s E e s' → X.xe e s'

section
variable {X : Cx} {CX : CXT} {k : Nat} {f C : Addr} {fd : FuncData} {ps : List Str} {sp : Sp} {dvs : List V} {ds : List Value} {E : XK} {x m : Str} {p pos apos : Pos} {e o : Expr} {es : List Expr} {ta : TE} {t : TA}

/-- the callee runs -/
theorem run_fn {pins : List (Addr × Obj)} {σ : St} {H : Hp} {s : Shared} {Q : VK} {us : List Value} {vs : List V} (F : FnOk X.prog X.w X.K X.mg X.base CX k f fd ps sp) (hr : Room k X.A) (hb : Binds X.K fd ps ds) (hd : Vals dvs ds) (hx : Passes CX X E)
    (I : Inv X pins σ H s) (r : Vals vs us) (h : sp (vs ++ dvs) H Q E) : wpAny (model X.prog X.w) X.A (call (.ref f) us) (EP X pins σ Q) X.xe s := by
  have r2 : Vals (vs ++ dvs) (us ++ ds) := r.append hd
  have hl : (us ++ ds).length = ps.length := by rw [← r2.length]; exact F.len _ _ _ _ h
  refine wpAny_call (codeAny_mono (F.run X.A X.stack s H ⟨us, []⟩ (us ++ ds) (vs ++ dvs) Q E hr I.env0 (hb s us I.kIn hl) r2 h) fun r s' hq => ?_)
  cases r with
  | error e => exact hx pins σ H s e s' I hq
  | ok fl =>
    cases fl with
    | ret u => exact I.after hq
    | next => exact False.elim hq
    | brk => exact False.elim hq
    | cont => exact False.elim hq

theorem pe_call (F : FnOk X.prog X.w X.K X.mg X.base CX k f fd ps sp) (hr : Room k X.A) (hg : Gl X x) (hm : X.mg x = some (.ref f)) (hk : PySem.W.keepIn X.K (.ref f) = true) (hb : Binds X.K fd ps ds) (hd : Vals dvs ds) (hx : Passes CX X E)
    (ha : PA X (e :: es) t) (hdb : (x == ("__debug__" : Str)) = false := by decide) (he : starEach (e :: es) X.env = (false, eval e X.env) :: starEach es X.env := by rfl) (hpl : (backTo pos (starEach es X.env)).any (·.1) = false := by rfl) :
    PE X (.Call (.Name x p) (e :: es) [] pos) (tCall sp dvs E t) := by
  intro pins s σ H Q I h
  refine wpAny_Call_Name_kw (ld_glob I hg hm ?_ hdb)
  refine PySem.W.callWith_K (h₀ := X.base) I.ok.mod.kin hk (thn (ha pos pins s σ H _ I h) fun us s1 ⟨vs, H1, I1, r, q⟩ => ⟨I1.kIn, ?_⟩) he hpl
  exact run_fn F hr hb hd hx I1 r q


/-- what a class must have to be made -/
structure Mk (K : PySem.W.Frag) (C f : Addr) : Prop where
  makes : PySem.W.makesIn K C = true
  init : PySem.W.findIn K (.ref C) "__init__" = some (some (.ref f))
  fn : PySem.W.isFn K (.ref f) = true
  kp : PySem.W.keepIn K (.ref C) = true

end

/-! ### keywords -/
/-- the values of the keywords, from the left -/
def PK (X : Cx) (kws : List Keyword) (t : TA) : Prop :=
  ∀ (pos : Pos) (pins : List (Addr × Obj)) (s : Shared) (σ : St) (H : Hp) (Q : List V → Hp → Prop), Inv X pins σ H s → t σ H Q → wpAny (model X.prog X.w) X.A (evalAll ((backToKw pos (keywordEach kws X.env)).map (·.2))) (AP X pins σ Q) X.xe s
section
variable {X : Cx} {CX : CXT} {k : Nat} {f C : Addr} {fd : FuncData} {ps ks : List Str} {sp : Sp} {E : XK} {x m : Str} {p pos apos kpos : Pos} {e o : Expr} {es : List Expr} {kws : List Keyword} {te ta : TE} {t tk : TA} {nm : Option Str}

/-- how a call with keywords binds: g puts the positional values us and the keywords' values ws (names ks) in the parameters' order, defaults among them -/
structure KBinds (K : PySem.W.Frag) (fd : FuncData) (ps ks : List Str) (g : List Value → List Value → List Value) (gV : List V → List V → List V) : Prop where
  to : ∀ (s : Shared) (us ws : List Value), K.In s.heap → (g us ws).length = ps.length → BindsTo s fd ⟨us, ks.zip ws⟩ (ps.zip (g us ws))
  rel : ∀ {vs : List V} {us : List Value} {zs : List V} {ws : List Value}, Vals vs us → Vals zs ws → Vals (gV vs zs) (g us ws)
def tCallK (sp : Sp) (gV : List V → List V → List V) (E : XK) (t tk : TA) : TE := fun σ H Q => t σ H fun vs H1 => tk σ H1 fun zs H2 => sp (gV vs zs) H2 Q E
variable {g : List Value → List Value → List Value} {gV : List V → List V → List V}
end

/-! ### a def's body keeps its promise -/
/-- names: the parameters first -/
structure FnScope (N P : List Str) (sc : Scope) : Prop where
  kind : sc.kind = .function
  co : sc.isCoroutine = false
  gen : sc.isGenerator = false
  nd : N.Nodup
  pre : N.take P.length = P
  par : ∀ x ∈ P, sc.names.lookup x = some .local ∨ sc.names.lookup x = some .cell
  nofree : ∀ y ∈ sc.names, y.2 ≠ .free

theorem bindL_out {kindOf : Str → Option NameKind} {x : Str} : ∀ {binds : List (Str × Value)} {m : Str → Option Value}, (∀ v, (x, v) ∉ binds) → bindL kindOf binds m x = m x
  | [], _, _ => rfl
  | (n, v) :: r, m, h => by
    unfold bindL
    rw [bindL_out fun w hw => h w (List.mem_cons_of_mem _ hw)]
    split
    · have : x ≠ n := by rintro rfl; exact h v List.mem_cons_self
      simp [this]
    · rfl
theorem bindC_out {kindOf : Str → Option NameKind} {x : Str} : ∀ {binds : List (Str × Value)} {m : Str → Option Value}, (∀ v, (x, v) ∉ binds) → bindC kindOf binds m x = m x
  | [], _, _ => rfl
  | (n, v) :: r, m, h => by
    unfold bindC
    rw [bindC_out fun w hw => h w (List.mem_cons_of_mem _ hw)]
    split
    · rfl
    · have : x ≠ n := by rintro rfl; exact h v List.mem_cons_self
      simp [this]
theorem bindL_get {kindOf : Str → Option NameKind} {x : Str} {v : Value} : ∀ {P : List Str} {vs : List Value} {i : Nat} {m : Str → Option Value}, P.Nodup → P[i]? = some x → vs[i]? = some v → kindOf x = some .local →
    bindL kindOf (P.zip vs) m x = some v
  | [], _, _, _, _, h, _, _ => by simp at h
  | _ :: _, [], _, _, _, _, h, _ => by simp at h
  | p :: P, w :: vs, 0, m, nd, h1, h2, hk => by
    simp at h1 h2; subst h1; subst h2
    show bindL kindOf ((p, w) :: P.zip vs) m p = _
    unfold bindL
    rw [bindL_out fun v hv => (List.nodup_cons.mp nd).1 (List.of_mem_zip hv).1, if_pos hk]
    simp
  | p :: P, w :: vs, i + 1, m, nd, h1, h2, hk => by
    show bindL kindOf ((p, w) :: P.zip vs) m x = _
    unfold bindL
    exact bindL_get (i := i) (List.nodup_cons.mp nd).2 (by simpa using h1) (by simpa using h2) hk
theorem bindC_get {kindOf : Str → Option NameKind} {x : Str} {v : Value} : ∀ {P : List Str} {vs : List Value} {i : Nat} {m : Str → Option Value}, P.Nodup → P[i]? = some x → vs[i]? = some v → kindOf x ≠ some .local →
    bindC kindOf (P.zip vs) m x = some v
  | [], _, _, _, _, h, _, _ => by simp at h
  | _ :: _, [], _, _, _, _, h, _ => by simp at h
  | p :: P, w :: vs, 0, m, nd, h1, h2, hk => by
    simp at h1 h2; subst h1; subst h2
    show bindC kindOf ((p, w) :: P.zip vs) m p = _
    unfold bindC
    rw [bindC_out fun v hv => (List.nodup_cons.mp nd).1 (List.of_mem_zip hv).1, if_neg hk]
    simp
  | p :: P, w :: vs, i + 1, m, nd, h1, h2, hk => by
    show bindC kindOf ((p, w) :: P.zip vs) m x = _
    unfold bindC
    exact bindC_get (i := i) (List.nodup_cons.mp nd).2 (by simpa using h1) (by simpa using h2) hk

/-- the names' values at the entry -/
def start (N : List Str) (vs : List V) : St := vs.map some ++ List.replicate (N.length - vs.length) none

/-- the context of a def's body, at its entry; an exception leaves the frame, then lies as CX says -/
def cxOf (CX : CXT) (P : Program) (w : World) (K : PySem.W.Frag) (mg : Str → Option Value) (base : Heap) (N : List Str) (qual : Str) (scope : Scope) (f : Addr) (cd : Value) (A : Around) (outer : List Env) (s : Shared) (H : Hp) (E : XK) : Cx where
  prog := P
  w := w
  K := K
  mg := mg
  base := base
  A := A.deeper (envOfC qual scope s.heap.objs.size f cd)
  N := N
  s₀ := s
  H₀ := H
  env := envOfC qual scope s.heap.objs.size f cd
  outer := outer
  stack := envOfC qual scope s.heap.objs.size f cd :: outer
  ex := []
  calm := true
  fn := fun _ => true
  pn := []
  xe := fun e s' => wpAny (model P w) (A.deeper (envOfC qual scope s.heap.objs.size f cd)) (leaving (envOfC qual scope s.heap.objs.size f cd) e) (fun _ s'' => CX outer H s E e s'') (fun e' s'' => CX outer H s E e' s'') s'

theorem cell_has {sc : Scope} {n : Nat} {x : Str} (h : sc.names.lookup x = some .cell) : ∃ c, (cellsFrom n sc.names []).lookup x = some c := by
  have q := PySem.W.cellsFrom_some sc.names n [] (.inl h)
  exact Option.isSome_iff_exists.mp q

theorem inv_start {CX : CXT} {P : Program} {w : World} {K : PySem.W.Frag} {mg : Str → Option Value} {base : Heap} {N ps : List Str} {qual : Str} {scope : Scope} {f : Addr} {cd : Value} {A : Around} {outer : List Env} {s s1 : Shared} {H : Hp} {E : XK} {us : List Value} {vs : List V}
    (S : FnScope N ps scope) (hd : A.handled = none) (e0 : Env0 P w K mg base A outer s H) (hl : vs.length = ps.length) (r : Vals vs us)
    (x : InCallC s s.heap.objs.size (bindL (envOfC qual scope s.heap.objs.size f cd).kindOf (ps.zip us) fun _ => none) (cellsFrom (s.heap.objs.size + 1) scope.names []) (bindC (envOfC qual scope s.heap.objs.size f cd).kindOf (ps.zip us) fun _ => none) s1) :
    Inv (cxOf CX P w K mg base N qual scope f cd A outer s H E) [] (start N vs) H s1 := by
  have hpl : ps.length ≤ N.length := by have := congrArg List.length S.pre; rw [List.length_take] at this; omega
  obtain ⟨h1, tk, rfl, hk⟩ := x.done
  have noA : ∀ b : Addr, b ∉ (cxOf CX P w K mg base N qual scope f cd A outer s H E).ex := fun b z => absurd (show b ∈ ([] : List Addr) from z) (by simp)
  refine ⟨⟨e0.mod, S.kind, rfl, rfl, Nat.le_refl _, fun y z c h1 h2 => ?_, fun y hy => ?_, fun y c _ h => ?_, fun _ => hd, Around.frames_deeper e0.frames, .inr ⟨rfl, rfl⟩, fun b z => absurd z (noA b), e0.bs, e0.bsz, fun b _ _ => noA b, fun b z => absurd z (noA b), e0.funs, e0.frf⟩,
    rfl, e0.bare, Un.kept hk, ⟨_, x.toInCall.ns, fun i y v h1 h2 h3 => ?_⟩, fun y c h => ⟨_, x.cell y c h⟩, e0.hok.fresh (Nat.le_refl _), fun y c h => ?_, fun p hp => absurd (show p ∈ ([] : List (Addr × Obj)) from hp) (by simp), e0.hok.kept hk, ?_⟩
  · exact name_of_addr x.apart (PySem.mem_of_lookup h1) (PySem.mem_of_lookup h2)
  · have hy : scope.names.lookup y = some .cell ∨ scope.names.lookup y = some .free := hy
    rcases hy with hy | hy
    · exact cell_has hy
    · exact absurd rfl (S.nofree _ (PySem.mem_of_lookup hy))
  · exact Nat.le_of_lt (x.above y c (PySem.mem_of_lookup h))
  · have hi : i < vs.length := by
      unfold start at h2
      by_cases hi : i < vs.length
      · exact hi
      · rw [List.getElem?_append_right (by simpa using hi)] at h2
        rw [List.getElem?_replicate] at h2
        split at h2 <;> cases h2
    have ha : vs[i]? = some v := by
      unfold start at h2
      rw [List.getElem?_append_left (by simpa using hi), List.getElem?_map] at h2
      cases e : vs[i]? with
      | none => rw [e] at h2; cases h2
      | some a => rw [e] at h2; cases h2; rfl
    obtain ⟨u, hu, rv⟩ := r.get ha
    have hp : ps[i]? = some y := by
      rw [← S.pre, List.getElem?_take_of_lt (by omega)]; exact h1
    have ndP : ps.Nodup := by rw [← S.pre]; exact S.nd.sublist (List.take_sublist _ _)
    refine ⟨u, rv, ?_⟩
    rcases S.par y (List.mem_of_getElem? hp) with k | k
    · exact .inl ⟨k, bindL_get ndP hp hu k⟩
    · obtain ⟨c, e⟩ := cell_has (n := s.heap.objs.size + 1) k
      refine .inr ⟨.inl k, c, e, ?_⟩
      have q := x.cell y c e
      rw [bindC_get ndP hp hu (by show scope.names.lookup y ≠ _; rw [k]; decide)] at q
      exact q
  · exact e0.hok.fresh (Nat.le_of_lt (x.above y c (PySem.mem_of_lookup h)))
  · unfold start
    show _ = N.length
    rw [List.length_append, List.length_map, List.length_replicate]
    omega

/-- THE RULE: a def (or a method) of the text, by its body. The body's reading t is chosen for each entry; it is run at the parameters' values -/
theorem fn_of {CX : CXT} {P : Program} {w : World} {K : PySem.W.Frag} {mg : Str → Option Value} {base : Heap} {k : Nat} {f : Addr} {name qual : Str} {params : Arguments} {body : List Stmt} {scope : Scope} {dV kV doc pm cdv ct oc : Value} {an od : Option Addr}
    {osl : Array (Option Value)} {N ps : List Str} {sp : Sp} (lk : K.lookup f = some ⟨oc, od, .func (PySem.W.fnOf name qual params body scope dV kV doc pm an cdv ct), osl⟩) (hcd : PySem.W.codeIn K cdv qual = true) (S : FnScope N ps scope)
    (len : ∀ vs H Q E, sp vs H Q E → vs.length = ps.length)
    (hbody : ∀ (A : Around) (outer : List Env) (s : Shared) (H : Hp) (vs : List V) (Q : VK) (E : XK), Room k (A.deeper (envOfC qual scope s.heap.objs.size f cdv)) → sp vs H Q E →
      ∃ t, PSs (cxOf CX P w K mg base N qual scope f cdv A outer s H E) body t ∧ t { nx := fun _ H' => Q .non H', rt := Q } (start N vs) H) :
    FnOk P w K mg base CX (k + 1) f (PySem.W.fnOf name qual params body scope dV kV doc pm an cdv ct) ps sp := by
  refine ⟨len, fun A outer s H args us vs Q E hr e0 hb r hsp => ?_⟩
  have hl := len _ _ _ _ hsp
  have KX : K.In s.heap := e0.mod.kin.keeps fun b o e => (e0.bs b o e).1
  have lim : s.heap.NoLimit := e0.mod.nolimit.keeps fun b o e => (e0.bs b o e).1
  have hkind : ∀ y ∈ ps.zip us, scope.names.lookup y.1 = some .local ∨ (scope.names.lookup y.1 = some .cell ∧ ((cellsFrom (s.heap.objs.size + 1) scope.names []).lookup y.1).isSome = true) := fun ⟨n, v⟩ hy => by
    rcases S.par n (List.of_mem_zip hy).1 with q | q
    · exact .inl q
    · exact .inr ⟨q, PySem.W.cellsFrom_some _ _ _ (.inl q)⟩
  refine codeAny_call_function hr.depth (KX _ _ lk) rfl S.co S.gen rfl (PySem.W.codeRec_of KX hcd) (hb _ _ _ _ ?_)
  refine wpAny_newFunctionEnv_cells S.kind hkind fun env he s1 x => ?_
  subst he
  refine ⟨lim.keeps x.toInCall.keep, codeAny_func ?_⟩
  obtain ⟨t, ht, hq⟩ := hbody A outer s H vs Q E (hr.deeper _) hsp
  have I : Inv (cxOf CX P w K mg base N qual scope f cdv A outer s H E) [] (start N vs) H s1 := inv_start S hr.hd e0 hl r x
  refine wpAny_mono (ht [] s1 (start N vs) H _ I hq) (fun fl s' hs => ?_) fun e s' hs => hs
  have fin : ∀ {σ' : St} {H' : Hp} {v : V} {u : Value}, Inv (cxOf CX P w K mg base N qual scope f cdv A outer s H E) [] σ' H' s' → RelV v u → Q v H' → CE outer P w H s Q u s' :=
    fun {σ' H' v u} J rv q => ⟨v, H', J.os, J.bare, J.base, J.hok, rv, q⟩
  cases fl with
  | ret u =>
    obtain ⟨v, σ', H', J, rv, q⟩ := hs
    exact fin J rv q
  | next =>
    obtain ⟨σ', H', J, q⟩ := hs
    exact fin (v := V.non) (u := Value.none) J rfl q
  | brk =>
    obtain ⟨_, _, _, q⟩ := hs
    exact False.elim q
  | cont =>
    obtain ⟨_, _, _, q⟩ := hs
    exact False.elim q
end L2

namespace L2
open PySem PySem.Spec PyProof.Rows
section
variable {X : Cx} {x : Str} {p pos : Pos} {e : Expr} {es : List Expr} {t : TA} {id T : String} {r : List V → Hp → VK → Prop}

def tCB (r : List V → Hp → VK → Prop) (t : TA) : TE := fun σ H Q => t σ H fun vs H1 => r vs H1 Q
/-- f(e, ..), f a built-in function -/
theorem pe_callB (hc : CallR X (.builtin id) r) (hg : Gl X x) (hm : X.mg x = none) (hv : bootBuiltins x = some (.builtin id)) (ha : PA X (e :: es) t) (hn : x ≠ "__name__" := by decide) (hdb : (x == ("__debug__" : Str)) = false := by decide)
    (he : starEach (e :: es) X.env = (false, eval e X.env) :: starEach es X.env := by rfl) (hpl : (backTo pos (starEach es X.env)).any (·.1) = false := by rfl) : PE X (.Call (.Name x p) (e :: es) [] pos) (tCB r t) := by
  intro pins s σ H Q I h
  refine wpAny_Call_Name_kw (ld_blt I hg hm hv ?_ hn hdb)
  exact PyProof.Rows.callWith_builtin1 (thn (ha pos pins s σ H _ I h) fun us s1 ⟨vs, H1, I1, r1, q1⟩ => hc pins s1 σ H1 vs us Q I1 r1 q1) he hpl
/-- T(e, ..), T a built-in type -/
theorem pe_callTy (hc : CallR X (.type T) r) (hg : Gl X x) (hm : X.mg x = none) (hv : bootBuiltins x = some (.type T)) (ha : PA X (e :: es) t) (hn : x ≠ "__name__" := by decide) (hdb : (x == ("__debug__" : Str)) = false := by decide)
    (he : starEach (e :: es) X.env = (false, eval e X.env) :: starEach es X.env := by rfl) (hpl : (backTo pos (starEach es X.env)).any (·.1) = false := by rfl) : PE X (.Call (.Name x p) (e :: es) [] pos) (tCB r t) := by
  intro pins s σ H Q I h
  refine wpAny_Call_Name_kw (ld_blt I hg hm hv ?_ hn hdb)
  exact PyProof.Rows.callWith_type1 (thn (ha pos pins s σ H _ I h) fun us s1 ⟨vs, H1, I1, r1, q1⟩ => hc pins s1 σ H1 vs us Q I1 r1 q1) he hpl
end
end L2

namespace HT
open PySem PyProof.Rows

/-- t < u of tuples of ints -/
def lexLt : List Int → List Int → Bool
  | [], [] => false
  | [], _ :: _ => true
  | _ :: _, [] => false
  | x :: xs, y :: ys => if x = y then lexLt xs ys else decide (x < y)


section
open PySem.SeqAt
open PySem.AutoSeq1 (wpAny_loadPart')
open PySem.MeetsSeq PySem.MeetsSeq2 PySem.MeetsSeq3

end

section
variable {prog : Program} {w : World} {A : Around} {E : Value → Shared → Prop} {s : Shared}


/-- t + u, t not empty -/
theorem cat_tup {t b : Addr} {vs ws : List Value} {Q : Value → Shared → Prop} (ht : IsTup s.heap t vs.toArray) (hb : IsTup s.heap b ws.toArray) (hv : vs ≠ [])
    (h1 : ws = [] → Q (.ref t) s) (h2 : ws ≠ [] → Q (.ref s.heap.objs.size) { s with heap := s.heap.push { cls := .type "tuple", data := .seq (vs ++ ws).toArray } })
    (hsz : vs.length + ws.length ≤ sizeLine) : wpAny (model prog w) A (binaryOp .Add (.ref t) (.ref b)) Q E s := by
  obtain ⟨⟨cls, dd, data, sl⟩, ho, hc, n, hd⟩ := id ht
  obtain ⟨⟨cls2, dd2, data2, sl2⟩, ho2, hc2, n2, hd2⟩ := id hb
  simp only at hc hd hc2 hd2
  subst hc hd hc2 hd2
  have e : vs.toArray ++ ws.toArray = (vs ++ ws).toArray := by simp
  by_cases hw : ws = []
  · exact concat_meets ⟨_, ho, rfl⟩ ⟨_, ho2, rfl⟩ noFill_tuple_add seq_tuple_add PySem.F.slot_tuple_add PySem.F.entry_tuple_add (PySem.F.args_tuple_add_2 _ _)
      (tuple_addW1 t b vs.toArray ws.toArray n n2 dd dd2 sl sl2 (by simpa using hv) (by simp [hw])) ⟨ho, ho2, h1 hw⟩
  · refine concat_meets ⟨_, ho, rfl⟩ ⟨_, ho2, rfl⟩ noFill_tuple_add seq_tuple_add PySem.F.slot_tuple_add PySem.F.entry_tuple_add (PySem.F.args_tuple_add_2 _ _)
      (tuple_addW2 t b vs.toArray ws.toArray n n2 dd dd2 sl sl2 (by simpa using hv) (by simpa using hw) (by rw [List.size_toArray, List.size_toArray]; exact hsz)) ⟨ho, ho2, ?_⟩
    rw [e]
    exact h2 hw

/-! ### t[a:b], not the whole -/
/-- a slice's bound as a place among n (d where it is left out) -/
def sIx (n d : Nat) : Option Int → Nat
  | none => d
  | some v => if v < 0 then (v + (n : Int)).toNat else min v.toNat n

end
end HT

namespace L2
open PySem PySem.Spec PyProof.Rows

/-! ### the parts of a slice -/
abbrev TO := St → Hp → (Option Int → Hp → Prop) → Prop
/-- a slice's part (left out, or an int) -/
def PO (X : Cx) (e : Option Expr) (t : TO) : Prop :=
  ∀ (pins : List (Addr × Obj)) (s : Shared) (σ : St) (H : Hp) (Q : Option Int → Hp → Prop), Inv X pins σ H s → t σ H Q →
    wpAny (model X.prog X.w) X.A (evalPart e X.env) (fun u s' => ∃ o H', Inv X pins σ H' s' ∧ IsPart u o ∧ Q o H') X.xe s
def tNoPart : TO := fun _ H Q => Q none H
def tPart (t : TE) : TO := fun σ H Q => t σ H fun x H1 => ∃ i, x = .int i ∧ Q (some i) H1


section
variable {X : Cx} {e : Expr} {te : TE} {lo hi : Option Expr} {tl th : TO} {pos p2 : Pos}

theorem po_none : PO X none tNoPart := by
  intro pins s σ H Q I h
  rw [evalPart_none]
  exact wpAny_pure ⟨none, H, I, .none, h⟩
theorem po_some (h : PE X e te) : PO X (some e) (tPart te) := by
  intro pins s σ H Q I hw
  rw [evalPart_some]
  refine thn (h pins s σ H _ I hw) fun u s1 ⟨x, H1, I1, r1, q1⟩ => ?_
  obtain ⟨i, rfl, q⟩ := q1
  obtain ⟨t, rfl⟩ := r1
  exact ⟨some i, H1, I1, .int i t, q⟩

/-- what a slice of a value is, by values: the slice object stands at sl -/
def SlR (X : Cx) (r : V → Option Int → Option Int → Hp → VK → Prop) : Prop :=
  ∀ (pins : List (Addr × Obj)) (s : Shared) (σ : St) (H : Hp) (x : V) (v vl vu : Value) (lo hi : Option Int) (sl : Addr) (Q : VK), Inv X pins σ H s → RelV x v → s.heap.IsSliceOf sl vl vu .none → IsPart vl lo → IsPart vu hi → r x lo hi H Q →
    ∃ T id, typeLookup (.type T) "__getitem__" = pure (some (.builtin id)) ∧ s.TypeIs v T ∧ wpAny (model X.prog X.w) X.A (getItem v (.ref sl)) (EP X pins σ Q) X.xe s
theorem SlR.or {r r' : V → Option Int → Option Int → Hp → VK → Prop} (h : SlR X r) (h' : SlR X r') : SlR X (fun x lo hi H Q => r x lo hi H Q ∨ r' x lo hi H Q) := by
  intro pins s σ H x v vl vu lo hi sl Q I rx hs pl pu q
  rcases q with q | q
  · exact h pins s σ H x v vl vu lo hi sl Q I rx hs pl pu q
  · exact h' pins s σ H x v vl vu lo hi sl Q I rx hs pl pu q
def tSl (r : V → Option Int → Option Int → Hp → VK → Prop) (te : TE) (tl th : TO) : TE := fun σ H Q => te σ H fun x H1 => tl σ H1 fun l H2 => th σ H2 fun u H3 => r x l u H3 Q
/-- a[lo:hi], any a -/
theorem pe_slice {r : V → Option Int → Option Int → Hp → VK → Prop} (hr : SlR X r) (he : PE X e te) (hl : PO X lo tl) (hu : PO X hi th) : PE X (.Subscript e (.Slice lo hi none p2) pos) (tSl r te tl th) := by
  intro pins s σ H Q I h
  refine Subscript_ (thn (he pins s σ H _ I h) fun v s1 ⟨x, H1, I1, r1, q1⟩ => ?_)
  refine wpAny_Slice (thn (hl pins s1 σ H1 _ I1 q1) fun vl s2 ⟨l, H2, I2, pl, q2⟩ => thn (hu pins s2 σ H2 _ I2 q2) fun vu s3 ⟨u, H3, I3, pu, q3⟩ => ?_)
  rw [evalPart_none]
  refine wpAny_pure ?_
  have I4 : Inv X pins σ H3 { s3 with heap := s3.heap.push { cls := .type "slice", data := .fields #[vl, vu, .none] } } := I3.kept (t' := s3.toks) fun b ob q => Heap.get?_push_of_some _ q
  obtain ⟨T, id, hT, ht, hg⟩ := hr pins { s3 with heap := s3.heap.push { cls := .type "slice", data := .fields #[vl, vu, .none] } } σ H3 x v vl vu l u s3.heap.objs.size Q I4 r1 (Heap.IsSliceOf.new ..) pl pu q3
  show wpAny (model X.prog X.w) X.A (subscriptTail e (.Slice lo hi none p2) v (.ref s3.heap.objs.size)) (EP X pins σ Q) X.xe { s3 with heap := s3.heap.push { cls := .type "slice", data := .fields #[vl, vu, .none] } }
  exact tail_any (ops := [.ref s3.heap.objs.size, v]) ht hT hg (by with_unfolding_all rfl)

/-- the items of xs[lo:hi] -/
def cutV (xs : List V) (lo hi : Option Int) : List V := (xs.drop (HT.sIx xs.length 0 lo)).take (HT.sIx xs.length xs.length hi - HT.sIx xs.length 0 lo)
/-- t[lo:hi], not the whole of it (the whole would be t itself) -/
def rSlT (K : PySem.W.Frag) : V → Option Int → Option Int → Hp → VK → Prop := fun x lo hi H Q => ∃ a xs, x = .ref a ∧ SqT K H a xs ∧
  ¬ (HT.sIx xs.length 0 lo = 0 ∧ HT.sIx xs.length xs.length hi = xs.length) ∧ ∀ p, H p = none → Q (.ref p) (upd H p (.tup (cutV xs lo hi)))

/-! ### t < u, t + u -/
def rLtT (K : PySem.W.Frag) : R2 := fun x y H Q => ∃ a b ns ms, x = .ref a ∧ y = .ref b ∧ SqT K H a (ns.map V.int) ∧ SqT K H b (ms.map V.int) ∧ Q (.bl (HT.lexLt ns ms)) H
/-- t + u, t not empty: u empty gives t itself -/
def rCatT (K : PySem.W.Frag) : R2 := fun x y H Q => ∃ a b xs ys, x = .ref a ∧ y = .ref b ∧ SqT K H a xs ∧ SqT K H b ys ∧ xs ≠ [] ∧ xs.length + ys.length ≤ sizeLine ∧
  (ys = [] → Q (.ref a) H) ∧ (ys ≠ [] → ∀ p, H p = none → Q (.ref p) (upd H p (.tup (xs ++ ys))))
theorem Vals.nil_iff {xs : List V} {us : List Value} (r : Vals xs us) : us = [] ↔ xs = [] := by
  cases r with
  | nil => simp
  | cons _ _ => simp
theorem op_catT : OpR X (binaryOp .Add) (rCatT X.K) := by
  intro pins s σ H x y v u Q I rx ry h
  obtain ⟨a, b, xs, ys, rfl, rfl, ha, hb, hx, hz, q1, q2⟩ := h
  cases rx
  cases ry
  obtain ⟨its, r1, p1, _⟩ := I.tuple ha
  obtain ⟨its2, r2, p2, _⟩ := I.tuple hb
  refine HT.cat_tup p1 p2 (fun z => hx (r1.nil_iff.mp z)) (fun z => ⟨.ref a, H, I, rfl, q1 (r2.nil_iff.mp z)⟩) (fun z => ?_) (by rw [← r1.length, ← r2.length]; exact hz)
  refine ⟨.ref s.heap.objs.size, _, I.laid (t' := s.toks) (o := .tup (xs ++ ys)) (fun b ob q => Heap.get?_push_of_some _ q) (Nat.le_refl _) ?_, rfl, q2 (fun w => z (r2.nil_iff.mpr w)) _ (I.hok.fresh (Nat.le_refl _))⟩
  exact ⟨by rw [List.length_append]; exact hz, _, r1.append r2, TupN.new _ _⟩
end
end L2

namespace L2
open PySem PySem.Spec PyProof.Rows

/-! ### places -/
/-- the place that an index of any sign means -/
def ixN (n : Nat) (i : Int) : Option Nat := if 0 ≤ i then (if i < n then some i.toNat else none) else if -(n : Int) ≤ i then some (i + n).toNat else none
def atI {α : Type} (xs : List α) (i : Int) : Option α := (ixN xs.length i).bind fun j => xs[j]?
theorem ixN_seq {n : Nat} {i : Int} {j : Nat} (h : ixN n i = some j) : seqIndex? i n = some j ∧ j < n ∧ -(n : Int) ≤ i ∧ i < n := by
  unfold ixN at h
  by_cases h0 : 0 ≤ i
  · rw [if_pos h0] at h
    by_cases h1 : i < n
    · rw [if_pos h1] at h
      have e : i.toNat = j := Option.some.inj h
      exact ⟨by rw [seqIndex_of h0 h1, e], by omega, by omega, h1⟩
    · rw [if_neg h1] at h; cases h
  · rw [if_neg h0] at h
    by_cases h1 : -(n : Int) ≤ i
    · rw [if_pos h1] at h
      have e : (i + n).toNat = j := Option.some.inj h
      exact ⟨by rw [seqIndex_neg (by omega) h1, e], by omega, h1, by omega⟩
    · rw [if_neg h1] at h; cases h
theorem atI_get {α : Type} {xs : List α} {i : Int} {v : α} (h : atI xs i = some v) : ∃ j, seqIndex? i xs.length = some j ∧ xs[j]? = some v ∧ j < xs.length ∧ -(xs.length : Int) ≤ i ∧ i < xs.length := by
  unfold atI at h
  cases e : ixN xs.length i with
  | none => rw [e] at h; cases h
  | some j =>
    rw [e] at h
    obtain ⟨h1, h2, h3, h4⟩ := ixN_seq e
    exact ⟨j, h1, h, h2, h3, h4⟩
theorem atI_nat {α : Type} {xs : List α} {j : Nat} {v : α} (h : xs[j]? = some v) : atI xs (j : Int) = some v := by
  have hj : j < xs.length := (List.getElem?_eq_some_iff.mp h).1
  have e : ixN xs.length (j : Int) = some j := by
    unfold ixN
    rw [if_pos (by omega), if_pos (by omega)]; simp
  unfold atI; rw [e]; exact h

/-! ### what may be subscripted -/
/-- what stands as an index of a plain subscript -/
def PlainIx (b : Expr) : Prop := ∀ o i, subscripted b false o i = operate [o, i] (getItem o i)
/-- a subscript by values -/
def IxR (X : Cx) (r : R2) : Prop :=
  ∀ (value slice : Expr) (pins : List (Addr × Obj)) (s : Shared) (σ : St) (H : Hp) (x y : V) (v u : Value) (Q : VK), Inv X pins σ H s → RelV x v → RelV y u → r x y H Q →
    subscripted slice false v u = operate [v, u] (getItem v u) → wpAny (model X.prog X.w) X.A (subscriptTail value slice v u) (EP X pins σ Q) X.xe s
/-- a call of a builtin's method by values: the receiver, the arguments -/
def MtR (X : Cx) (id : String) (r : V → List V → Hp → VK → Prop) : Prop :=
  ∀ (pins : List (Addr × Obj)) (s : Shared) (σ : St) (H : Hp) (x : V) (xs : List V) (v : Value) (us : List Value) (Q : VK), Inv X pins σ H s → RelV x v → Vals xs us → r x xs H Q →
    wpAny (model X.prog X.w) X.A (call (.builtin id) (v :: us)) (EP X pins σ Q) X.xe s
section
variable {X : Cx} {a b : Expr} {ta tb : TE} {pos : Pos}
theorem IxR.or {r r' : R2} (h : IxR X r) (h' : IxR X r') : IxR X (fun x y H Q => r x y H Q ∨ r' x y H Q) := by
  intro value slice pins s σ H x y v u Q I rx ry q hs
  rcases q with q | q
  · exact h value slice pins s σ H x y v u Q I rx ry q hs
  · exact h' value slice pins s σ H x y v u Q I rx ry q hs
theorem MtR.or {id : String} {r r' : V → List V → Hp → VK → Prop} (h : MtR X id r) (h' : MtR X id r') : MtR X id (fun x xs H Q => r x xs H Q ∨ r' x xs H Q) := by
  intro pins s σ H x xs v us Q I rx rs q
  rcases q with q | q
  · exact h pins s σ H x xs v us Q I rx rs q
  · exact h' pins s σ H x xs v us Q I rx rs q
/-- a[b] -/
theorem pe_ix {r : R2} (hr : IxR X r) (ha : PE X a ta) (hb : PE X b tb) (hs : PlainIx b) : PE X (.Subscript a b pos) (tOp r ta tb) := by
  intro pins s σ H Q I h
  exact Subscript_ (binT ha hb I h fun v u s2 x y H2 I2 rx ry q => hr a b pins s2 σ H2 x y v u Q I2 rx ry q (hs _ _))

def rIxL (K : PySem.W.Frag) : R2 := fun x y H Q => ∃ p xs i v, x = .ref p ∧ y = .int i ∧ SqL K H p xs ∧ atI xs i = some v ∧ Q v H
def rIxT (K : PySem.W.Frag) : R2 := fun x y H Q => ∃ p xs i v, x = .ref p ∧ y = .int i ∧ SqT K H p xs ∧ atI xs i = some v ∧ Q v H
def rIxS : R2 := fun x y H Q => ∃ z i c, x = .str z ∧ y = .int i ∧ z.length ≤ sizeLine ∧ atI z.cps.toList i = some c ∧ Q (.str ⟨#[c]⟩) H
theorem ix_list : IxR X (rIxL X.K) := by
  intro value slice pins s σ H x y v u Q I rx ry h hs
  obtain ⟨p, xs, i, z, rfl, rfl, hq, he, q⟩ := h
  cases rx
  obtain ⟨t, rfl⟩ := ry
  obtain ⟨its, r, pl, hz⟩ := I.list hq
  obtain ⟨j, h1, h2, h3, h4, h5⟩ := atI_get he
  obtain ⟨w, ew, rw'⟩ := r.get h2
  have hl := r.length
  have hn := line63
  have fin : EP X pins σ Q w s := ⟨z, H, I, rw', q⟩
  by_cases h0 : 0 ≤ i
  · have hj : i.toNat = j := by
      rw [seqIndex_of h0 h5] at h1
      exact Option.some.inj h1
    exact item_listR pl.isList h0 (by omega) (by rw [hj]; simpa using ew) fin hs
  · have hj : (i + (its.toArray.size : Int)).toNat = j := by
      rw [seqIndex_neg (by omega) h4] at h1
      rw [List.size_toArray, ← hl]
      exact Option.some.inj h1
    exact subscriptTail_builtinR (x := w) pl.isList.typeIs slot_list_getitem.lookup
      (wpAny_getItem_list_neg (Q := fun r s' => r = w ∧ EP X pins σ Q r s') pl.isList (by omega) (by rw [List.size_toArray] <;> omega) (by omega) (by rw [hj]; simpa using ew) ⟨rfl, fin⟩) hs
theorem ix_tup : IxR X (rIxT X.K) := by
  intro value slice pins s σ H x y v u Q I rx ry h hs
  obtain ⟨p, xs, i, z, rfl, rfl, hq, he, q⟩ := h
  cases rx
  obtain ⟨t, rfl⟩ := ry
  obtain ⟨its, r, pl, hz⟩ := I.tuple hq
  obtain ⟨j, h1, h2, h3, h4, h5⟩ := atI_get he
  obtain ⟨w, ew, rw'⟩ := r.get h2
  have hl := r.length
  have hn := line63
  have fin : EP X pins σ Q w s := ⟨z, H, I, rw', q⟩
  exact subscriptTail_builtinR (x := w) pl.typeIs slot_tuple_getitem.lookup
    (getItem_tuple (j := j) (Q := fun r s' => r = w ∧ EP X pins σ Q r s') pl (by omega) (by omega) (by rw [List.size_toArray, ← hl]; exact h1) (by simpa using ew) ⟨rfl, fin⟩) hs
theorem ix_str : IxR X rIxS := by
  intro value slice pins s σ H x y v u Q I rx ry h hs
  obtain ⟨z, i, c, rfl, rfl, hz, he, q⟩ := h
  obtain ⟨t, rfl⟩ := rx
  obtain ⟨t', rfl⟩ := ry
  obtain ⟨j, h1, h2, h3, h4, h5⟩ := atI_get he
  have hl : z.cps.toList.length = z.length := by simp [Str.length]
  rw [hl] at h1 h4 h5
  have hn := line63
  exact tail_any (typeIs_str s z t) slot_str_getitem.lookup (getItem_str (c := c) (by
    have e1 : decide (i < -(2 ^ 63 : Int)) = false := decide_eq_false (by omega)
    have e2 : decide (i ≥ 2 ^ 63) = false := decide_eq_false (by omega)
    rw [e1, e2, Bool.or_false]) (by rw [h1]; simpa using h2) ⟨.str ⟨#[c]⟩, H, I.tok _, ⟨_, rfl⟩, q⟩) hs
/-- list, tuple or str -/
def rIx (K : PySem.W.Frag) : R2 := fun x y H Q => rIxL K x y H Q ∨ rIxT K x y H Q ∨ rIxS x y H Q

/-! ### xs[i] = v, any sign -/
/-- the list's object behind a store -/
theorem mapSeq_set (its : List Value) (n j : Nat) (u : Value) : Obj.mapSeq (·.setIfInBounds j u) { cls := .type "list", data := .seq its.toArray n } = { cls := .type "list", data := .seq (its.set j u).toArray n } := by
  simp [Obj.mapSeq]
theorem Inv.lst {pins : List (Addr × Obj)} {σ : St} {H : Hp} {s : Shared} {p : Addr} {xs : List V} (I : Inv X pins σ H s) (h : H p = some (.lst xs)) :
    ∃ (its : List Value) (n : Nat), Vals xs its ∧ s.heap.get? p = some { cls := .type "list", data := .seq its.toArray n } ∧ xs.length ≤ sizeLine := by
  obtain ⟨z, its, n, r, e⟩ := I.hok p _ h
  exact ⟨its, n, r, e, z⟩
/-- the list at p is written by an update of its object -/
theorem Inv.lstUpd {pins : List (Addr × Obj)} {σ : St} {H : Hp} {s : Shared} {p : Addr} {xs ys : List V} {its its' : List Value} {n n' : Nat} {f : Obj → Obj} (I : Inv X pins σ H s) (h : H p = some (.lst xs))
    (ho : s.heap.get? p = some { cls := .type "list", data := .seq its.toArray n }) (hf : f { cls := .type "list", data := .seq its.toArray n } = { cls := .type "list", data := .seq its'.toArray n' }) (r : Vals ys its') (hz : ys.length ≤ sizeLine) (t : Nat) :
    Inv X pins σ (upd H p (.lst ys)) { s with heap := s.heap.update p f, toks := t } := by
  have e : (s.heap.update p f).get? p = some { cls := .type "list", data := .seq its'.toArray n' } := by
    rw [Heap.get?_update_self f ho (by rw [hf] <;> rfl), hf]
  refine I.write (x := p) (e := p) (by rw [h]; trivial) (.inl rfl) (fun b u hb q => (Heap.get?_update_other _ _ (Ne.symm hb)).trans q) ⟨_, e⟩ ?_
  exact ⟨hz, its', n', r, e⟩
def rSetL : V → V → V → Hp → (Hp → Prop) → Prop := fun o i v H Q => ∃ p xs k j, o = .ref p ∧ i = .int k ∧ H p = some (.lst xs) ∧ ixN xs.length k = some j ∧ Q (upd H p (.lst (xs.set j v)))
theorem set_list : PSet X rSetL := by
  intro pins s σ H o i v ov iv u Q I ro ri rv h
  obtain ⟨p, xs, k, j, rfl, rfl, hp, hj, q⟩ := h
  cases ro
  obtain ⟨t, rfl⟩ := ri
  obtain ⟨its, n, r, ho, hz⟩ := I.lst hp
  obtain ⟨h1, h2, h3, h4⟩ := ixN_seq hj
  have hl := r.length
  have hn := line63
  have I' : Inv X pins σ (upd H p (.lst (xs.set j v))) { s with heap := s.heap.update p (Obj.mapSeq (·.setIfInBounds j u)) } :=
    I.lstUpd hp ho (mapSeq_set its n j u) (r.set rv j) (by rw [List.length_set]; exact hz) s.toks
  by_cases h0 : 0 ≤ k
  · have hk : k.toNat = j := by
      rw [seqIndex_of h0 h4] at h1
      exact Option.some.inj h1
    exact PySem.W.ki_setAt ho h0 (by omega) (by rw [List.size_toArray, ← hl]; exact h4) (by rw [hk]; exact ⟨_, I', q⟩)
  · have hk : (k + (its.toArray.size : Int)).toNat = j := by
      rw [seqIndex_neg (by omega) h3] at h1
      rw [List.size_toArray, ← hl]
      exact Option.some.inj h1
    exact PySem.W.ki_setBack ho (by omega) (by rw [List.size_toArray, ← hl]; exact h3) (by omega) (by rw [hk]; exact ⟨_, I', q⟩)

/-! ### slices -/
/-- xs[lo:hi] of a list: a new list -/
def rSlL (K : PySem.W.Frag) : V → Option Int → Option Int → Hp → VK → Prop := fun x lo hi H Q => ∃ a xs, x = .ref a ∧ SqL K H a xs ∧ ∀ p, H p = none → Q (.ref p) (upd H p (.lst (cutV xs lo hi)))

/-! ### in, not in: flat items -/
def flatV : V → Bool
  | .non => true
  | .bl _ => true
  | .int _ => true
  | .str _ => true
  | _ => false
/-- == of flat values -/
def eqV : V → V → Bool
  | .non, .non => true
  | .bl a, .bl b => a == b
  | .bl a, .int b => (if a then 1 else 0) == b
  | .int a, .bl b => a == (if b then 1 else 0)
  | .int a, .int b => a == b
  | .str a, .str b => a == b
  | _, _ => false
theorem eqAt_V {A : Around} {s : Shared} {y x : V} {u v : Value} (ry : RelV y u) (rx : RelV x v) (fy : flatV y = true) (fx : flatV x = true) : SeqAt.EqAt A s u v (eqV y x) := by
  cases y with
  | non =>
    cases ry
    cases x with
    | non => cases rx; exact SeqAt.EqAt.same _
    | bl b => cases rx; exact SeqAt.EqAt.none_bool b
    | int b => obtain ⟨t, rfl⟩ := rx; exact SeqAt.EqAt.none_int b t
    | str b => obtain ⟨t, rfl⟩ := rx; exact SeqAt.EqAt.none_str b t
    | _ => exact absurd (show false = true from fx) Bool.false_ne_true
  | bl a =>
    cases ry
    cases x with
    | non => cases rx; exact SeqAt.EqAt.bool_none a
    | bl b => cases rx; exact SeqAt.EqAt.bool_bool a b
    | int b => obtain ⟨t, rfl⟩ := rx; exact SeqAt.EqAt.bool_int a b t
    | str b => obtain ⟨t, rfl⟩ := rx; exact SeqAt.EqAt.bool_str a b t
    | _ => exact absurd (show false = true from fx) Bool.false_ne_true
  | int a =>
    obtain ⟨t', rfl⟩ := ry
    cases x with
    | non => cases rx; exact SeqAt.EqAt.int_none a t'
    | bl b => cases rx; exact SeqAt.EqAt.int_bool a t' b
    | int b => obtain ⟨t, rfl⟩ := rx; exact SeqAt.EqAt.int_int a t' b t
    | str b => obtain ⟨t, rfl⟩ := rx; exact SeqAt.EqAt.int_str a t' b t
    | _ => exact absurd (show false = true from fx) Bool.false_ne_true
  | str a =>
    obtain ⟨t', rfl⟩ := ry
    cases x with
    | non => cases rx; exact SeqAt.EqAt.str_none a t'
    | bl b => cases rx; exact SeqAt.EqAt.str_bool a t' b
    | int b => obtain ⟨t, rfl⟩ := rx; exact SeqAt.EqAt.str_int a t' b t
    | str b => obtain ⟨t, rfl⟩ := rx; exact SeqAt.EqAt.str_str a t' b t
    | _ => exact absurd (show false = true from fx) Bool.false_ne_true
  | _ => exact absurd (show false = true from fy) Bool.false_ne_true
/-- the items' answers, read off the values (a value's own answer does not lean on its token) -/
def eqU (x : V) (u : Value) : Bool := match u with
  | .none => eqV .non x
  | .bool b => eqV (.bl b) x
  | .int i _ => eqV (.int i) x
  | .str z _ => eqV (.str z) x
  | _ => false
theorem eqU_of {x y : V} {u : Value} (r : RelV y u) (f : flatV y = true) : eqU x u = eqV y x := by
  cases y with
  | non => cases r; rfl
  | bl b => cases r; rfl
  | int i => obtain ⟨t, rfl⟩ := r; rfl
  | str z => obtain ⟨t, rfl⟩ := r; rfl
  | _ => exact absurd (show false = true from f) Bool.false_ne_true
theorem any_eqU {x : V} : ∀ {xs : List V} {us : List Value}, Vals xs us → xs.all flatV = true → us.any (eqU x) = xs.any fun y => eqV y x
  | _, _, .nil, _ => rfl
  | y :: xs, u :: us, .cons r t, f => by
    rw [List.all_cons, Bool.and_eq_true] at f
    rw [List.any_cons, List.any_cons, eqU_of r f.1, any_eqU t f.2]
theorem mem_eqAt {A : Around} {s : Shared} {x : V} {v : Value} (rx : RelV x v) (fx : flatV x = true) : ∀ {xs : List V} {us : List Value}, Vals xs us → xs.all flatV = true → ∀ u ∈ us, SeqAt.EqAt A s u v (eqU x u)
  | _, _, .nil, _ => fun u hu => by cases hu
  | y :: xs, u :: us, .cons r t, f => fun u' hu => by
    rw [List.all_cons, Bool.and_eq_true] at f
    rcases List.mem_cons.mp hu with rfl | hu
    · rw [eqU_of r f.1]; exact eqAt_V r rx f.1 fx
    · exact mem_eqAt rx fx t f.2 u' hu
def inV (x : V) (xs : List V) : Bool := xs.any fun y => eqV y x
/-- x in a list or tuple of flat items -/
def rIn (K : PySem.W.Frag) (neg : Bool) : R2 := fun x y H Q => ∃ p xs, y = .ref p ∧ (SqL K H p xs ∨ SqT K H p xs) ∧ flatV x = true ∧ xs.all flatV = true ∧ Q (.bl (if neg then !inV x xs else inV x xs)) H
theorem op_in_seq : OpR X (compareOp .In) (rIn X.K false) := by
  intro pins s σ H x y v u Q I rx ry h
  obtain ⟨p, xs, rfl, hq, fx, fs, q⟩ := h
  cases ry
  rcases hq with hq | hq
  · obtain ⟨its, r, pl, hz⟩ := I.list hq
    refine SeqAt.in_listAt (eqU x) pl.isList (fun w hw => mem_eqAt rx fx r fs w (by simpa using hw)) ⟨.bl _, H, I, rfl, ?_⟩
    rw [show its.toArray.any (eqU x) = its.any (eqU x) by simp, any_eqU r fs]
    exact q
  · obtain ⟨its, r, pl, hz⟩ := I.tuple hq
    refine SeqAt.in_tupleAt (eqU x) pl (fun w hw => mem_eqAt rx fx r fs w (by simpa using hw)) ⟨.bl _, H, I, rfl, ?_⟩
    rw [show its.toArray.any (eqU x) = its.any (eqU x) by simp, any_eqU r fs]
    exact q
theorem op_notIn_seq : OpR X (compareOp .NotIn) (rIn X.K true) := by
  intro pins s σ H x y v u Q I rx ry h
  obtain ⟨p, xs, rfl, hq, fx, fs, q⟩ := h
  cases ry
  rcases hq with hq | hq
  · obtain ⟨its, r, pl, hz⟩ := I.list hq
    refine SeqAt.notIn_listAt (eqU x) pl.isList (fun w hw => mem_eqAt rx fx r fs w (by simpa using hw)) ⟨.bl _, H, I, rfl, ?_⟩
    rw [show its.toArray.any (eqU x) = its.any (eqU x) by simp, any_eqU r fs]
    exact q
  · obtain ⟨its, r, pl, hz⟩ := I.tuple hq
    refine SeqAt.notIn_tupleAt (eqU x) pl (fun w hw => mem_eqAt rx fx r fs w (by simpa using hw)) ⟨.bl _, H, I, rfl, ?_⟩
    rw [show its.toArray.any (eqU x) = its.any (eqU x) by simp, any_eqU r fs]
    exact q

/-! ### len, list(x), tuple(x) of any list or tuple that is read -/
theorem call_len_seq : CallR X (.builtin "len") (fun xs H Q => ∃ p ys, xs = [.ref p] ∧ (SqL X.K H p ys ∨ SqT X.K H p ys) ∧ Q (.int ys.length) H) := by
  intro pins s σ H xs us Q I r h
  obtain ⟨p, ys, rfl, hq, q⟩ := h
  obtain ⟨u, rfl, rx⟩ := vals1 r
  cases rx
  have hn := line63
  rcases hq with hq | hq
  · obtain ⟨its, r', pl, hz⟩ := I.list hq
    have hlen := r'.length
    exact Calls.call_len_list pl.isList (by simp only [List.size_toArray] <;> omega) ⟨.int ys.length, H, I.tok _, ⟨s.toks + 1, by rw [List.size_toArray, hlen]⟩, q⟩
  · obtain ⟨its, r', pl, hz⟩ := I.tuple hq
    have hlen := r'.length
    exact len_tuple pl (by simp only [List.size_toArray] <;> omega) ⟨.int ys.length, H, I.tok _, ⟨s.toks + 1, by rw [List.size_toArray, hlen]⟩, q⟩
theorem CallR.or {f : Value} {r r' : List V → Hp → VK → Prop} (h : CallR X f r) (h' : CallR X f r') : CallR X f (fun xs H Q => r xs H Q ∨ r' xs H Q) := by
  intro pins s σ H xs us Q I rs q
  rcases q with q | q
  · exact h pins s σ H xs us Q I rs q
  · exact h' pins s σ H xs us Q I rs q
theorem call_tuple_of : CallR X (.type "tuple") (fun xs H Q => ∃ p ys, xs = [.ref p] ∧ ((SqL X.K H p ys ∧ ∀ l, H l = none → Q (.ref l) (upd H l (.tup ys))) ∨ (SqT X.K H p ys ∧ Q (.ref p) H))) := by
  intro pins s σ H xs us Q I r h
  obtain ⟨p, ys, rfl, h⟩ := h
  obtain ⟨u, rfl, rx⟩ := vals1 r
  cases rx
  rcases h with ⟨hq, q⟩ | ⟨hq, q⟩
  · obtain ⟨its, r', pl, hz⟩ := I.list hq
    have hlen := r'.length
    refine call_tuple_list pl.isList (fun h' kp => ?_) (by simp only [List.size_toArray] <;> omega)
    have I1 : Inv X pins σ H { s with heap := h' } := I.kept (t' := s.toks) kp
    have I2 : Inv X pins σ (upd H h'.objs.size (.tup ys)) { s with heap := h'.push { cls := .type "tuple", data := .seq its.toArray } } :=
      I1.laid (t' := s.toks) (fun b o e => Heap.get?_push_of_some _ e) (Nat.le_refl _) (show ObjOk X.prog X.w _ _ _ (.tup ys) from ⟨hz, its, r', TupN.new _ _⟩)
    exact ⟨.ref h'.objs.size, _, I2, rfl, q _ (I1.hok.fresh (Nat.le_refl _))⟩
  · obtain ⟨its, r', pl, hz⟩ := I.tuple hq
    exact call_tuple_same pl ⟨.ref p, H, I, rfl, q⟩

/-! ### the call of a builtin's method: o.m(..) -/
/-- the value is of that builtin type -/
def tyV (K : PySem.W.Frag) (T : String) (x : V) (H : Hp) : Prop := match x with
  | .str _ => T = "str"
  | .int _ => T = "int"
  | .ref p => (T = "list" ∧ ∃ xs, SqL K H p xs) ∨ (T = "tuple" ∧ ∃ o, K.lookup p = some o ∧ o.cls = .type "tuple" ∧ o.dict = none) ∨
      (T = "dict" ∧ ((∃ kvs, H p = some (.dK kvs)) ∨ ∃ kvs, H p = some (.dT kvs))) ∨ (T = "set" ∧ ∃ S n, H p = some (.set S n))
  | _ => False
theorem tyV_is {pins : List (Addr × Obj)} {σ : St} {H : Hp} {s : Shared} {T : String} {x : V} {v : Value} (I : Inv X pins σ H s) (r : RelV x v) (ty : tyV X.K T x H) :
    s.TypeIs v T ∧ ∀ a, v = .ref a → ∃ ob, s.heap.get? a = some ob ∧ ob.dict = none := by
  cases x with
  | str z =>
    obtain ⟨t, rfl⟩ := r
    cases (show T = "str" from ty)
    exact ⟨typeIs_str s z t, fun _ e => nomatch e⟩
  | int i =>
    obtain ⟨t, rfl⟩ := r
    cases (show T = "int" from ty)
    exact ⟨typeIs_int s i t, fun _ e => nomatch e⟩
  | ref p =>
    cases r
    rcases ty with ⟨rfl, xs, hq⟩ | ⟨rfl, o, hk, hc, hd⟩ | ⟨rfl, hk⟩ | ⟨rfl, S, n, hk⟩
    · obtain ⟨its, _, pl, _⟩ := I.list hq
      refine ⟨pl.isList.typeIs, fun a e => ?_⟩
      cases e
      obtain ⟨o, n, e, c, hd, _⟩ := pl
      exact ⟨o, e, hd⟩
    · refine ⟨⟨o, I.kIn p o hk, hc⟩, fun a e => ?_⟩
      cases e
      exact ⟨o, I.kIn _ o hk, hd⟩
    · have z : ∃ o, s.heap.get? p = some o ∧ o.ExactDict := by
        rcases hk with ⟨kvs, hk⟩ | ⟨kvs, hk⟩
        · obtain ⟨_, _, _, _, o, _, _, e, ex, _⟩ := I.hok p _ hk
          exact ⟨o, e, ex⟩
        · obtain ⟨_, _, _, _, o, _, _, e, ex, _⟩ := I.hok p _ hk
          exact ⟨o, e, ex⟩
      obtain ⟨o, e, ex⟩ := z
      refine ⟨⟨o, e, ex.1⟩, fun a e2 => ?_⟩
      cases e2
      exact ⟨o, e, ex.2.1⟩
    · obtain ⟨o, _, _, _, e, ex, _⟩ := I.hok p _ hk
      refine ⟨⟨o, e, ex.1⟩, fun a e2 => ?_⟩
      cases e2
      exact ⟨o, e, ex.2.1⟩
  | _ => exact False.elim ty
def tBM0 (K : PySem.W.Frag) (T : String) (r : V → List V → Hp → VK → Prop) (to : TE) : TE := fun σ H Q => to σ H fun x H1 => tyV K T x H1 ∧ r x [] H1 Q
def tBM (K : PySem.W.Frag) (T : String) (r : V → List V → Hp → VK → Prop) (to : TE) (t : TA) : TE := fun σ H Q => to σ H fun x H1 => tyV K T x H1 ∧ t σ H1 fun xs H2 => r x xs H2 Q
variable {o e : Expr} {es : List Expr} {to : TE} {t : TA} {name : Str} {apos cpos : Pos} {T id : String} {r : V → List V → Hp → VK → Prop}
theorem pe_bm (pa : PlainAttrs T) (slot : Slot T name id) (hty : typeOf (.builtin id) = pure (.type "method_descriptor")) (hm : MtR X id r) (ho : PE X o to) (ha : PA X (e :: es) t)
    (hbase : attributeBase o name X.env (eval o X.env) = eval o X.env := by rfl)
    (hfew : ((backTo cpos (starEach (e :: es) X.env)).all (fun x => !x.1) && (backToKw cpos (keywordEach [] X.env)).all (fun x => x.1.isSome)
      && decide ((e :: es).length + ([] : List Keyword).length + (if ([] : List Keyword).isEmpty then 0 else 1) < 30)) = true := by rfl)
    (hline : (apos.endLine == cpos.line) = true := by rfl) (hs : starEach (e :: es) X.env = (false, eval e X.env) :: starEach es X.env := by rfl) (hplain : (backTo cpos (starEach es X.env)).any (·.1) = false := by rfl) :
    PE X (.Call (.Attribute o name apos) (e :: es) [] cpos) (tBM X.K T r to t) := by
  intro pins s σ H Q I h
  refine wpAny_Call_method_late hbase hfew hline rfl (thn (ho pins s σ H _ I h) fun v s1 ⟨x, H1, I1, r1, ty, q1⟩ => ?_)
  obtain ⟨h1, h2⟩ := tyV_is I1 r1 ty
  refine ⟨T, id, pa, slot, hty, h1, h2, ?_⟩
  have hA := ha cpos pins s1 σ H1 _ I1 q1
  rw [hs] at hA ⊢
  refine Calls.callWith_builtin (by show (false || (backTo cpos (starEach es X.env)).any (·.1)) = false; rw [hplain] <;> rfl) (Calls.evalArgs_plain ?_)
  exact thn hA fun us s2 ⟨vs, H2, I2, r2, q2⟩ => hm pins s2 σ H2 x vs v us Q I2 r1 r2 q2
/- xs.append(e), list.index on a module's tuple .. are MtR facts of 06m -/
end
end L2

namespace L2
open PySem PySem.Spec PyProof.Rows

def MtM (X : Cx) (id : String) (r : V → List V → Hp → VK → Prop) : Prop :=
  ∀ (pins : List (Addr × Obj)) (s : Shared) (σ : St) (H : Hp) (x : V) (xs : List V) (v : Value) (us : List Value) (Q : VK), Inv X pins σ H s → RelV x v → Vals xs us → r x xs H Q →
    wpAny (model X.prog X.w) X.A (call (.builtin id) (v :: us)) (EP X pins σ Q) X.xe s

/-! ### lists of values -/
theorem Vals.one : ∀ {x : V} {us : List Value}, Vals [x] us → ∃ u, us = [u] ∧ RelV x u
  | _, _, .cons r .nil => ⟨_, rfl, r⟩
theorem Vals.two : ∀ {x y : V} {us : List Value}, Vals [x, y] us → ∃ u v, us = [u, v] ∧ RelV x u ∧ RelV y v
  | _, _, _, .cons r (.cons q .nil) => ⟨_, _, rfl, r, q⟩
theorem Vals.zero : ∀ {us : List Value}, Vals [] us → us = []
  | _, .nil => rfl
theorem Vals.dropLast {xs : List V} {us : List Value} (h : Vals xs us) : Vals xs.dropLast us.dropLast := by
  induction h with
  | nil => exact .nil
  | cons r t ih =>
    cases t with
    | nil => exact .nil
    | cons q t' => exact .cons r ih
theorem Vals.eraseIdx : ∀ {xs : List V} {us : List Value} (i : Nat), Vals xs us → Vals (xs.eraseIdx i) (us.eraseIdx i)
  | _, _, _, .nil => .nil
  | _, _, 0, .cons _ t => t
  | _, _, i + 1, .cons r t => .cons r (Vals.eraseIdx i t)
theorem Vals.reverse {xs : List V} {us : List Value} (h : Vals xs us) : Vals xs.reverse us.reverse := by
  induction h with
  | nil => exact .nil
  | cons r t ih => rw [List.reverse_cons, List.reverse_cons]; exact Vals.append ih (.cons r .nil)

section
variable {X : Cx} {pins : List (Addr × Obj)} {σ : St} {H : Hp} {s : Shared} {l b : Addr} {xs ys zs : List V}

/-! ### the two steps: a tracked list is rewritten, a new list is laid -/
theorem Inv.lset {its its' : List Value} {n : Nat} {f : Array Value → Array Value} {t' : Nat} (I : Inv X pins σ H s) (hH : H l = some (.lst xs))
    (e : s.heap.get? l = some { cls := .type "list", data := .seq its.toArray n }) (hf : f its.toArray = its'.toArray) (hv : Vals ys its') (hz : ys.length ≤ sizeLine) :
    Inv X pins σ (upd H l (.lst ys)) { s with heap := s.heap.update l (Obj.mapSeq f), toks := t' } := by
  have q := PySem.IsL.update e f
  rw [hf] at q
  refine I.write (x := l) (e := l) (by rw [hH]; exact trivial) (.inl rfl) (fun b' u hb hu => (Heap.get?_update_other s.heap (Obj.mapSeq f) (Ne.symm hb)).trans hu) ⟨_, q⟩ ?_
  exact ⟨hz, its', _, hv, q⟩
theorem Inv.lnew {its : List Value} {t' : Nat} (I : Inv X pins σ H s) (hv : Vals ys its) (hz : ys.length ≤ sizeLine) :
    Inv X pins σ (upd H s.heap.objs.size (.lst ys)) { s with heap := s.heap.push { cls := .type "list", data := .seq its.toArray }, toks := t' } :=
  I.laid (fun _ _ q => Heap.get?_push_of_some _ q) (Nat.le_refl _) ⟨hz, its, 0, hv, Heap.get?_push_size _ rfl⟩
theorem Inv.fresh (I : Inv X pins σ H s) : H s.heap.objs.size = none := I.hok.fresh (Nat.le_refl _)
theorem Inv.lstM (I : Inv X pins σ H s) (hH : H l = some (.lst xs)) : xs.length ≤ sizeLine ∧ ∃ (its : List Value) (n : Nat), Vals xs its ∧ xs.length = its.length ∧ s.heap.get? l = some { cls := .type "list", data := .seq its.toArray n } := by
  obtain ⟨z, its, n, r, e⟩ := I.hok l _ hH
  exact ⟨z, its, n, r, r.length, e⟩

end

section
variable {X : Cx}

/-! ### methods -/
def rAppend : V → List V → Hp → VK → Prop := fun x vs H Q => ∃ l xs y, x = .ref l ∧ vs = [y] ∧ H l = some (.lst xs) ∧ xs.length < sizeLine ∧ Q .non (upd H l (.lst (xs ++ [y])))
theorem mt_append : MtM X "list.append" rAppend := by
  intro pins s σ H x vs v us Q I rx rv h
  obtain ⟨l, xs, y, rfl, rfl, hH, hz, q⟩ := h
  cases rx
  obtain ⟨u, rfl, ru⟩ := rv.one
  obtain ⟨z, its, n, r, hl, e⟩ := I.lstM hH
  refine call_meets F.slot_list_append ⟨_, e, rfl⟩ F.entry_list_append (F.args_list_append_2 _ _) (PySem.list_append l its.toArray n u (by rw [List.size_toArray]; omega)) ⟨e, ?_⟩
  refine ⟨.non, _, I.lset (its' := its ++ [u]) hH e (by simp) (r.append (.cons ru .nil)) ?_, rfl, q⟩
  rw [List.length_append, List.length_singleton]
  omega

def rExtend : V → List V → Hp → VK → Prop := fun x vs H Q => ∃ l b xs zs, x = .ref l ∧ vs = [.ref b] ∧ H l = some (.lst xs) ∧ H b = some (.lst zs) ∧ xs.length + zs.length ≤ sizeLine ∧ Q .non (upd H l (.lst (xs ++ zs)))

def rPop : V → List V → Hp → VK → Prop := fun x vs H Q => ∃ l xs y, x = .ref l ∧ vs = [] ∧ H l = some (.lst xs) ∧ xs[xs.length - 1]? = some y ∧ Q y (upd H l (.lst xs.dropLast))

def rPopAt : V → List V → Hp → VK → Prop := fun x vs H Q => ∃ l xs i k y, x = .ref l ∧ vs = [.int i] ∧ H l = some (.lst xs) ∧ -(2 ^ 63) ≤ i ∧ i < 2 ^ 63 ∧ seqIndex? i xs.length = some k ∧ xs[k]? = some y ∧ Q y (upd H l (.lst (xs.eraseIdx k)))

def rReverse : V → List V → Hp → VK → Prop := fun x vs H Q => ∃ l xs, x = .ref l ∧ vs = [] ∧ H l = some (.lst xs) ∧ Q .non (upd H l (.lst xs.reverse))

def rClear : V → List V → Hp → VK → Prop := fun x vs H Q => ∃ l xs, x = .ref l ∧ vs = [] ∧ H l = some (.lst xs) ∧ Q .non (upd H l (.lst []))

/-! ### list + list, list += list, list * int -/
def rCat : R2 := fun x y H Q => ∃ l b xs zs, x = .ref l ∧ y = .ref b ∧ H l = some (.lst xs) ∧ H b = some (.lst zs) ∧ xs.length + zs.length ≤ sizeLine ∧ ∀ p, H p = none → Q (.ref p) (upd H p (.lst (xs ++ zs)))
theorem op_cat : OpR X (binaryOp .Add) rCat := by
  intro pins s σ H x y v u Q I rx ry h
  obtain ⟨l, b, xs, zs, rfl, rfl, hH, hB, hz, q⟩ := h
  cases rx
  cases ry
  obtain ⟨z, its, n, r, hl, e⟩ := I.lstM hH
  obtain ⟨z2, its2, n2, r2, hl2, e2⟩ := I.lstM hB
  refine PySem.P.add_list e e2 ?_ (by rw [List.size_toArray, List.size_toArray]; omega)
  have ea : its.toArray ++ its2.toArray = (its ++ its2).toArray := by simp
  rw [ea]
  exact ⟨.ref _, _, I.lnew (t' := s.toks) (r.append r2) (by rw [List.length_append]; omega), rfl, q _ I.fresh⟩
/-- a list times an int (a negative one is nothing) -/
def rRep : R2 := fun x y H Q => ∃ l k xs, x = .ref l ∧ y = .int k ∧ H l = some (.lst xs) ∧ -(2 ^ 63) ≤ k ∧ k < 2 ^ 63 ∧ xs.length * k.toNat ≤ sizeLine ∧
  ∀ p, H p = none → Q (.ref p) (upd H p (.lst (List.replicate k.toNat xs).flatten))

/-! ### del xs[i] -/
end

/-! ### xs[a:b] = ys -/
section
variable {prog : Program} {w : World} {A : Around} {E : Value → Shared → Prop} {s : Shared}
end

section
variable {X : Cx}
end
end L2

namespace Att
open PySem PySem.W PySem.Calls PyProof.Rows

/-! ### the script -/
theorem ints_of_wellAll {P : Params} {h : Heap} : ∀ (ns : List Int) (vs : List Value), WellAll P h vs (ns.map WData.int) → IntsAre vs ns := by
  intro ns
  induction ns with
  | nil =>
    intro vs w
    rw [List.map_nil] at w
    cases w
    exact .nil
  | cons n ns ih =>
    intro vs w
    rw [List.map_cons] at w
    cases w with
    | cons a b =>
      cases a
      exact .cons _ _ (ih _ b)

theorem script_of {l : OpenLaw} {n : Nat} (hn : l.most = some n) {P : Params} {h : Heap} {args : List WData} {vals : List Value}
    (hpre : l.row.toRowW.claim.pre args = true) (hwl : WellAll P h vals args) :
    ∃ a vs ns, vals = [Value.ref a] ∧ args = [WData.list (ns.map WData.int)] ∧ h.get? a = some { cls := .type "list", data := .seq vs.toArray } ∧ IntsAre vs ns ∧ ns.length ≤ n := by
  have hsh : WShape.hasAll [] args [.list .int] = true := (pre_splitW hpre).1
  have hc : l.pre.holds [] { args := args } = true := (pre_splitW hpre).2
  obtain ⟨d, r, rfl, h1, h2⟩ := hasAllW_cons hsh
  obtain rfl := hasAllW_nil h2
  obtain ⟨xs, rfl, h3⟩ := hasW_list h1
  obtain ⟨ns, rfl⟩ := items_int h3
  have hlen : ns.length ≤ n := by
    unfold OpenLaw.pre at hc
    have h4 : (WTm.not (.lt (.lit (.int (n : Int))) (.len (.arg 0)))).holds [] { args := [.list (ns.map .int)] } = true := by
      have h4 := (holds_andW hc).1
      rw [hn] at h4
      exact h4
    have h5 := condW_of h4 (w_not (w_lt w_lit (w_len_list (w_arg rfl))))
    rw [List.length_map] at h5
    refine Nat.le_of_not_lt fun q => ?_
    have q' : (n : Int) < ((ns.length : Nat) : Int) := by omega
    first
      | (rw [decide_eq_true q'] at h5; exact absurd h5 (by decide))
      | (simp at h5; omega)
  cases hwl with
  | cons w1 w2 =>
    cases w2
    cases w1 with
    | list ho hall => exact ⟨_, _, ns, rfl, rfl, ho, ints_of_wellAll ns _ hall, hlen⟩

theorem post_true (l : OpenLaw) (args : List WData) : l.row.toRowW.claim.post args (.bool true) args = true :=
  postW_of (r := l.row.toRowW) (X := (true == true))
    (show WShape.has [] (.bool true) .bool = true by first | rfl | decide | simp [WShape.has, WShape.arms, WShape.armsAll])
    (show (WTm.eq .res (.lit (.bool true))).value [] { args := args, res := some (.bool true), after := args } = some (.bool (true == true)) from w_eq_bool (w_res rfl) w_lit) rfl

/-! ### the attachment: holds_open's last premise (the goal 'hc' behind k_head) from a wpAny of the law's body -/

/-- the same from a codeAny of the CALL (for a layer whose function contracts speak of calls) -/
theorem attach_call {l : OpenLaw} {n : Nat} {q : Program} {loose : List Str} {XP : (Str → Option Value) → Heap → Prop} {YP : World → Heap → Prop} {d : DefRec}
    (hn : l.most = some n) (hdf : d.params.defaults = [])
    (call : ∀ (w : World) (s₀ s₁ : Shared) (mg mb : Str → Option Value) (fa : Addr) (o : Obj) (pm cd doc : Value) (a : Addr) (vs : List Value) (ns : List Int),
      Ground q loose [] XP w s₀ mg mb s₁.heap → YP w s₁.heap →
      s₁.heap.get? fa = some o → o.data = .func (docDef d.name d.params d.body d.scope pm cd doc) → s₁.heap.CodeRec cd d.name → mg d.name = some (.ref fa) →
      s₁.heap.get? a = some { cls := .type "list", data := .seq vs.toArray } → IntsAre vs ns → ns.length ≤ n → s₁.gens = #[] →
      codeAny (model l.prog w) callerA (.call (.ref fa) ⟨[.ref a], []⟩) (fun r s' => r = .ok (.ret (.bool true)) ∧ OldK s₁.heap s'.heap ∧ s'.os = s₁.os ∧ AllBare s'.gens) s₁) :
    WalkO q loose XP YP l.row.toRowW d [] (fun f vs => PySem.call f vs) := by
  intro w s₀ s₁ mg mb G Y fa o pm cd doc dV kV ho hd hcd hD hmg hg args vals as hpre hlay hrd hwl hlo
  obtain rfl : dV = .none := Dflts.none hD hdf
  obtain rfl : kV = .none := Dflts.noKw hD
  obtain ⟨a, vs, ns, rfl, rfl, hobj, hints, hlen⟩ := script_of hn hpre hwl
  refine enter_call (codeAny_mono (call w s₀ s₁ mg mb fa o pm cd doc a vs ns G Y ho (fd_plain hd) hcd hmg hobj hints hlen hg) fun r s' hq => ?_)
  obtain ⟨rfl, h2, h3, h4⟩ := hq
  exact ⟨.inl ⟨.bool true, .bool true, [], rfl, fun _ => rfl, .bool true, post_true l _, fun _ => ⟨List.Pairwise.nil, fun _ hm => (nomatch hm)⟩⟩, h2, h3, h4⟩


/-! ### rules over ANY heap (no ledger) from facts about the written part K: the library's own take a ledger (News) for what they write -/
section
variable {prog : Program} {w : World} {A : Around} {E : Value → Shared → Prop} {s : Shared} {K : Frag}





/-! the whole heap as the ledger: makes every rule that writes through a ledger a rule over any heap -/
def noObjs (h : Heap) : Heap := { h with objs := #[] }
def ledger (h : Heap) (L d : Addr) : List (Addr × Obj) := (List.range h.objs.size).filterMap fun a => if a = L ∨ a = d then none else (h.get? a).map fun o => (a, o)

end
end Att

namespace L2
open PySem PySem.Spec PyProof.Rows

theorem vals_ints : ∀ {vs : List Value} {ns : List Int}, IntsAre vs ns → Vals (ns.map V.int) vs
  | _, _, .nil => .nil
  | _, _, .cons n t h => .cons ⟨t, rfl⟩ (vals_ints h)

/-- nothing is tracked but the script, known to the object (or it is an object of the module) -/
def Only (H : Hp) : Prop := ∀ b, H b = none ∨ ∃ o xs, H b = some (.frz o (.lst xs))

/-- THE HEAD: the law's promise, at the heap behind the top. F, the promise of the law's def, may use that base is part of the heap (so K.In base, base.Ns mainGlobals mg stand in Mod) -/
theorem law_call {P : Program} {w : World} {K : PySem.W.Frag} {mg mb : Str → Option Value} {CX : CXT} {k : Nat} {fa a : Addr} {fd : FuncData} {x : Str} {sp : Sp} {s₁ : Shared} {vs : List Value} {ns : List Int}
    (KX : K.In s₁.heap) (hns : s₁.heap.Ns mainGlobals mg) (hb : s₁.heap.Ns builtinsNs mb) (hbb : ∀ x : Str, x ≠ "__name__" → mb x = bootBuiltins x) (hlim : s₁.heap.NoLimit) (hg : s₁.gens = #[])
    (ha : s₁.heap.get? a = some { cls := .type "list", data := .seq vs.toArray }) (hi : IntsAre vs ns) (hl : ns.length ≤ sizeLine) (hr : Room k callerA)
    (F : ∀ base : Heap, K.In base → base.Ns mainGlobals mg → FnOk P w K mg base CX k fa fd [x] sp) (hbind : ∀ (s : Shared) (u : Value), BindsTo s fd ⟨[u], []⟩ [(x, u)])
    (hsp : ∀ H : Hp, Only H → SqL K H a (ns.map V.int) → sp [.ref a] H (fun v _ => v = .bl true) fun _ _ _ => False)
    (hCX : ∀ H e s', CX [] H s₁ (fun _ _ _ => False) e s' → False) :
    codeAny (model P w) callerA (.call (.ref fa) ⟨[.ref a], []⟩) (fun r s' => r = .ok (.ret (.bool true)) ∧ OldK s₁.heap s'.heap ∧ s'.os = s₁.os ∧ AllBare s'.gens) s₁ := by
  have rv := vals_ints hi
  have lenV := hi.length
  -- from an abstract heap in which nothing but the script may be tracked
  have core : ∀ H : Hp, Only H → SqL K H a (ns.map V.int) → HOk P w H s₁.heap → (∀ b, H b ≠ none → b = a) → (H a ≠ none → K.lookup a = none) →
      codeAny (model P w) callerA (.call (.ref fa) ⟨[.ref a], []⟩) (fun r s' => r = .ok (.ret (.bool true)) ∧ OldK s₁.heap s'.heap ∧ s'.os = s₁.os ∧ AllBare s'.gens) s₁ := by
    intro H hO hS hok hA hK
    have base_of : ∀ {b : Addr} {o : Obj}, s₁.heap.get? b = some o → H b = none → (hidT s₁.heap H).get? b = some o := fun e n => hidT_get e n
    have noA : ∀ {b : Addr} {o : Obj} {es : Array DictEntry} {ep : Nat}, s₁.heap.get? b = some o → o.data = .dict es ep → H b = none := fun {b o es ep} e d => by
      cases q : H b with
      | none => rfl
      | some u =>
        have e' : b = a := hA b (by rw [q]; simp)
        subst e'
        rw [ha] at e; cases e
        have d' : Data.seq vs.toArray _ = Data.dict es ep := d
        cases d'
    have nsK : ∀ {b : Addr} {m : Str → Option Value}, s₁.heap.Ns b m → (hidT s₁.heap H).Ns b m := fun {b m} ⟨o, es, ep, e, d, r⟩ => ⟨o, es, ep, base_of e (noA e d), d, r⟩
    have hKb : K.In (hidT s₁.heap H) := fun b o e => base_of (KX b o e) (by
      cases q : H b with
      | none => rfl
      | some u =>
        have e' : b = a := hA b (by rw [q]; simp)
        subst e'
        rw [hK (by rw [q]; simp)] at e; cases e)
    have hM : Mod K mg (hidT s₁.heap H) := ⟨hKb, nsK hns, ⟨mb, nsK hb, hbb⟩, let ⟨mc, h1, h2⟩ := hlim; ⟨mc, nsK h1, h2⟩⟩
    have e0 : Env0 P w K mg (hidT s₁.heap H) callerA [] s₁ H := ⟨rfl, hM, fun b o e => of_hidT e, Nat.le_of_eq (hidT_size _ _), trivial, fun b hb => absurd (show b ∈ ([] : List Addr) from hb) (by simp), hok, .of_eq hg⟩
    refine codeAny_mono ((F _ hKb (nsK hns)).run callerA [] s₁ H ⟨[.ref a], []⟩ [.ref a] [.ref a] _ _ hr e0 (hbind s₁ (.ref a)) (.cons rfl .nil) (hsp H hO hS)) fun r s' h => ?_
    cases r with
    | error e => exact (hCX H e s' h).elim
    | ok fl =>
      cases fl with
      | next => exact False.elim h
      | brk => exact False.elim h
      | cont => exact False.elim h
      | ret u =>
        obtain ⟨v, H', os, bare, un, hok', r', q⟩ := h
        have q' : v = .bl true := q
        subst q'
        obtain rfl : u = Value.bool true := r'
        refine ⟨rfl, OldK.of_keep fun b o e => ?_, os, bare⟩
        cases q : H b with
        | none => exact un.keep b o e q (by intro z; exact absurd (show b ∈ ([] : List Addr) from z) (by simp)) (by simp)
        | some u =>
          rcases hO b with z | ⟨ob, xs, z⟩
          · rw [q] at z; cases z
          · have z2 := un.frzs b ob _ z
            obtain ⟨e1, _⟩ := hok b _ z
            obtain ⟨e2, _⟩ := hok' b _ z2
            rw [e] at e1; cases e1
            exact e2
  cases hk : K.lookup a with
  | some o =>
    -- the script is one of the module's own objects
    have e := KX a o hk
    rw [ha] at e
    cases e
    refine core (fun _ => none) (fun _ => .inl rfl) (.inr ⟨_, vs.toArray, _, hk, rfl, rfl, rfl, by rw [List.size_toArray, lenV]; exact hl, by simpa using rv⟩) (fun b u z => by have z' : (none : Option HO) = some u := z; cases z') (fun b z => absurd rfl z) fun z => absurd rfl z
  | none =>
    refine core (fun b => if b = a then some (.frz { cls := .type "list", data := .seq vs.toArray } (.lst (ns.map V.int))) else none) (fun b => ?_) (.inl (.inr ⟨{ cls := .type "list", data := .seq vs.toArray }, if_pos rfl⟩)) (fun b u z => ?_) (fun b z => ?_) fun _ => hk
    · by_cases hb : b = a
      · exact .inr ⟨_, _, if_pos hb⟩
      · exact .inl (if_neg hb)
    · by_cases hb : b = a
      · have z' := (if_pos hb).symm.trans z
        cases z'
        subst hb
        exact ⟨ha, by rw [List.length_map]; exact hl, vs, _, rv, ha⟩
      · have z' := (if_neg hb).symm.trans z
        cases z'
    · by_cases hb : b = a
      · exact hb
      · exact absurd (if_neg hb) z
end L2

namespace L2
open PySem PySem.Spec PyProof.Rows

abbrev KOf {K : PySem.W.Frag} {h : Heap} (_ : K.In h) : PySem.W.Frag := K

/-- the goal that k_head leaves (case hc), from the law's promise. F gives the function object fd (K's own) once, then the promise over every base -/
theorem walk_of {l : PySem.W.OpenLaw} {n k : Nat} {q : Program} {loose : List Str} {XP : (Str → Option Value) → Heap → Prop} {YP : World → Heap → Prop} {d : DefRec} {K : Params → PySem.W.Frag} {CX : World → CXT} {sp : World → Sp} {x : Str}
    (hn : l.most = some n) (hn2 : n ≤ sizeLine) (hdf : d.params.defaults = []) (hr : Room k callerA)
    (hY : ∀ (w : World) (h : Heap), YP w h → (K w.params).In h)
    (F : ∀ (w : World) (mg : Str → Option Value) (fa : Addr) (h : Heap), (K w.params).In h → h.Ns mainGlobals mg → mg d.name = some (.ref fa) →
      ∃ fd : FuncData, (∀ (s : Shared) (u : Value), BindsTo s fd ⟨[u], []⟩ [(x, u)]) ∧
        ∀ base : Heap, (K w.params).In base → base.Ns mainGlobals mg → FnOk l.prog w (K w.params) mg base (CX w) k fa fd [x] (sp w))
    (hsp : ∀ (w : World) (H : Hp) (a : Addr) (ns : List Int), ns.length ≤ n → Only H → SqL (K w.params) H a (ns.map V.int) → sp w [.ref a] H (fun v _ => v = .bl true) fun _ _ _ => False)
    (hCX : ∀ (w : World) (H : Hp) (s : Shared) (e : Value) (s' : Shared), CX w [] H s (fun _ _ _ => False) e s' → False) :
    PySem.W.WalkO q loose XP YP l.row.toRowW d [] (fun f vs => PySem.call f vs) := by
  refine Att.attach_call hn hdf fun w s₀ s₁ mg mb fa o pm cd doc a vs ns G Y ho hd hcd hmg hobj hints hlen hg => ?_
  have KX := hY w _ Y
  obtain ⟨fd, hb, hF⟩ := F w mg fa _ KX G.T.g hmg
  exact law_call KX G.T.g G.T.b G.T.builtins G.T.nolimit hg hobj hints (Nat.le_trans hlen hn2) hr hF hb (fun H hO hS => hsp w H a ns hlen hO hS) fun H e s' => hCX w H s₁ e s'
end L2

/- THE LAST THEOREM (shape; LID, My.* are yours):
   My.Adr: a structure of the addresses that your layer names (classes, functions); My.Txt K t: a structure (Prop) of the equations over K;
   My.txt_mk : {K} {implicit addresses ..} (e1 : nsIn K mainGlobals "law" = some (some (.ref f))) (e2 : K.lookup f = some ⟨oc, od, .func (fnOf "law" "law" params body scope dV kV doc pm an cdv ct), sl⟩) (e3 : codeIn K cdv "law" = true) .. : ∃ t, My.Txt K t

set_option maxRecDepth 100000 in
set_option maxHeartbeats 0 in
theorem PySem.Challenge.cw_LID_holds : PySem.Challenge.rw_LID.Holds := by
  w_on; o_law; k_head; (case hw => w_witness2)
  k_fill
  refine L2.walk_of (l := PySem.Challenge.rw_LID) (n := 63) (k := 40) (x := "script") (CX := fun w => ..) (sp := fun _ => My.sp_law) rfl (by decide) rfl ⟨rfl, by decide, by decide⟩ (fun w h Y => PySem.W.kIn_of Y) ?F ?S ?C
  case F =>
    intro w mg fa h KX G hmg
    have T : ∃ t, My.Txt (L2.KOf KX) t := by
      dsimp only [L2.KOf]                          -- K must stand as «<heap const> w.params» for k_is
      refine' My.txt_mk ?e1 ?e2 ?e3 ..
      (case e1 => PySem.W.k_is)                    -- in the order: a name -> its address -> its object -> its parts
      (case e2 => PySem.W.k_is)
      ..
    obtain ⟨t, T⟩ := T
    have e0 := hmg.symm.trans (PySem.W.mg_of KX G T.law)
    cases e0                                       -- fa is the law's own address
    exact ⟨_, fun s u => .of_eq rfl, fun base kb nb => My.law_fn T kb nb⟩     -- if «.of_eq rfl» comes too early: refine' ⟨_, ?b, fun base kb nb => My.law_fn T kb nb⟩; exact fun s u => .of_eq rfl
  case S => exact fun w H a ns hl hO hS => ..
  case C => exact ..
(the tactic k_is has no namespace: write k_is) -/

/-! SHORT WORDS over the layer: a def of the text, its body, what a loop and a test want. -/
namespace L2
open PySem PySem.Spec PyProof.Rows

/-! ### the text by places -/
/-- the j-th statement of a class's body -/
def inClass (s : Stmt) (j : Nat) : Stmt := match s with
  | .ClassDef _ _ _ body _ _ _ _ _ _ _ => body.getD j (.Pass ⟨0, 0, 0, 0⟩)
  | _ => .Pass ⟨0, 0, 0, 0⟩
def defArgs (s : Stmt) : Arguments := match s with
  | .FunctionDef _ a _ _ _ _ _ _ _ _ => a
  | _ => { posonlyargs := [], args := [], vararg := none, kwonlyargs := [], kw_defaults := [], kwarg := none, defaults := [] }
def defBody (s : Stmt) : List Stmt := match s with
  | .FunctionDef _ _ b _ _ _ _ _ _ _ => b
  | _ => []
def defScope (s : Stmt) : Scope := match s with
  | .FunctionDef _ _ _ _ _ _ sc _ _ _ => sc
  | _ => { kind := .function, names := [], isGenerator := false, isCoroutine := false }

/-! ### no exception leaves a def -/
abbrev CX0 : CXT := fun _ _ _ _ _ _ => False
abbrev E0 : XK := fun _ _ _ => False

/-! ### a def (or method) of the text as it stands behind the top -/
structure Fun (K : PySem.W.Frag) (x qual : Str) (st : Stmt) (f : Addr) (fd : FuncData) : Prop where
  ex : ∃ (oc : Value) (od : Option Addr) (kV doc pm : Value) (an : Option Addr) (cdv ct : Value) (osl : Array (Option Value)),
    fd = PySem.W.fnOf x qual (defArgs st) (defBody st) (defScope st) .none kV doc pm an cdv ct ∧ K.lookup f = some ⟨oc, od, .func fd, osl⟩ ∧ PySem.W.codeIn K cdv qual = true
  kp : PySem.W.keepIn K (.ref f) = true
section
variable {P : Program} {w : World} {K : PySem.W.Frag} {mg : Str → Option Value} {base : Heap}
/-- THE RULE for a def: its body as a term of rules, and the reading of that term -/
theorem Fun.ok {x qual : Str} {st : Stmt} {f : Addr} {fd : FuncData} {N ps : List Str} {k : Nat} {sp : Sp} (F : Fun K x qual st f fd) (S : FnScope N ps (defScope st)) (len : ∀ vs H Q E, sp vs H Q E → vs.length = ps.length)
    (hbody : ∀ (cdv : Value) (A : Around) (outer : List Env) (s : Shared) (H : Hp) (vs : List V) (Q : VK) (E : XK), Room k (A.deeper (envOfC qual (defScope st) s.heap.objs.size f cdv)) → sp vs H Q E →
      ∃ t, PSs (cxOf CX0 P w K mg base N qual (defScope st) f cdv A outer s H E).nox (defBody st) t ∧ t { nx := fun _ H' => Q .non H', rt := Q } (start N vs) H) : FnOk P w K mg base CX0 (k + 1) f fd ps sp := by
  obtain ⟨oc, od, kV, doc, pm, an, cdv, ct, osl, rfl, lk, hcd⟩ := F.ex
  refine fn_of lk hcd S len fun A outer s H vs Q E hr hsp => ?_
  obtain ⟨t, h, q⟩ := hbody cdv A outer s H vs Q E hr hsp
  exact ⟨t, h.nox, q⟩
/-- how its arguments bind (no defaults): h is «fun _ _ _ _ _ _ us hl => match us, hl with | [_, _], _ => rfl», one _ a parameter -/
theorem Fun.binds {x qual : Str} {st : Stmt} {f : Addr} {fd : FuncData} {ps : List Str} (F : Fun K x qual st f fd)
    (h : ∀ (kV doc pm : Value) (an : Option Addr) (cdv ct : Value) (us : List Value), us.length = ps.length → bindArgs (PySem.W.fnOf x qual (defArgs st) (defBody st) (defScope st) .none kV doc pm an cdv ct) ⟨us, []⟩ = pure (ps.zip us)) : Binds K fd ps [] := by
  obtain ⟨oc, od, kV, doc, pm, an, cdv, ct, osl, rfl, lk, hcd⟩ := F.ex
  exact .all (h kV doc pm an cdv ct)
theorem fun_mk {x qual : Str} {st : Stmt} {f : Addr} {oc : Value} {od an : Option Addr} {osl : Array (Option Value)} {kV doc pm cdv ct : Value} (l : K.lookup f = some ⟨oc, od, .func (PySem.W.fnOf x qual (defArgs st) (defBody st) (defScope st) .none kV doc pm an cdv ct), osl⟩)
    (c : PySem.W.codeIn K cdv qual = true) (k : PySem.W.keepIn K (.ref f) = true) : Fun K x qual st f (PySem.W.fnOf x qual (defArgs st) (defBody st) (defScope st) .none kV doc pm an cdv ct) := ⟨⟨oc, od, kV, doc, pm, an, cdv, ct, osl, rfl, l, c⟩, k⟩
end

/-! ### expressions in short: the name that stands in the i-th slot -/
section
variable {X : Cx}
theorem pv (i : Nat) {x : Str} {pos : Pos} (hN : X.N[i]? = some x := by rfl) (hv : Vis X.env.scope x := by first | exact Or.inl rfl | exact Or.inr (Or.inl rfl) | exact Or.inr (Or.inr rfl)) (hd : (x == ("__debug__" : Str)) = false := by decide)
    (hcd : (x == ("__classdict__" : Str)) = false := by decide) : PE X (.Name x pos) (tVar i) := pe_var hN hv hd hcd
end

/-! ### tests -/
theorem iteF {A B : Prop} (h : B) : if false = true then A else B := by
  rw [if_neg Bool.false_ne_true]
  exact h
theorem iteT {A B : Prop} (h : A) : if true = true then A else B := by
  rw [if_pos rfl]
  exact h
theorem ite2 {c A B : Prop} [Decidable c] (h1 : c → A) (h2 : ¬ c → B) : if c then A else B := by
  by_cases h : c
  · rw [if_pos h]
    exact h1 h
  · rw [if_neg h]
    exact h2 h

/-! ### heaps -/
/-- all that was tracked is as it was -/
def Same (H H' : Hp) : Prop := ∀ b o, H b = some o → H' b = some o
theorem Same.refl (H : Hp) : Same H H := fun _ _ h => h
theorem Same.trans {H H1 H2 : Hp} (a : Same H H1) (b : Same H1 H2) : Same H H2 := fun c o h => b c o (a c o h)
theorem Same.free {H H' : Hp} (e : Same H H') {l : Addr} (h : H' l = Option.none) : H l = Option.none := by
  cases q : H l with
  | none => rfl
  | some o =>
    rw [e l o q] at h
    cases h
theorem Same.seq {K : PySem.W.Frag} {H H' : Hp} {a : Addr} {xs : List V} (e : Same H H') (h : SqL K H a xs) : SqL K H' a xs := by
  rcases h with (h | ⟨o, h⟩) | h
  · exact .inl (.inl (e _ _ h))
  · exact .inl (.inr ⟨o, e _ _ h⟩)
  · exact .inr h

end L2

set_option maxHeartbeats 4000000

namespace L2
open PySem PySem.Spec PyProof.Rows
/-! ### lists of pairs as tables -/
section
variable {κ : Type} [DecidableEq κ]
def valV (kvs : List (κ × V)) (k : κ) : Option V := (kvs.find? fun kv => decide (kv.1 = k)).map (·.2)
/-- in its place, or at the end -/
def putK (kvs : List (κ × V)) (k : κ) (v : V) : List (κ × V) :=
  if (kvs.any fun kv => decide (kv.1 = k)) = true then kvs.map (fun kv => if kv.1 = k then (kv.1, v) else kv) else kvs ++ [(k, v)]
def dropK (kvs : List (κ × V)) (k : κ) : List (κ × V) := kvs.filter fun kv => decide (kv.1 ≠ k)

theorem valV_pos {p : κ × V} {r : List (κ × V)} {k : κ} (e : p.1 = k) : valV (p :: r) k = some p.2 := by simp [valV, List.find?_cons, e]
theorem valV_neg {p : κ × V} {r : List (κ × V)} {k : κ} (e : ¬ p.1 = k) : valV (p :: r) k = valV r k := by simp [valV, List.find?_cons, e]
theorem valV_any (k : κ) : ∀ kvs : List (κ × V), (kvs.any fun kv => decide (kv.1 = k)) = (valV kvs k).isSome
  | [] => rfl
  | p :: r => by
    rw [List.any_cons]
    by_cases e : p.1 = k
    · simp only [valV_pos e, decide_eq_true e, Bool.true_or, Option.isSome_some]
    · rw [valV_neg e, decide_eq_false e, Bool.false_or]; exact valV_any k r

theorem RelO.isSome_eq {o : Option V} {u : Option Value} (r : RelO o u) : o.isSome = u.isSome := by
  cases o with
  | none => cases u with
    | none => rfl
    | some _ => exact (show False from r).elim
  | some _ => cases u with
    | none => exact (show False from r).elim
    | some _ => rfl
theorem RelO.getD {o : Option V} {u : Option Value} {d : V} {d' : Value} (r : RelO o u) (rd : RelV d d') : RelV (o.getD d) (u.getD d') := by
  cases o with
  | none => cases u with
    | none => exact rd
    | some _ => exact (show False from r).elim
  | some _ => cases u with
    | none => exact (show False from r).elim
    | some _ => exact r

/-- raw tables of the same keys -/
theorem KV.val {kvs : List (κ × V)} {vs : List (κ × Value)} (r : KV kvs vs) (k : κ) : RelO (valV kvs k) (valueAt vs k) := by
  unfold KV at r
  induction r with
  | nil => exact True.intro
  | @cons p q ps qs h t ih =>
    obtain ⟨h1, h2⟩ := h
    by_cases e : p.1 = k
    · have e' : q.1 = k := h1.symm.trans e
      have b : valueAt (q :: qs) k = some q.2 := by simp [valueAt, List.find?_cons, e']
      rw [valV_pos e, b]; exact h2
    · have e' : ¬ q.1 = k := fun z => e (h1.trans z)
      have b : valueAt (q :: qs) k = valueAt qs k := by simp [valueAt, List.find?_cons, e']
      rw [valV_neg e, b]; exact ih
theorem KV.any {kvs : List (κ × V)} {vs : List (κ × Value)} (r : KV kvs vs) (k : κ) : (kvs.any fun kv => decide (kv.1 = k)) = vs.any fun kv => decide (kv.1 = k) := by
  unfold KV at r
  induction r with
  | nil => rfl
  | cons h t ih => rw [List.any_cons, List.any_cons, ih, h.1]
theorem KV.repl {kvs : List (κ × V)} {vs : List (κ × Value)} (r : KV kvs vs) (k : κ) {y : V} {u : Value} (ry : RelV y u) :
    KV (kvs.map fun kv => if kv.1 = k then (kv.1, y) else kv) (vs.map fun kv => if kv.1 = k then (kv.1, u) else kv) := by
  unfold KV at r ⊢
  induction r with
  | nil => exact .nil
  | @cons p q ps qs h t ih =>
    rw [List.map_cons, List.map_cons]
    refine .cons ?_ ih
    obtain ⟨h1, h2⟩ := h
    by_cases e : p.1 = k
    · rw [if_pos e, if_pos (h1.symm.trans e)]; exact ⟨h1, ry⟩
    · rw [if_neg e, if_neg (fun z => e (h1.trans z))]; exact ⟨h1, h2⟩
theorem KV.put {kvs : List (κ × V)} {vs : List (κ × Value)} (r : KV kvs vs) (k : κ) {y : V} {u : Value} (ry : RelV y u) : KV (putK kvs k y) (stored vs k u) := by
  unfold putK stored
  rw [r.any k]
  by_cases e : (vs.any fun kv => decide (kv.1 = k)) = true
  · rw [if_pos e, if_pos e]; exact r.repl k ry
  · rw [if_neg e, if_neg e]; exact Paired.snoc r ⟨rfl, ry⟩
theorem KV.drop {kvs : List (κ × V)} {vs : List (κ × Value)} (r : KV kvs vs) (k : κ) : KV (dropK kvs k) (without vs k) := by
  unfold KV at r ⊢
  unfold dropK without
  induction r with
  | nil => exact .nil
  | @cons p q ps qs h t ih =>
    obtain ⟨h1, h2⟩ := h
    rw [List.filter_cons, List.filter_cons]
    by_cases e : p.1 = k
    · have a : ¬ decide (p.1 ≠ k) = true := by simp [e]
      have b : ¬ decide (q.1 ≠ k) = true := by simp [h1.symm.trans e]
      rw [if_neg a, if_neg b]; exact ih
    · have e' : ¬ q.1 = k := fun z => e (h1.trans z)
      have a : decide (p.1 ≠ k) = true := by simp [e]
      have b : decide (q.1 ≠ k) = true := by simp [e']
      rw [if_pos a, if_pos b]; exact .cons ⟨h1, h2⟩ ih
theorem KV.keys {kvs : List (κ × V)} {vs : List (κ × Value)} (r : KV kvs vs) : kvs.map (·.1) = vs.map (·.1) := by
  unfold KV at r
  induction r with
  | nil => rfl
  | cons h t ih => rw [List.map_cons, List.map_cons, ih, h.1]
theorem KV.length {kvs : List (κ × V)} {vs : List (κ × Value)} (r : KV kvs vs) : kvs.length = vs.length := Paired.length r
end


/-! ### a tracked dict, its keys ints and texts or tuples of these -/

/-- raw entries of a dict with tuple keys -/
abbrev KT (H : Hp) : List (List Key × V) → List (List Key × Addr × Value) → Prop := Paired fun p q => p.1 = q.1 ∧ H q.2.1 = some (.tup (p.1.map kV)) ∧ RelV p.2 q.2.2
theorem KT.val {H : Hp} {kvs : List (List Key × V)} {xs : List (List Key × Addr × Value)} (r : KT H kvs xs) (k : List Key) : RelO (valV kvs k) ((atKey xs k).map (·.2)) := by
  induction r with
  | nil => exact True.intro
  | @cons p q ps qs h t ih =>
    obtain ⟨h1, _, h2⟩ := h
    by_cases e : p.1 = k
    · have e' : q.1 = k := h1.symm.trans e
      have b : atKey (q :: qs) k = some q.2 := by simp [atKey, List.find?_cons, e']
      rw [valV_pos e, b]; exact h2
    · have e' : ¬ q.1 = k := fun z => e (h1.trans z)
      have b : atKey (q :: qs) k = atKey qs k := by simp [atKey, List.find?_cons, e']
      rw [valV_neg e, b]; exact ih
theorem KT.repl {H : Hp} {kvs : List (List Key × V)} {xs : List (List Key × Addr × Value)} (r : KT H kvs xs) (k : List Key) {y : V} {u : Value} (ry : RelV y u) :
    KT H (kvs.map fun kv => if kv.1 = k then (kv.1, y) else kv) (xs.map (putAt k u)) := by
  induction r with
  | nil => exact .nil
  | @cons p q ps qs h t ih =>
    rw [List.map_cons, List.map_cons]
    refine .cons ?_ ih
    obtain ⟨h1, h2, h3⟩ := h
    unfold putAt
    by_cases e : p.1 = k
    · rw [if_pos e, if_pos (h1.symm.trans e)]; exact ⟨h1, h2, ry⟩
    · rw [if_neg e, if_neg (fun z => e (h1.trans z))]; exact ⟨h1, h2, h3⟩
theorem KT.put {H : Hp} {kvs : List (List Key × V)} {xs : List (List Key × Addr × Value)} (r : KT H kvs xs) (k : List Key) {b : Addr} {y : V} {u : Value} (hb : H b = some (.tup (k.map kV))) (ry : RelV y u) :
    KT H (putK kvs k y) (storedH xs k b u) := by
  have e : (kvs.any fun kv => decide (kv.1 = k)) = (atKey xs k).isSome := by
    rw [valV_any, (r.val k).isSome_eq, Option.isSome_map]
  unfold putK storedH
  rw [e]
  by_cases q : (atKey xs k).isSome = true
  · rw [if_pos q, if_pos q]; exact r.repl k ry
  · rw [if_neg q, if_neg q]; exact Paired.snoc r ⟨rfl, hb, ry⟩
theorem KT.keeps {H H' : Hp} {kvs : List (List Key × V)} {xs : List (List Key × Addr × Value)} (r : KT H kvs xs) (ht : ∀ b ys, H b = some (.tup ys) → H' b = some (.tup ys)) : KT H' kvs xs :=
  Paired.mapP r fun _ _ z => ⟨z.1, ht _ _ z.2.1, z.2.2⟩

section
variable {P : Program} {w : World} {H : Hp} {h : Heap} {a : Addr}
end

/-- what the dict at a holds at the key y -/
def DGet (H : Hp) (a : Addr) (y : V) (r : Option V) : Prop :=
  (∃ kvs k, Rd H a (.dK kvs) ∧ y = kV k ∧ r = valV kvs k) ∨ ∃ kvs k b, Rd H a (.dT kvs) ∧ y = .ref b ∧ H b = some (.tup (k.map kV)) ∧ r = valV kvs k
/-- the heap behind a[y] = v -/
def DPut (H : Hp) (a : Addr) (y v : V) (H' : Hp) : Prop :=
  (∃ kvs k, H a = some (.dK kvs) ∧ y = kV k ∧ kvs.length < sizeLine ∧ H' = upd H a (.dK (putK kvs k v))) ∨
  ∃ kvs k b, H a = some (.dT kvs) ∧ y = .ref b ∧ H b = some (.tup (k.map kV)) ∧ kvs.length < sizeLine ∧ H' = upd H a (.dT (putK kvs k v))
theorem DGet.k {H : Hp} {a : Addr} {kvs : List (Key × V)} {k : Key} (e : H a = some (.dK kvs)) : DGet H a (kV k) (valV kvs k) := .inl ⟨kvs, k, .inl e, rfl, rfl⟩
theorem DGet.t {H : Hp} {a b : Addr} {kvs : List (List Key × V)} {k : List Key} (e : H a = some (.dT kvs)) (eb : H b = some (.tup (k.map kV))) : DGet H a (.ref b) (valV kvs k) := .inr ⟨kvs, k, b, .inl e, rfl, eb, rfl⟩
theorem DPut.k {H : Hp} {a : Addr} {kvs : List (Key × V)} {k : Key} {v : V} (e : H a = some (.dK kvs)) (hl : kvs.length < sizeLine) : DPut H a (kV k) v (upd H a (.dK (putK kvs k v))) := .inl ⟨kvs, k, e, rfl, hl, rfl⟩
theorem DPut.t {H : Hp} {a b : Addr} {kvs : List (List Key × V)} {k : List Key} {v : V} (e : H a = some (.dT kvs)) (eb : H b = some (.tup (k.map kV))) (hl : kvs.length < sizeLine) :
    DPut H a (.ref b) v (upd H a (.dT (putK kvs k v))) := .inr ⟨kvs, k, b, e, rfl, eb, hl, rfl⟩


section
variable {X : Cx} {pins : List (Addr × Obj)} {σ : St} {H : Hp} {s : Shared} {a : Addr} {y v : V} {u r : Value} {o : Option V} {A : Around} {E : Value → Shared → Prop}

theorem Inv.big (I : Inv X pins σ H s) : sysModules < s.heap.objs.size := by
  have h : mainGlobals < s.heap.objs.size := (I.mod.glob.keeps I.bk).lt
  exact Nat.lt_trans (by decide) h

end

section
variable {X : Cx} {pins : List (Addr × Obj)} {σ : St} {H : Hp} {s : Shared} {a : Addr} {kvs : List (Key × V)} {k : Key} {u : Value} {A : Around} {E : Value → Shared → Prop}
end


/-! ### readings and rules -/
/-- the element of a subscription, not a slice -/
def NoSl (i : Expr) : Prop := ∀ ov iv, subscripted i false ov iv = operate [ov, iv] (getItem ov iv)


/-- d[y] -/
def tDGet (td ty : TE) : TE := fun σ H Q => td σ H fun x H1 => ty σ H1 fun y H2 => ∃ a v, x = .ref a ∧ DGet H2 a y (some v) ∧ Q v H2
/-- y in d, y not in d -/
def tDIn (ty td : TE) : TE := fun σ H Q => ty σ H fun y H1 => td σ H1 fun x H2 => ∃ a o, x = .ref a ∧ DGet H2 a y o ∧ Q (.bl o.isSome) H2
def tDNotIn (ty td : TE) : TE := fun σ H Q => ty σ H fun y H1 => td σ H1 fun x H2 => ∃ a o, x = .ref a ∧ DGet H2 a y o ∧ Q (.bl (!o.isSome)) H2
/-- d[y] = v -/
def sDPut (td ty tv : TE) : TS := fun D σ H => tv σ H fun v H1 => td σ H1 fun x H2 => ty σ H2 fun y H3 => ∃ a H4, x = .ref a ∧ DPut H3 a y v H4 ∧ D.nx σ H4
/-- d[y] op= v -/
def sDAug (td ty tv : TE) (rd : V → V → Hp → VK → Prop) : TS := fun D σ H => td σ H fun x H1 => ty σ H1 fun y H2 => ∃ a v, x = .ref a ∧ DGet H2 a y (some v) ∧
  tv σ H2 fun y2 H3 => rd v y2 H3 fun z H4 => ∃ H5, DPut H4 a y z H5 ∧ D.nx σ H5
/-- del d[y] -/
def sDDel (td ty : TE) : TS := fun D σ H => td σ H fun x H1 => ty σ H1 fun y H2 => ∃ a kvs k, x = .ref a ∧ H2 a = some (.dK kvs) ∧ y = kV k ∧ (valV kvs k).isSome = true ∧ D.nx σ (upd H2 a (.dK (dropK kvs k)))

section
variable {X : Cx} {o i e value : Expr} {pos pos' tpos : Pos} {td ty tv : TE}
end


/-! ### displays -/
/-- {}, to be a dict of the kind that is wanted -/
def tDNewK : TE := fun _ H Q => ∀ p, H p = none → Q (.ref p) (upd H p (.dK []))
def tDNewT : TE := fun _ H Q => ∀ p, H p = none → Q (.ref p) (upd H p (.dT []))
section
variable {X : Cx} {pos : Pos}
end

/-- the pairs of a display, from the left -/
def tPairs : List (TE × TE) → St → Hp → (List (V × V) → Hp → Prop) → Prop
  | [], _, H, Q => Q [] H
  | (tk, tv) :: r, σ, H, Q => tk σ H fun x H1 => tv σ H1 fun y H2 => tPairs r σ H2 fun ps H3 => Q ((x, y) :: ps) H3
abbrev VV : List (V × V) → List (Value × Value) → Prop := Paired fun p q => RelV p.1 q.1 ∧ RelV p.2 q.2
def PPs (X : Cx) (pos : Pos) (keys : List (Option Expr)) (values : List Expr) (trs : List (TE × TE)) : Prop :=
  ∀ (pins : List (Addr × Obj)) (s : Shared) (σ : St) (H : Hp) (Q : List (V × V) → Hp → Prop), Inv X pins σ H s → tPairs trs σ H Q →
    wpAny (model X.prog X.w) X.A (evalPairs (pairTrees keys values X.env pos)) (fun vs s' => ∃ ps H', Inv X pins σ H' s' ∧ VV ps vs ∧ Q ps H') X.xe s

def mergeK (kvs more : List (Key × V)) : List (Key × V) := more.foldl (fun acc kv => putK acc kv.1 kv.2) kvs
/-- {k: v, ..} with keys ints and texts; the new dict stands empty while the pairs are made -/
def tDisp (trs : List (TE × TE)) : TE := fun σ H Q => ∀ p, H p = none → tPairs trs σ (upd H p (.dK [])) fun ps H2 => H2 p = some (.dK []) ∧ ∃ kvs : List (Key × V), ps = kvs.map (fun kv => (kV kv.1, kv.2)) ∧ kvs.length ≤ 15 ∧ Q (.ref p) (upd H2 p (.dK (mergeK [] kvs)))


/-! ### methods -/
/-- a method call o.m(e) of a built-in, with one argument: what must be seen of the text -/
structure M1 (X : Cx) (o : Expr) (m : Str) (apos : Pos) (e : Expr) (cpos : Pos) : Prop where
  base : attributeBase o m X.env (eval o X.env) = eval o X.env
  few : ((backTo cpos (starEach [e] X.env)).all (fun x => !x.1) && (backToKw cpos (keywordEach [] X.env)).all (fun x => x.1.isSome)
    && decide (([e] : List Expr).length + ([] : List Keyword).length + (if ([] : List Keyword).isEmpty then 0 else 1) < 30)) = true
  line : (apos.endLine == cpos.line) = true
  trees : backTo cpos (starEach [e] X.env) = [(false, eval e X.env)]
structure M2 (X : Cx) (o : Expr) (m : Str) (apos : Pos) (e f : Expr) (cpos : Pos) : Prop where
  base : attributeBase o m X.env (eval o X.env) = eval o X.env
  few : ((backTo cpos (starEach [e, f] X.env)).all (fun x => !x.1) && (backToKw cpos (keywordEach [] X.env)).all (fun x => x.1.isSome)
    && decide (([e, f] : List Expr).length + ([] : List Keyword).length + (if ([] : List Keyword).isEmpty then 0 else 1) < 30)) = true
  line : (apos.endLine == cpos.line) = true
  trees : backTo cpos (starEach [e, f] X.env) = [(false, eval e X.env), (false, eval f X.env)]

/-- a is a dict, whatever its keys -/
def IsD (H : Hp) (a : Addr) : Prop := (∃ kvs, Rd H a (.dK kvs)) ∨ ∃ kvs, Rd H a (.dT kvs)

section
variable {X : Cx} {pins : List (Addr × Obj)} {σ : St} {H : Hp} {s : Shared} {a : Addr} {y d : V} {u r : Value} {o : Option V} {A : Around} {E : Value → Shared → Prop}
end

def tDGet1 (td ty : TE) : TE := fun σ H Q => td σ H fun x H1 => ∃ a, x = .ref a ∧ IsD H1 a ∧ ty σ H1 fun y H2 => ∃ o, DGet H2 a y o ∧ Q (o.getD .non) H2
def tDGet2 (td ty tx : TE) : TE := fun σ H Q => td σ H fun x H1 => ∃ a, x = .ref a ∧ IsD H1 a ∧ ty σ H1 fun y H2 => tx σ H2 fun z H3 => ∃ o, DGet H3 a y o ∧ Q (o.getD z) H3
/-- d.pop(k): there; d.pop(k, x): there or not -/
def tDPop1 (td ty : TE) : TE := fun σ H Q => td σ H fun x H1 => ∃ a, x = .ref a ∧ IsD H1 a ∧ ty σ H1 fun y H2 => ∃ kvs k v, H2 a = some (.dK kvs) ∧ y = kV k ∧ valV kvs k = some v ∧ Q v (upd H2 a (.dK (dropK kvs k)))
def tDPop2 (td ty tx : TE) : TE := fun σ H Q => td σ H fun x H1 => ∃ a, x = .ref a ∧ IsD H1 a ∧ ty σ H1 fun y H2 => tx σ H2 fun z H3 => ∃ kvs k, H3 a = some (.dK kvs) ∧ y = kV k ∧
  (∀ v, valV kvs k = some v → Q v (upd H3 a (.dK (dropK kvs k)))) ∧ (valV kvs k = none → Q z H3)
section
variable {X : Cx} {o e f : Expr} {apos cpos : Pos} {td ty tx : TE}
end

/-! ### dict(d): a copy -/
section
variable {X : Cx} {pins : List (Addr × Obj)} {σ : St} {H : Hp} {s : Shared} {a : Addr} {kvs : List (Key × V)} {A : Around} {E : Value → Shared → Prop}
end


section
variable {X : Cx} {pins : List (Addr × Obj)} {σ : St} {H : Hp} {s : Shared} {a : Addr} {y : V} {u : Value} {A : Around} {E : Value → Shared → Prop}
end
section
variable {X : Cx}
end
/-! ### a dict's pairs: keys that differ -/
section
variable {κ : Type} [DecidableEq κ]
end
end L2

namespace L2
open PySem PySem.Spec PyProof.Rows

/-! ### the cells that a block closes over -/
theorem forIn_pure {α β : Type} {f : α → β → Sem (ForInStep β)} {g : β → α → β} : ∀ (l : List α) (c : β), (∀ x ∈ l, ∀ c, f x c = pure (.yield (g c x))) → forIn l c f = pure (l.foldl g c)
  | [], _, _ => rfl
  | x :: l, c, h => by
    rw [List.forIn_cons, h x List.mem_cons_self, pure_bind]
    exact forIn_pure l (g c x) fun y hy => h y (List.mem_cons_of_mem _ hy)
def closStep (env : Env) (acc : List (Str × Addr)) (x : Str × NameKind) : List (Str × Addr) := if x.2 == .free then (x.1, (env.cells.lookup x.1).getD 0) :: acc else acc
def closL (env : Env) (names : List (Str × NameKind)) : List (Str × Addr) := names.foldl (closStep env) []
theorem closureFor_eq {scope : Scope} {env : Env} (h : ∀ x ∈ scope.names, x.2 = .free → ∃ c, env.cells.lookup x.1 = some c) : closureFor scope env = pure (closL env scope.names) := by
  simp only [closureFor]
  rw [forIn_pure (g := closStep env) scope.names [] (fun x hx c => by
    obtain ⟨n, kind⟩ := x
    by_cases hk : kind = .free
    · subst hk
      obtain ⟨a, ha⟩ := h _ hx rfl
      have ha' : env.cells.lookup n = some a := ha
      simp [closStep, cellOf, ha']
    · have hb : (kind == NameKind.free) = false := by simpa using hk
      simp [closStep, hb])]
  rfl
theorem closL_mem {env : Env} : ∀ (names : List (Str × NameKind)) (acc : List (Str × Addr)), (∀ x ∈ names, x.2 = .free → ∃ c, env.cells.lookup x.1 = some c) → (∀ p ∈ acc, env.cells.lookup p.1 = some p.2) →
    ∀ p ∈ names.foldl (closStep env) acc, env.cells.lookup p.1 = some p.2
  | [], _, _, h => h
  | x :: r, acc, hn, h => by
    refine closL_mem r _ (fun y hy => hn y (List.mem_cons_of_mem _ hy)) ?_
    intro p hp
    unfold closStep at hp
    split at hp
    · rename_i hk
      rcases List.mem_cons.mp hp with e | e
      · subst e
        obtain ⟨c, hc⟩ := hn x List.mem_cons_self (by simpa using hk)
        show env.cells.lookup x.1 = some ((env.cells.lookup x.1).getD 0)
        rw [hc]
        rfl
      · exact h p e
    · exact h p hp
theorem closL_sub {env : Env} : ∀ (names : List (Str × NameKind)) (acc : List (Str × Addr)) (p : Str × Addr), p ∈ acc → p ∈ names.foldl (closStep env) acc
  | [], _, _, h => h
  | x :: r, acc, p, h => by
    refine closL_sub r _ p ?_
    unfold closStep
    split
    · exact List.mem_cons_of_mem _ h
    · exact h
theorem closL_has {env : Env} : ∀ (names : List (Str × NameKind)) (acc : List (Str × Addr)) (x : Str), (x, NameKind.free) ∈ names → ∃ c, (x, c) ∈ names.foldl (closStep env) acc
  | y :: r, acc, x, h => by
    rcases List.mem_cons.mp h with e | e
    · subst e
      exact ⟨_, closL_sub r _ _ (by unfold closStep; rw [if_pos (by rfl)]; exact List.mem_cons_self)⟩
    · exact closL_has r _ x e
theorem lookup_of_mem {α : Type} : ∀ {l : List (Str × α)} {x : Str} {c : α}, (x, c) ∈ l → ∃ d, l.lookup x = some d
  | (y, d) :: r, x, c, h => by
    rw [List.lookup_cons]
    cases e : x == y with
    | true => exact ⟨d, rfl⟩
    | false =>
      rcases List.mem_cons.mp h with q | q
      · cases q
        rw [beq_self_eq_true] at e
        cases e
      · exact lookup_of_mem q
theorem lookup_relabel (env : Env) : ∀ (names : List (Str × NameKind)) (x : Str), (names.map fun (n, k) => if (k == NameKind.free && env.scope.kind == .function && env.kindOf n == some .cell) then (n, NameKind.cell) else (n, k)).lookup x =
    (names.lookup x).map fun k => if (k == NameKind.free && env.scope.kind == .function && env.kindOf x == some .cell) then NameKind.cell else k
  | [], _ => rfl
  | (n, k) :: r, x => by
    have ih := lookup_relabel env r x
    show List.lookup x ((if (k == NameKind.free && env.scope.kind == .function && env.kindOf n == some .cell) = true then (n, NameKind.cell) else (n, k)) :: _) = _
    have hr : ((n, k) :: r).lookup x = (match x == n with | true => some k | false => r.lookup x) := List.lookup_cons ..
    rw [hr]
    by_cases hc : (k == NameKind.free && env.scope.kind == .function && env.kindOf n == some .cell) = true
    · rw [if_pos hc, List.lookup_cons]
      cases hx : x == n with
      | true =>
        have e : x = n := eq_of_beq hx
        subst e
        show some NameKind.cell = some (if (k == NameKind.free && env.scope.kind == .function && env.kindOf x == some .cell) = true then NameKind.cell else k)
        rw [if_pos hc]
      | false => exact ih
    · rw [if_neg hc, List.lookup_cons]
      cases hx : x == n with
      | true =>
        have e : x = n := eq_of_beq hx
        subst e
        show some k = some (if (k == NameKind.free && env.scope.kind == .function && env.kindOf x == some .cell) = true then NameKind.cell else k)
        rw [if_neg hc]
      | false => exact ih

/-! ### the context of a comprehension's block -/
def cxC (X : Cx) (own : List Str) (scope : Scope) (cl : List (Str × Addr)) (C : Addr) (s : Shared) (H : Hp) (fp : List Addr) : Cx :=
  { X with N := own ++ X.N, s₀ := s, H₀ := H, env := compEnvC scope cl C X.env, outer := X.stack, stack := X.stack, ex := fp, fn := fun _ => false, xe := fun _ _ => False }
/-- the tests of a clause, one after another -/
def PTs (X : Cx) (ifs : List Expr) (t : TT) : Prop :=
  ∀ (pins : List (Addr × Obj)) (s : Shared) (σ : St) (H : Hp) (Q : Bool → Hp → Prop), Inv X pins σ H s → t σ H Q →
    wpAny (model X.prog X.w) X.A (forIn ifs true fun c r => if r = true then do let ok ← isTrue c X.env (eval c X.env); pure (ForInStep.yield ok) else pure (ForInStep.yield r)) (TP X pins σ Q) X.xe s
def tAll : TT := fun _ H Q => Q true H
theorem pts_nil {X : Cx} : PTs X [] tAll := fun _ _ _ H _ I h => wpAny_tests_nil ⟨H, I, h⟩
theorem pts_one {X : Cx} {c : Expr} {t : TT} (h : PT X c t) : PTs X [c] t := fun pins s σ H Q I q => wpAny_tests_one (h pins s σ H Q I q)
/-- the slots of the one are those of the other, or forgotten there -/
def Wk : St → St → Prop
  | [], [] => True
  | _ :: r, none :: t => Wk r t
  | a :: r, some v :: t => a = some v ∧ Wk r t
  | _, _ => False
theorem Wk.len : ∀ {a b : St}, Wk a b → b.length = a.length
  | [], [], _ => rfl
  | _ :: r, none :: t, h => congrArg (· + 1) (Wk.len (a := r) (b := t) h)
  | _ :: r, some _ :: t, h => congrArg (· + 1) (Wk.len (a := r) (b := t) h.2)
  | [], none :: _, h => h.elim
  | [], some _ :: _, h => h.elim
  | _ :: _, [], h => h.elim
theorem Wk.get : ∀ {a b : St} (i : Nat) (v : V), Wk a b → b[i]? = some (some v) → a[i]? = some (some v)
  | _ :: _, none :: _, 0, v, _, e => by simp at e
  | _ :: _, some _ :: _, 0, v, h, e => by simp at e ⊢; rw [h.1, e]
  | _ :: r, none :: t, i + 1, v, h, e => by simp at e ⊢; exact Wk.get (a := r) (b := t) i v h e
  | _ :: r, some _ :: t, i + 1, v, h, e => by simp at e ⊢; exact Wk.get (a := r) (b := t) i v h.2 e
  | [], [], i, v, h, e => by simp at e
  | [], none :: _, _, _, h, _ => h.elim
  | [], some _ :: _, _, _, h, _ => h.elim
  | _ :: _, [], _, _, h, _ => h.elim
theorem Wk.refl : ∀ (a : St), Wk a a
  | [] => trivial
  | none :: r => Wk.refl r
  | some _ :: r => ⟨rfl, Wk.refl r⟩
/-- what a comprehension does with the iterator J: W is what holds ahead of turn i, with a measure and what has been made -/
def CompR (J : It) (H : Hp) (k : Nat) (g : TG) (tt : TT) (te : TE) (σ : St) (Q : VK) : Prop := ∃ W : Nat → Nat → List V → Hp → Prop, (∃ m, W 0 m [] H) ∧ ∀ i m ys H, W i m ys H →
  (J.stop i H ∧ ys.length ≤ sizeLine ∧ ∀ p, H p = none → Q (.ref p) (upd H p (.lst ys))) ∨
  (J.go i H ∧ ys.length < sizeLine ∧ ∀ x H', J.yld i H x H' → g x (List.replicate k none ++ σ) H' fun σ2 H2 => Wk σ2 (List.replicate k none ++ σ) ∧ tt σ2 H2 fun ok H3 =>
    if ok = true then te σ2 H3 fun y H4 => ∃ m', m' < m ∧ W (i + 1) m' (ys ++ [y]) H4 else ∃ m', m' < m ∧ W (i + 1) m' ys H3)
/-- [elt for tg in iter if ..] -/
def tComp (wi : TI) (g : TG) (tt : TT) (te : TE) (k : Nat) : TE := fun σ H Q => wi σ H fun J H1 => CompR J H1 k g tt te σ Q

theorem compLoop_go {prog : Program} {w : World} {A : Around} {R : Result → Shared → Prop} {s : Shared} {elt target iter : Expr} {ifs : List Expr} {scope : Scope} {pos : Pos} {it acc : Value} {env : Env} (I : Nat → Shared → Prop)
    (turn : ∀ n s, I n s → wpAny (model prog w) A (pyNext it) (fun r s₁ => match r with
      | none => R (.ok .next) s₁
      | some v => wpAny (model prog w) A (letOwnedTupleGo target it v) (fun _ s₁' => wpAny (model prog w) A (assign target env v) (fun _ s₂ =>
          wpAny (model prog w) A (forIn ifs true fun c r => if r = true then do let ok ← isTrue c env (eval c env); pure (ForInStep.yield ok) else pure (ForInStep.yield r)) (fun ok s₃ =>
            if ok = true then wpAny (model prog w) A (eval elt env) (fun x s₄ =>
              wpAny (model prog w) A (call (.builtin "list.append") [acc, x]) (fun _ s₅ => ∃ m, m < n ∧ I m s₅) (fun _ _ => False) s₄) (fun _ _ => False) s₃
            else ∃ m, m < n ∧ I m s₃) (fun _ _ => False) s₂) (fun _ _ => False) s₁') (fun _ _ => False) s₁) (fun _ _ => False) s)
    (n : Nat) (h : I n s) :
    codeAny (model prog w) A (.compLoop (.ListComp elt [⟨target, iter, ifs, 0⟩] scope pos) 0 it acc env) R s := by
  refine codeAny_loop rfl I (fun n s hI => ?_) n h
  show wpAny _ A ((compTurn (.ListComp elt [⟨target, iter, ifs, 0⟩] scope pos) 0 it acc env).onRaise (fun x => do noteFrame x env; theTreesLotGoes x)) _ _ s
  refine wpAny_noted ?_
  rw [compTurn_list]
  refine wpAny_bind (wpAny_standAt (wpAny_bind (wpAny_mono (turn n s hI) (fun r s₁ h₁ => ?_) fun _ _ h' => h'.elim)))
  cases r with
  | none => exact wpAny_pure h₁
  | some v =>
    refine wpAny_bind (wpAny_mono h₁ (fun _ s₁' h₁' => ?_) fun _ _ h' => h'.elim)
    refine wpAny_bind (wpAny_mono h₁' (fun _ s₂ h₂ => wpAny_bind (wpAny_mono h₂ (fun ok s₃ h₃ => ?_) fun _ _ h' => h'.elim)) fun _ _ h' => h'.elim)
    cases ok with
    | false => exact wpAny_pure ⟨rfl, h₃⟩
    | true =>
      exact wpAny_bind (wpAny_bind (wpAny_mono h₃ (fun x s₄ h₄ => wpAny_bind (wpAny_mono h₄ (fun _ s₅ h₅ => wpAny_pure (wpAny_pure ⟨rfl, h₅⟩)) fun _ _ h' => h'.elim)) fun _ _ h' => h'.elim))

/-- the list that is being made -/
abbrev lo (its : List Value) (n : Nat) : Obj := { cls := .type "list", data := .seq its.toArray n }

structure CompOk (X : Cx) (own : List Str) (scope : Scope) : Prop where
  calm : X.calm = true
  cell : ∀ y ∈ scope.names, y.2 ≠ .cell
  kind : scope.kind = .function
  names : ∀ y ∈ scope.names, y.2 = .local → scope.names.lookup y.1 = some .local
  fr : ∀ y ∈ scope.names, y.2 = .free → X.env.scope.names.lookup y.1 = some .cell ∨ X.env.scope.names.lookup y.1 = some .free
  loc : ∀ y ∈ X.N, scope.names.lookup y ≠ some .local

/-- the same as tests, for closed texts -/
def compT1 (names : List (Str × NameKind)) : Bool := names.all fun y => (y.2 != .cell) && (y.2 != .local || names.lookup y.1 == some .local)
def compT2 (outer names : List (Str × NameKind)) : Bool := names.all fun y => y.2 != .free || outer.lookup y.1 == some .cell || outer.lookup y.1 == some .free
def compT3 (N : List Str) (names : List (Str × NameKind)) : Bool := N.all fun y => names.lookup y != some .local
theorem CompOk.of {X : Cx} {own : List Str} {scope : Scope} (hc : X.calm = true) (hk : scope.kind = .function) (h1 : compT1 scope.names = true) (h2 : compT2 X.env.scope.names scope.names = true) (h3 : compT3 X.N scope.names = true) : CompOk X own scope := by
  unfold compT1 at h1
  unfold compT2 at h2
  unfold compT3 at h3
  rw [List.all_eq_true] at h1 h2 h3
  refine ⟨hc, fun y hy => ?_, hk, fun y hy hl => ?_, fun y hy hf => ?_, fun y hy => ?_⟩
  · have := h1 y hy
    rw [Bool.and_eq_true] at this
    exact bne_iff_ne.mp this.1
  · have := h1 y hy
    rw [Bool.and_eq_true, hl] at this
    simpa using this.2
  · have := h2 y hy
    rw [hf] at this
    simpa using this
  · exact bne_iff_ne.mp (h3 y hy)
section
variable {X : Cx} {own : List Str} {scope : Scope} {pins : List (Addr × Obj)} {σ : St} {H : Hp} {s : Shared} {fp : List Addr}

theorem CompOk.cells (O : CompOk X own scope) (ok : X.Ok) : ∀ x ∈ scope.names, x.2 = .free → ∃ c, X.env.cells.lookup x.1 = some c := fun x hx hk => ok.has x.1 (O.fr x hx hk)
theorem CompOk.sub (O : CompOk X own scope) (ok : X.Ok) : ∀ x c, (closL X.env scope.names).lookup x = some c → X.env.cells.lookup x = some c := fun x c e =>
  closL_mem scope.names [] (O.cells ok) (fun _ h => nomatch h) (x, c) (PySem.mem_of_lookup e)
theorem CompOk.free_of (O : CompOk X own scope) {cl : List (Str × Addr)} {C : Addr} {x : Str} (h : (compEnvC scope cl C X.env).kindOf x = some .cell ∨ (compEnvC scope cl C X.env).kindOf x = some .free) : scope.names.lookup x = some .free := by
  have e : (compEnvC scope cl C X.env).kindOf x = (scope.names.lookup x).map fun k => if (k == NameKind.free && X.env.scope.kind == .function && X.env.kindOf x == some .cell) then NameKind.cell else k := lookup_relabel X.env scope.names x
  rw [e] at h
  cases q : scope.names.lookup x with
  | none => rw [q] at h; simp at h
  | some k =>
    rw [q] at h
    by_cases hk : k = .free
    · rw [hk]
    · have hc : k ≠ .cell := O.cell (x, k) (PySem.mem_of_lookup q)
      have hb : (k == NameKind.free) = false := by simpa using hk
      have hr : ¬ ((k == NameKind.free && X.env.scope.kind == .function && X.env.kindOf x == some .cell) = true) := by rw [hb]; exact Bool.false_ne_true
      have h : some (if (k == NameKind.free && X.env.scope.kind == .function && X.env.kindOf x == some .cell) = true then NameKind.cell else k) = some NameKind.cell ∨ some (if (k == NameKind.free && X.env.scope.kind == .function && X.env.kindOf x == some .cell) = true then NameKind.cell else k) = some NameKind.free := h
      rw [if_neg hr] at h
      rcases h with h | h
      · exact absurd (Option.some.inj h) hc
      · exact absurd (Option.some.inj h) hk
theorem CompOk.look (O : CompOk X own scope) (ok : X.Ok) {x : Str} (h : scope.names.lookup x = some .free) : ∃ c, (closL X.env scope.names).lookup x = some c ∧ X.env.cells.lookup x = some c := by
  obtain ⟨c, hc⟩ := closL_has scope.names [] (env := X.env) x (PySem.mem_of_lookup h)
  obtain ⟨d, hd⟩ := lookup_of_mem hc
  exact ⟨d, hd, O.sub ok x d hd⟩
theorem stk_of (I : Inv X pins σ H s) {b : Addr} (h1 : b ≠ X.env.locals) (h2 : b ∉ X.fs) : b ∉ frs X.stack := fun z => (List.mem_cons.mp (I.stkSub b z)).elim h1 h2

theorem comp_inv (O : CompOk X own scope) (I : Inv X pins σ H s) (hf : ∀ b ∈ fp, FpOk X pins H b) (ho : ∀ b ∈ fp, ∃ o, s.heap.get? b = some o) {h₁ : Heap} {C : Addr} {tk : Nat} {m : Str → Option Value}
    (hC : s.heap.objs.size < C) (hD : h₁.get? s.heap.objs.size = some (lo [] 0)) (old : ∀ b o, s.heap.get? b = some o → h₁.get? b = some o) (hns : h₁.Ns C m) :
    Inv (cxC X own scope (closL X.env scope.names) C s H fp) (pins ++ [(s.heap.objs.size, lo [] 0)]) (List.replicate own.length none ++ σ) H { s with heap := h₁, toks := tk } := by
  have ltD : ∀ {b : Addr} {o : Obj}, s.heap.get? b = some o → b < s.heap.objs.size := fun e => Heap.lt_size e
  have nC : ∀ {b : Addr} {o : Obj}, s.heap.get? b = some o → b ≠ C := fun e => Nat.ne_of_lt (Nat.lt_trans (ltD e) hC)
  have hsub := O.sub I.ok
  refine ⟨⟨I.ok.mod, by show (relabel scope X.env).kind = _; exact O.kind, I.ok.glob, I.ok.blt, Nat.le_of_lt hC, fun x y c h1 h2 => I.ok.inj x y c (hsub x c h1) (hsub y c h2), fun x hx => ?_, fun x c hx _ => absurd (show false = true from hx) Bool.false_ne_true, I.ok.hd, I.ok.frames, .inl rfl, fun b hb => ⟨?_, fun x c e => ?_⟩, I.bs, Nat.le_trans I.ok.bsz I.sz, fun b o e hb => ?_, fun b hb => stk_of I (hf b hb).2.1 (hf b hb).2.2.1, I.stack, I.stkFree⟩,
    rfl, I.bare, Un.kept old, ⟨m, hns, fun i x v e1 e2 e3 => ?_⟩, fun x c e => ?_, I.hok.fresh (Nat.le_of_lt hC), fun x c e => I.freeC x c (hsub x c e), fun p hp => ?_, I.hok.kept old, ?_⟩
  · obtain ⟨c, hc, _⟩ := O.look I.ok (O.free_of hx)
    exact ⟨c, hc⟩
  · obtain ⟨o, e⟩ := ho b hb
    exact nC e
  · exact (hf b hb).2.2.2.2.1 x c (hsub x c e)
  · rcases (hf b hb).2.2.2.1 with z | z
    · exact I.ok.noex b o e z
    · exact absurd (Nat.lt_of_lt_of_le (Heap.lt_size e) (Nat.le_trans I.ok.bsz z)) (Nat.lt_irrefl _)
  · have e1 : (own ++ X.N)[i]? = some x := e1
    by_cases hi : i < own.length
    · rw [List.getElem?_append_left (by simpa using hi), List.getElem?_replicate, if_pos hi] at e2
      cases e2
    · rw [List.getElem?_append_right (by simpa using hi), List.length_replicate] at e2
      rw [List.getElem?_append_right (by simpa using hi)] at e1
      have nl : (compEnvC scope (closL X.env scope.names) C X.env).kindOf x ≠ some .local := by
        have e : (compEnvC scope (closL X.env scope.names) C X.env).kindOf x = (scope.names.lookup x).map fun k => if (k == NameKind.free && X.env.scope.kind == .function && X.env.kindOf x == some .cell) then NameKind.cell else k := lookup_relabel X.env scope.names x
        rw [e]
        intro z
        cases q : scope.names.lookup x with
        | none => rw [q] at z; simp at z
        | some k =>
          rw [q] at z
          by_cases hk : k = .local
          · exact O.loc x (List.mem_of_getElem? e1) (by rw [q, hk])
          · have z : some (if (k == NameKind.free && X.env.scope.kind == .function && X.env.kindOf x == some .cell) = true then NameKind.cell else k) = some NameKind.local := z
            by_cases hc : (k == NameKind.free && X.env.scope.kind == .function && X.env.kindOf x == some .cell) = true
            · rw [if_pos hc] at z
              cases z
            · rw [if_neg hc] at z
              exact hk (Option.some.inj z)
      have hv : (compEnvC scope (closL X.env scope.names) C X.env).kindOf x = some .cell ∨ (compEnvC scope (closL X.env scope.names) C X.env).kindOf x = some .free := by
        rcases e3 with z | z | z
        · exact absurd z nl
        · exact .inl z
        · exact .inr z
      have hfree := O.free_of hv
      have hout := O.fr (x, .free) (PySem.mem_of_lookup hfree) rfl
      obtain ⟨m0, hn0, hl0⟩ := I.loc
      obtain ⟨u, r, l⟩ := hl0 _ x v e1 e2 (hout.elim (fun z => .inr (.inl z)) fun z => .inr (.inr z))
      refine ⟨u, r, .inr ⟨hv, ?_⟩⟩
      rcases l with ⟨k, _⟩ | ⟨_, c, ec, z⟩
      · have k' : X.env.scope.names.lookup x = some .local := k
        rcases hout with q | q
        · rw [q] at k'; cases k'
        · rw [q] at k'; cases k'
      · obtain ⟨d, hd1, hd2⟩ := O.look I.ok hfree
        rw [ec] at hd2
        cases hd2
        obtain ⟨oc, hoc, hdc⟩ := z
        exact ⟨c, hd1, oc, old _ _ hoc, hdc⟩
  · obtain ⟨v, o, hoc, hdc⟩ := I.cell x c (hsub x c e)
    exact ⟨v, o, old _ _ hoc, hdc⟩
  · have hp : p ∈ X.pn ++ (pins ++ [(s.heap.objs.size, lo [] 0)]) := hp
    rw [← List.append_assoc] at hp
    rcases List.mem_append.mp hp with hp | hp
    · obtain ⟨e, n, ne, nf, d⟩ := I.pin p hp
      exact ⟨old _ _ e, n, nC e, stk_of I ne nf, d⟩
    · cases List.mem_singleton.mp hp
      refine ⟨hD, I.hok.fresh (Nat.le_refl _), Nat.ne_of_lt hC, fun z => ?_, fun v z => by cases z⟩
      have z := I.stkSub _ z
      rcases List.mem_cons.mp z with z | z
      · exact absurd z (Nat.ne_of_gt I.lt)
      · exact I.nofs (Nat.le_refl _) z
  · show (List.replicate own.length none ++ σ).length = (own ++ X.N).length
    rw [List.length_append, List.length_append, List.length_replicate, I.len]

theorem comp_exit {cl : List (Str × Addr)} {C : Addr} {its : List Value} {n : Nat} {σ' : St} {H' : Hp} {s' : Shared} {ys : List V} {h' : Heap} (I : Inv X pins σ H s) (hf : ∀ b ∈ fp, FpOk X pins H b) (hC : s.heap.objs.size < C)
    (I' : Inv (cxC X own scope cl C s H fp) (pins ++ [(s.heap.objs.size, lo its n)]) σ' H' s') (hv : Vals ys its) (hz : ys.length ≤ sizeLine) (hs : Heap.SameBut C s'.heap h') :
    Inv X pins σ (upd H' s.heap.objs.size (.lst ys)) { s' with heap := h' } := by
  obtain ⟨eD, nD, neD, _, _⟩ := I'.pin (s.heap.objs.size, lo its n) (List.mem_append_right _ (List.mem_append_right _ List.mem_cons_self))
  have nC : ∀ {b : Addr} {o : Obj}, s.heap.get? b = some o → b ≠ C := fun e => Nat.ne_of_lt (Nat.lt_trans (Heap.lt_size e) hC)
  have nDD : ∀ {b : Addr} {o : Obj}, s.heap.get? b = some o → b ≠ s.heap.objs.size := fun e => Nat.ne_of_lt (Heap.lt_size e)
  have same : ∀ {b : Addr} {o : Obj}, b ≠ C → s'.heap.get? b = some o → h'.get? b = some o := fun hb e => (hs.2 _ hb).trans e
  have fC : H' C = none := I'.free
  have hb : Un (frs X.stack) fp H H' s.heap s'.heap := I'.base
  have hot : ∀ {b : Addr} {u : HO}, H b = some u → b ≠ s.heap.objs.size := fun e => Nat.ne_of_lt (I.hok.lt e)
  refine I.call' (s' := { s' with heap := h' }) (ch := fp) I'.os ⟨fun b o e q n1 n2 => same (nC e) (hb.keep b o e q n1 n2), fun b o e q n1 n2 => ?_, fun b o e q n2 => ?_, fun b o e n2 => ?_, fun b xs e => ?_, fun b o u e => ?_, fun b ps e => ?_⟩ ?_ I'.bare fun b hb' => ?_
  · obtain ⟨sl, q2⟩ := hb.slot b o e q n1 n2
    exact ⟨sl, same (nC e) q2⟩
  · rw [upd_ne (nDD e)]
    exact hb.free b o e q n2
  · obtain ⟨o', q2⟩ := hb.there b o e n2
    exact ⟨o', same (nC e) q2⟩
  · rw [upd_ne (hot e)]
    exact hb.tups b xs e
  · rw [upd_ne (hot e)]
    exact hb.frzs b o u e
  · obtain ⟨more, q2⟩ := hb.tbls b ps e
    exact ⟨more, by rw [upd_ne (hot e)]; exact q2⟩
  · intro b u e
    by_cases hbD : b = s.heap.objs.size
    · subst hbD
      rw [upd_same] at e
      cases e
      exact ⟨hz, its, n, hv, same neD eD⟩
    · rw [upd_ne hbD] at e
      have nD' : ∀ {c : Addr} {w : HO}, H' c = some w → c ≠ s.heap.objs.size := fun q z => by
        rw [z] at q
        have z2 : H' s.heap.objs.size = none := nD
        rw [z2] at q
        cases q
      refine (I'.hok b u e).stay (fun c v hc q => same ?_ q) (fun c q => by rw [upd_ne (nD' q)]; exact q) fun c xs q => by rw [upd_ne (nD' q)]; exact q
      rintro rfl
      rcases hc with z | z
      · rw [← z, fC] at e; cases e
      · rw [fC] at z; cases z
  · obtain ⟨_, f1, _, f3, f4, f5⟩ := hf b hb'
    exact ⟨f3, f1, f4, f5⟩

theorem append_at' {prog : Program} {w : World} {A : Around} {E : Value → Shared → Prop} {s : Shared} {l : Addr} {its : List Value} {n : Nat} {u : Value} {Q : Value → Shared → Prop} (e : s.heap.get? l = some (lo its n)) (hz : its.length ≤ sizeLine)
    (h : Q .none { s with heap := s.heap.update l (Obj.mapSeq (·.push u)) }) : wpAny (model prog w) A (call (.builtin "list.append") [.ref l, u]) Q E s :=
  call_meets F.slot_list_append ⟨_, e, rfl⟩ F.entry_list_append (F.args_list_append_2 _ _) (PySem.list_append l its.toArray n u (by rw [List.size_toArray]; omega)) ⟨e, h⟩

/-- what a comprehension comes to, used at once (use) or handed on -/
theorem comp_core {tg iter elt : Expr} {ifs : List Expr} {pos pos0 : Pos} {wi : TI} {g : TG} {tt : TT} {te : TE} {use : Option (Value → Sem Unit)} {Qp : Value → Shared → Prop} (O : CompOk X own scope) (hi : PI X tg iter wi)
    (hg : ∀ cl C s H fp, PG (cxC X own scope cl C s H fp) tg g) (ht : ∀ cl C s H fp, PTs (cxC X own scope cl C s H fp) ifs tt) (he : ∀ cl C s H fp, PE (cxC X own scope cl C s H fp) elt te)
    (hs : ∀ x, foldedSetIterable iter X.env x = pure x) {pins : List (Addr × Obj)} {s : Shared} {σ : St} {H : Hp} {Q : VK} (I : Inv X pins σ H s) (h : tComp wi g tt te own.length σ H Q)
    (fin : ∀ (s2 : Shared) (H2 : Hp) (fp : List Addr) (C : Addr) (cl : List (Str × Addr)) (its : List Value) (nn : Nat) (σ' : St) (H' : Hp) (s5 : Shared) (ys : List V), Inv X pins σ H2 s2 → (∀ b ∈ fp, FpOk X pins H2 b) → s2.heap.objs.size < C →
      Inv (cxC X own scope cl C s2 H2 fp) (pins ++ [(s2.heap.objs.size, lo its nn)]) σ' H' s5 → Vals ys its → ys.length ≤ sizeLine → (∀ p, H' p = none → Q (.ref p) (upd H' p (.lst ys))) →
      compPost (model X.prog X.w) X.A X.xe use Qp (.ref s2.heap.objs.size) C (.ok .next) s5) :
    wpAny (model X.prog X.w) X.A (comprehension (.ListComp elt [⟨tg, iter, ifs, 0⟩] scope pos) scope X.env pos0 (newList []) false (eval iter X.env) use) Qp X.xe s := by
  refine wpAny_comprehension_free (use := use) rfl hs (closureFor_eq (O.cells I.ok)) O.kind O.names (thn (hi pins s σ H _ I h) fun v s1 h1 => thn h1 fun itv s2 h2 => ?_)
  obtain ⟨it, fp, tn, J, H2, rfl, I2, T, st2, f2, W, ⟨m0, w0⟩, turn⟩ := h2
  refine wpAny_newObj_type (wpAny_newFunctionEnv O.cell (by intro y hy; simp at hy) (fun h₁ hns₁ hsb₁ => ?_) O.kind)
  dsimp only at hns₁ hsb₁ ⊢
  generalize hH2 : s2.heap.push { cls := .type "list", dict := none, data := .seq ([] : List Value).toArray } = Hh at hns₁ hsb₁ ⊢
  have hCs : Hh.objs.size = s2.heap.objs.size + 1 := by rw [← hH2, Heap.size_push]
  have hC : s2.heap.objs.size < Hh.objs.size := by rw [hCs]; exact Nat.lt_succ_self _
  have old : ∀ b o, s2.heap.get? b = some o → h₁.get? b = some o := fun b o e => hsb₁.extBut b o (Nat.ne_of_lt (Nat.lt_trans (Heap.lt_size e) hC)) (Heap.get?_push_of_some _ (hH2 ▸ Heap.get?_push_of_some _ e))
  have hacc : h₁.get? s2.heap.objs.size = some (lo [] 0) := hsb₁.extBut _ _ (Nat.ne_of_lt hC) (Heap.get?_push_of_some _ (hH2 ▸ Heap.get?_push_size _ rfl))
  have hob : ∀ b ∈ fp, ∃ o, s2.heap.get? b = some o := fun b hb => let ⟨o, e, _⟩ := T.obj _ _ st2 b hb; ⟨o, e⟩
  have st3 : tn 0 h₁ := T.keep _ _ _ st2 fun b _ o e => old b o e
  have pinlt : ∀ p ∈ X.pn ++ pins, p.1 < s2.heap.objs.size := fun p hp => Heap.lt_size (I2.pin p hp).1
  have loop : ∀ s₃ : Shared, s₃ = { s2 with heap := h₁, toks := s2.toks + ([] : List (Str × Value)).length } →
      codeAny (model X.prog X.w) X.A (.compLoop (.ListComp elt [⟨tg, iter, ifs, 0⟩] scope pos) 0 (.ref it) (.ref s2.heap.objs.size) (compEnvC scope (closL X.env scope.names) Hh.objs.size X.env))
        (compPost (model X.prog X.w) X.A X.xe use Qp (.ref s2.heap.objs.size) Hh.objs.size) s₃ := by
    rintro s₃ rfl
    have I3 := comp_inv (tk := s2.toks + ([] : List (Str × Value)).length) O I2 f2 hob hC hacc old hns₁
    have stat : ∀ {o : Obj} {H' : Hp}, (∀ b ∈ fp, H' b = none) → ∀ b ∈ fp, FpOk (cxC X own scope (closL X.env scope.names) Hh.objs.size s2 H2 fp) (pins ++ [(s2.heap.objs.size, o)]) H' b := fun {o H'} hn b hb => by
      obtain ⟨o', eo⟩ := hob b hb
      refine ⟨hn b hb, Nat.ne_of_lt (Nat.lt_trans (Heap.lt_size eo) hC), stk_of I2 (f2 b hb).2.1 (f2 b hb).2.2.1, .inl hb, fun x c e => (f2 b hb).2.2.2.2.1 x c (O.sub I2.ok x c e), fun p hp => ?_⟩
      have hp : p ∈ X.pn ++ (pins ++ [(s2.heap.objs.size, o)]) := hp
      rw [← List.append_assoc] at hp
      rcases List.mem_append.mp hp with hp | hp
      · exact (f2 b hb).2.2.2.2.2 p hp
      · cases List.mem_singleton.mp hp
        exact Nat.ne_of_gt (Heap.lt_size eo)
    refine compLoop_go (fun n s' => ∃ i ys its nn σ' H', Inv (cxC X own scope (closL X.env scope.names) Hh.objs.size s2 H2 fp) (pins ++ [(s2.heap.objs.size, lo its nn)]) σ' H' s' ∧ Wk σ' (List.replicate own.length none ++ σ) ∧ tn i s'.heap ∧ (∀ b ∈ fp, H' b = none) ∧ Vals ys its ∧ W i n ys H')
      ?_ m0 ⟨0, [], [], 0, _, H2, I3, Wk.refl _, st3, fun b hb => (f2 b hb).1, .nil, w0⟩
    rintro n s4 ⟨i, ys, its, nn, σ4, H4, I4', wk4, st4, fr4, vs4, w4⟩
    have I4 := I4'.weak (σ' := List.replicate own.length none ++ σ) wk4.len (fun i v => wk4.get i v)
    rcases turn i n ys H4 w4 with ⟨stop, hz, qn⟩ | ⟨go, hz, step⟩
    · refine thn (T.done (cxC X own scope (closL X.env scope.names) Hh.objs.size s2 H2 fp) rfl rfl rfl O.calm i _ s4 _ H4 (fun _ _ => False) I4 (stat fr4) st4 stop) fun r s5 ⟨hr, I5⟩ => ?_
      subst hr
      exact fin s2 H2 fp Hh.objs.size _ its nn _ H4 s5 ys I2 f2 hC I5 vs4 hz qn
    · refine thn (T.item (cxC X own scope (closL X.env scope.names) Hh.objs.size s2 H2 fp) rfl rfl rfl O.calm i _ s4 _ H4 (fun _ _ => False) I4 (stat fr4) st4 go) fun r s5 ⟨u, hr, h5⟩ => ?_
      subst hr
      refine thn h5 fun _ s6 ⟨x, H6, I6, r6, y6, st6, fr6⟩ => ?_
      have I6' := I6.pinned (stat fr6) (T.obj _ _ st6)
      refine thn (hg _ _ _ _ _ _ s6 _ H6 x u _ I6' r6 (step x H6 y6)) fun _ s7 ⟨σ7, H7, I7, wk7, q7⟩ => ?_
      refine thn (ht _ _ _ _ _ _ s7 σ7 H7 _ I7 q7) fun ok s8 ⟨H8, I8, q8⟩ => ?_
      have again : ∀ {σ9 : St} {H9 : Hp} {s9 : Shared}, Inv (cxC X own scope (closL X.env scope.names) Hh.objs.size s2 H2 fp) ((pins ++ [(s2.heap.objs.size, lo its nn)]) ++ pinsAt fp s6.heap) σ9 H9 s9 → tn (i + 1) s9.heap ∧ ∀ b ∈ fp, H9 b = none := fun {σ9 H9 s9} I9 =>
        ⟨T.keep _ _ _ st6 fun b hb o e => (I9.pin (b, o) (List.mem_append_right _ (List.mem_append_right _ (mem_pinsAt hb e)))).1, fun b hb => by
          obtain ⟨o, e, d⟩ := T.obj _ _ st6 b hb
          exact (I9.pin (b, o) (List.mem_append_right _ (List.mem_append_right _ (mem_pinsAt hb e)))).2.1⟩
      cases ok with
      | false =>
        rw [if_neg Bool.false_ne_true] at q8 ⊢
        obtain ⟨m', hm, w8⟩ := q8
        obtain ⟨a1, a2⟩ := again I8
        exact ⟨m', hm, i + 1, ys, its, nn, σ7, H8, I8.unpinned, wk7, a1, a2, vs4, w8⟩
      | true =>
        rw [if_pos rfl] at q8 ⊢
        refine thn (he _ _ _ _ _ _ s8 σ7 H8 _ I8 q8) fun yv s9 ⟨y, H9, I9, r9, m', hm, w9⟩ => ?_
        obtain ⟨a1, a2⟩ := again I9
        obtain ⟨eD, nD, neD, nfD, _⟩ := I9.pin (s2.heap.objs.size, lo its nn) (List.mem_append_right _ (List.mem_append_left _ (List.mem_append_right _ List.mem_cons_self)))
        have hlen := vs4.length
        refine append_at' eD (by omega) ?_
        have upd9 := PySem.IsL.update (l := s2.heap.objs.size) eD (·.push yv)
        have uother : ∀ b o, b ≠ s2.heap.objs.size → s9.heap.get? b = some o → (s9.heap.update s2.heap.objs.size (Obj.mapSeq (·.push yv))).get? b = some o := fun b o hb e => (Heap.get?_update_other s9.heap (Obj.mapSeq (·.push yv)) (Ne.symm hb)).trans e
        have I9a : Inv (cxC X own scope (closL X.env scope.names) Hh.objs.size s2 H2 fp) pins σ7 H9 s9 := I9.unpinned.unpinned
        have I9b : Inv (cxC X own scope (closL X.env scope.names) Hh.objs.size s2 H2 fp) pins σ7 H9 { s9 with heap := s9.heap.update s2.heap.objs.size (Obj.mapSeq (·.push yv)) } :=
          I9a.turned (t' := s9.toks) uother nD neD (.inr (Nat.le_refl _)) (fun x c e z => by
            obtain ⟨v, o, hoc, _⟩ := I2.cell x c (O.sub I2.ok x c e)
            exact absurd z (Nat.ne_of_lt (Heap.lt_size hoc))) fun p hp => Nat.ne_of_lt (pinlt p hp)
        have e2 : (its.toArray.push yv) = (its ++ [yv]).toArray := by simp
        have upd9' : ∃ n2, (s9.heap.update s2.heap.objs.size (Obj.mapSeq (·.push yv))).get? s2.heap.objs.size = some (lo (its ++ [yv]) n2) := ⟨_, by rw [upd9, e2]⟩
        obtain ⟨n2, upd9'⟩ := upd9'
        have I9c := I9b.pins_of (pins' := pins ++ [(s2.heap.objs.size, lo (its ++ [yv]) n2)]) fun p hp => by
          rcases List.mem_append.mp hp with hp | hp
          · exact I9b.pin p (List.mem_append_right _ hp)
          · cases List.mem_singleton.mp hp
            exact ⟨upd9', nD, neD, nfD, fun v z => by cases z⟩
        refine ⟨m', hm, i + 1, ys ++ [y], its ++ [yv], n2, σ7, H9, I9c, wk7, T.keep _ _ _ a1 fun b hb o e => uother b o ?_ e, a2, vs4.append (.cons r9 .nil), w9⟩
        obtain ⟨o', eo⟩ := hob b hb
        exact Nat.ne_of_lt (Heap.lt_size eo)
  exact codeAny_compStart_list (loop _ rfl) (T.self _ 0 _ _ _ st3 (loop _ rfl))
theorem pe_comp {tg iter elt : Expr} {ifs : List Expr} {pos : Pos} {wi : TI} {g : TG} {tt : TT} {te : TE} (O : CompOk X own scope) (hi : PI X tg iter wi)
    (hg : ∀ cl C s H fp, PG (cxC X own scope cl C s H fp) tg g) (ht : ∀ cl C s H fp, PTs (cxC X own scope cl C s H fp) ifs tt) (he : ∀ cl C s H fp, PE (cxC X own scope cl C s H fp) elt te)
    (hs : ∀ x, foldedSetIterable iter X.env x = pure x := by intro _; rfl) :
    PE X (.ListComp elt [⟨tg, iter, ifs, 0⟩] scope pos) (tComp wi g tt te own.length) := by
  intro pins s σ H Q I h
  rw [eval_ListComp]
  refine comp_core O hi hg ht he hs I h fun s2 H2 fp C cl its nn σ' H' s5 ys I2 f2 hC I5 vs hz qn => ?_
  obtain ⟨mm, hnm, _⟩ := I5.loc
  exact ⟨mm, hnm, fun h' hs' => ⟨.ref s2.heap.objs.size, _, comp_exit I2 f2 hC I5 vs hz hs', rfl, qn _ (I5.pin (s2.heap.objs.size, lo its nn) (List.mem_append_right _ (List.mem_append_right _ List.mem_cons_self))).2.1⟩⟩
/-- x = [elt for ..], x a plain local name -/
theorem ps_setC {i : Nat} {x : Str} {tg iter elt : Expr} {ifs : List Expr} {pos pos' cpos : Pos} {wi : TI} {g : TG} {tt : TT} {te : TE} (hN : X.N.Nodup) (hix : X.N[i]? = some x) (hl : X.env.scope.names.lookup x = some .local) (O : CompOk X own scope) (hi : PI X tg iter wi)
    (hg : ∀ cl C s H fp, PG (cxC X own scope cl C s H fp) tg g) (ht : ∀ cl C s H fp, PTs (cxC X own scope cl C s H fp) ifs tt) (he : ∀ cl C s H fp, PE (cxC X own scope cl C s H fp) elt te)
    (hs : ∀ x, foldedSetIterable iter X.env x = pure x := by intro _; rfl) (hsw : swapsWith (.ListComp elt [⟨tg, iter, ifs, 0⟩] scope cpos) (some (.Name x pos')) pos.line X.env = pure true := by rfl) :
    PS X (.Assign [.Name x pos'] (.ListComp elt [⟨tg, iter, ifs, 0⟩] scope cpos) pos) (tAsg (tComp wi g tt te own.length) (gName i)) := by
  intro pins s σ H D I h
  rw [exec_Assign_Name_used _ _ _ _ hsw]
  refine wpAny_bind (wpAny_standAt (wpAny_bind (m := evalThenUse _ X.env _) ?_))
  show wpAny _ _ (comprehension (.ListComp elt [⟨tg, iter, ifs, 0⟩] scope cpos) scope X.env _ (newList []) false (eval iter X.env) (some (assign (.Name x pos') X.env)) >>= fun _ => _) _ _ s
  refine wpAny_bind (thn (comp_core (Qp := fun _ s' => SP X pins D .next s') O hi hg ht he hs I h fun s2 H2 fp C cl its nn σ' H' s5 ys I2 f2 hC I5 vs hz qn => ?_) fun _ s' hq => wpAny_pure (wpAny_pure hq))
  have Ix : Inv X pins σ (upd H' s2.heap.objs.size (.lst ys)) s5 := comp_exit I2 f2 hC I5 vs hz (Heap.SameBut.refl _ _)
  obtain ⟨mm, hnm, _⟩ := I5.loc
  have fC : H' C = none := I5.free
  have nCD : C ≠ s2.heap.objs.size := Nat.ne_of_gt hC
  refine wpAny_assign_Name (store_ok2 (v := .ref s2.heap.objs.size) Ix hN hix (.inl hl) rfl (fun s6 I6 sb => ?_) (.inr hl))
  obtain ⟨a, sb, ha⟩ := sb
  have nLC : X.env.locals ≠ C := Nat.ne_of_lt (Nat.lt_trans I2.lt hC)
  have cC : ∀ y c, X.env.cells.lookup y = some c → c ≠ C := fun y c e => by
    obtain ⟨v, o, ho, _⟩ := I2.cell y c e
    exact Nat.ne_of_lt (Nat.lt_trans (Heap.lt_size ho) hC)
  have naC : C ≠ a := by
    rcases ha with rfl | ha
    · exact Ne.symm nLC
    · exact Ne.symm (cC x a ha)
  refine ⟨mm, hnm.sameBut sb naC, fun h' hs' => ⟨_, _, I6.turned (t' := s6.toks) (fun b o hb e => (hs'.2 b hb).trans e) (by rw [upd_ne nCD]; exact fC) (Ne.symm nLC) (.inr (Nat.le_trans I2.sz (Nat.le_of_lt hC))) cC (fun p hp => Nat.ne_of_lt (Nat.lt_trans (Heap.lt_size (I2.pin p hp).1) hC)), qn _ (I5.pin (s2.heap.objs.size, lo its nn) (List.mem_append_right _ (List.mem_append_right _ List.mem_cons_self))).2.1⟩⟩
end
/-! ### rules with the module's part named, for a comprehension's block -/
section
variable {X : Cx} {pos : Pos}
theorem pg_tupK (K : PySem.W.Frag) (n : Nat) {es : List Expr} {k : Nat} {t : TGs} (hK : X.K = K) (hc : X.calm = true) (h : PGs X es t)
    (hn : (assignEach es X.env).length = n := by rfl) (hst : (assignEach es X.env).findIdx? (·.1) = none := by rfl) : PG X (.Tuple es k pos) (gTup K n t) := by
  subst hK
  exact pg_tup hc h hn hst
theorem ix_tupK (K : PySem.W.Frag) (hK : X.K = K) : IxR X (rIxT K) := by subst hK; exact ix_tup
end
end L2

namespace L2
open PySem PySem.Spec PyProof.Rows

/-! ### data in the abstract heap -/
mutual
inductive DV (H : Hp) : V → PyData → Prop
  | non : DV H .non .none
  | bl (b : Bool) : DV H (.bl b) (.bool b)
  | int (i : Int) : DV H (.int i) (.int i)
  | str (x : Str) : DV H (.str x) (.str x)
  | lst {a : Addr} {xs : List V} {ds : List PyData} : H a = some (.lst xs) → DVs H xs ds → DV H (.ref a) (.list ds)
  | tup {a : Addr} {xs : List V} {ds : List PyData} : H a = some (.tup xs) → DVs H xs ds → DV H (.ref a) (.tuple ds)
inductive DVs (H : Hp) : List V → List PyData → Prop
  | nil : DVs H [] []
  | cons {v : V} {vs : List V} {d : PyData} {ds : List PyData} : DV H v d → DVs H vs ds → DVs H (v :: vs) (d :: ds)
end
mutual
theorem DV.mono {H H' : Hp} (g : Same H H') : ∀ {v : V} {d : PyData}, DV H v d → DV H' v d
  | _, _, .non => .non
  | _, _, .bl b => .bl b
  | _, _, .int i => .int i
  | _, _, .str x => .str x
  | _, _, .lst e r => .lst (g _ _ e) (DVs.mono g r)
  | _, _, .tup e r => .tup (g _ _ e) (DVs.mono g r)
theorem DVs.mono {H H' : Hp} (g : Same H H') : ∀ {vs : List V} {ds : List PyData}, DVs H vs ds → DVs H' vs ds
  | _, _, .nil => .nil
  | _, _, .cons h r => .cons (DV.mono g h) (DVs.mono g r)
end
theorem DVs.length {H : Hp} : ∀ {vs : List V} {ds : List PyData}, DVs H vs ds → vs.length = ds.length
  | _, _, .nil => rfl
  | _, _, .cons _ r => congrArg (· + 1) r.length
theorem DVs.append {H : Hp} : ∀ {vs ws : List V} {ds es : List PyData}, DVs H vs ds → DVs H ws es → DVs H (vs ++ ws) (ds ++ es)
  | _, _, _, _, .nil, s => s
  | _, _, _, _, .cons h r, s => .cons h (DVs.append r s)
theorem DVs.get {H : Hp} : ∀ {vs : List V} {ds : List PyData} {i : Nat} {d : PyData}, DVs H vs ds → ds[i]? = some d → ∃ v, vs[i]? = some v ∧ DV H v d
  | _, _, _, _, .nil, e => by simp at e
  | _, _, 0, _, .cons h _, e => by simp at e; subst e; exact ⟨_, rfl, h⟩
  | _, _, i + 1, d, .cons _ r, e => by
    obtain ⟨v, h1, h2⟩ := DVs.get (i := i) (d := d) r (by simpa using e)
    exact ⟨v, by simpa using h1, h2⟩
section
variable {X : Cx} {pins : List (Addr × Obj)} {σ : St} {H : Hp} {s : Shared}
mutual
theorem DV.reads (I : Inv X pins σ H s) : ∀ {v : V} {d : PyData} {u : Value}, DV H v d → RelV v u → ∃ as, Reads s.heap u d as
  | _, _, _, .non, r => by cases r; exact ⟨_, Reads.none⟩
  | _, _, _, .bl b, r => by cases r; exact ⟨_, Reads.bool b⟩
  | _, _, _, .int i, r => by obtain ⟨t, rfl⟩ := r; exact ⟨_, Reads.int i t⟩
  | _, _, _, .str x, r => by obtain ⟨t, rfl⟩ := r; exact ⟨_, Reads.str x t⟩
  | _, _, _, .lst e q, r => by
    cases r
    obtain ⟨its, n, rv, ho, _⟩ := I.lst e
    obtain ⟨as, p⟩ := DVs.reads I q rv
    exact ⟨_, reads_list_at ho rfl rfl (by simpa using p)⟩
  | _, _, _, .tup e q, r => by
    cases r
    obtain ⟨its, rv, ⟨o, ho, hc, n, hd⟩, _⟩ := I.tuple (SqT.of e)
    obtain ⟨as, p⟩ := DVs.reads I q rv
    exact ⟨_, reads_tuple_at ho hc hd (by simpa using p)⟩
theorem DVs.reads (I : Inv X pins σ H s) : ∀ {vs : List V} {ds : List PyData} {us : List Value}, DVs H vs ds → Vals vs us → ∃ as, ReadsAll s.heap us ds as
  | _, _, _, .nil, r => by cases r; exact ⟨_, ReadsAll.nil⟩
  | _, _, _, .cons h t, r => by
    cases r with
    | cons r1 r2 =>
      obtain ⟨as, p⟩ := DV.reads I h r1
      obtain ⟨bs, q⟩ := DVs.reads I t r2
      exact ⟨_, ReadsAll.cons p q⟩
end
end
/-- == and != of data -/
def rEqD : R2 := fun x y H Q => ∃ d e, DV H x d ∧ DV H y e ∧ SeqAt.shaped d = true ∧ SeqAt.shaped e = true ∧ Q (.bl (PyData.eqv d e)) H
def rNeD : R2 := fun x y H Q => ∃ d e, DV H x d ∧ DV H y e ∧ SeqAt.shaped d = true ∧ SeqAt.shaped e = true ∧ Q (.bl (!PyData.eqv d e)) H
section
variable {X : Cx}
theorem op_eqD (hu : X.A.units + 64 < cLine) : OpR X (compareOp .Eq) rEqD := by
  intro pins s σ H x y v u Q I rx ry h
  obtain ⟨d, e, h1, h2, s1, s2, q⟩ := h
  obtain ⟨as, p1⟩ := h1.reads I rx
  obtain ⟨bs, p2⟩ := h2.reads I ry
  exact eq_dataH p1 p2 s1 s2 hu ⟨.bl _, H, I, rfl, q⟩
theorem op_neD (hu : X.A.units + 64 < cLine) : OpR X (compareOp .NotEq) rNeD := by
  intro pins s σ H x y v u Q I rx ry h
  obtain ⟨d, e, h1, h2, s1, s2, q⟩ := h
  obtain ⟨as, p1⟩ := h1.reads I rx
  obtain ⟨bs, p2⟩ := h2.reads I ry
  exact ne_dataH p1 p2 s1 s2 hu ⟨.bl _, H, I, rfl, q⟩

/-! ### isinstance(x, T), T a built-in type's name -/
def rIs (K : PySem.W.Frag) : List V → Hp → VK → Prop := fun xs H Q => ∃ x t T b, xs = [x, .ty T] ∧ TyOf K H x t ∧ PySem.W.kitOne K t (.type T) = some b ∧ Q (.bl b) H
theorem call_is : CallR X (.builtin "isinstance") (rIs X.K) := by
  intro pins s σ H xs us Q I r h
  obtain ⟨x, t, T, b, rfl, ty, e, q⟩ := h
  obtain ⟨u, w', rfl, ru, rt⟩ := vals2 r
  cases (show w' = Value.type T from rt)
  exact isinst_ok I ru ty e fun tk => ⟨.bl b, H, I.tok _, rfl, q⟩


/-! ### x.split(y) -/
def rSplit : V → List V → Hp → VK → Prop := fun x vs H Q => ∃ z y ps, x = .str z ∧ vs = [.str y] ∧ (decide (z.length < y.length) || decide (Builtin.Str.strKind z < Builtin.Str.strKind y)) = false ∧ (y.length == 0) = false ∧
  (Builtin.Str.occurrences z y 0 z.length (z.length + 1)).isEmpty = false ∧ z.length ≤ sizeLine ∧ Builtin.Str.partsBetween z (Builtin.Str.occurrences z y 0 z.length (z.length + 1)) y.length = ps ∧ ps.length ≤ sizeLine ∧ ∀ l, H l = none → Q (.ref l) (upd H l (.lst (ps.map V.str)))
end
end L2

namespace L2
open PySem PySem.Spec PyProof.Rows

/-! ### a def of the module that keeps its promise, by its name -/
structure Has (P : Program) (w : World) (K : PySem.W.Frag) (mg : Str → Option Value) (base : Heap) (x : Str) (k : Nat) (ps : List Str) (sp : Sp) : Prop where
  ex : ∃ f fd, FnOk P w K mg base CX0 k f fd ps sp ∧ Binds K fd ps [] ∧ PySem.W.keepIn K (.ref f) = true ∧ mg x = some (.ref f)
theorem Has.mono {P : Program} {w : World} {K : PySem.W.Frag} {mg : Str → Option Value} {base : Heap} {x : Str} {j k : Nat} {ps : List Str} {sp : Sp} (h : Has P w K mg base x j ps sp) (hj : j ≤ k) : Has P w K mg base x k ps sp := by
  obtain ⟨f, fd, F, b, q, m⟩ := h.ex
  exact ⟨f, fd, F.mono hj, b, q, m⟩
section
variable {X : Cx} {j k : Nat} {ps : List Str} {sp : Sp} {x : Str} {p pos : Pos} {e : Expr} {es : List Expr} {t : TA}
theorem pe_callH (h : Has X.prog X.w X.K X.mg X.base x j ps sp) (hr : Room k X.A) (ha : PA X (e :: es) t) (hg : Gl X x := by rfl) (hj : j ≤ k := by first | decide | omega)
    (hdb : (x == ("__debug__" : Str)) = false := by decide) (he : starEach (e :: es) X.env = (false, eval e X.env) :: starEach es X.env := by rfl) (hpl : (backTo pos (starEach es X.env)).any (·.1) = false := by rfl) :
    PE X (.Call (.Name x p) (e :: es) [] pos) (tCall sp [] E0 t) := by
  intro pins s σ H Q I q
  obtain ⟨f, fd, F, b, kp, m⟩ := h.ex
  refine pe_call (CX := CX0) (E := E0) (dvs := []) (F.mono hj) hr hg m kp b .nil ?_ ha hdb he hpl pins s σ H Q I q
  exact fun _ _ _ _ _ _ _ z => z.elim
end

/-! ### heaps without one address; what is laid anew -/
def hide (a : Addr) (H : Hp) : Hp := fun b => if b = a then none else H b
theorem hide_self {a : Addr} {H : Hp} : hide a H a = none := by unfold hide; rw [if_pos rfl]
theorem hide_ne {a b : Addr} {H : Hp} (h : b ≠ a) : hide a H b = H b := by unfold hide; rw [if_neg h]
theorem hide_some {a b : Addr} {H : Hp} {o : HO} (h : hide a H b = some o) : b ≠ a ∧ H b = some o := by
  unfold hide at h
  by_cases e : b = a
  · rw [if_pos e] at h; cases h
  · rw [if_neg e] at h; exact ⟨e, h⟩
theorem hide_sub {a : Addr} {H : Hp} : Same (hide a H) H := fun _ _ h => (hide_some h).2
theorem same_laid {H : Hp} {p : Addr} (h : H p = none) (o : HO) : Same H (upd H p o) := fun b u q => by rw [upd_ne (ne_of_none q h)]; exact q
/-- all but what stands at a is as it was -/
abbrev Grw (a : Addr) (H H' : Hp) : Prop := Same (hide a H) (hide a H')
theorem grw_same {a : Addr} {H H' : Hp} {o : HO} (ha : H a = some o) (g : Same H H') : Grw a H H' := fun b u q => by
  obtain ⟨h1, h2⟩ := hide_some q
  rw [hide_ne h1]; exact g b u h2
theorem grw_upd {a : Addr} {H : Hp} {o : HO} : Grw a H (upd H a o) := fun b u q => by
  obtain ⟨h1, h2⟩ := hide_some q
  rw [hide_ne h1, upd_ne h1]; exact h2
theorem grw_laid {a p : Addr} {H : Hp} {o : HO} (h : H p = none) : Grw a H (upd H p o) := fun b u q => by
  obtain ⟨h1, h2⟩ := hide_some q
  rw [hide_ne h1, upd_ne (ne_of_none h2 h)]; exact h2

/-! ### a pen: three ints, as the draws leave it -/
def PenAt (H : Hp) (a : Addr) : Prop := ∃ p q r : Int, H a = some (.lst [.int p, .int q, .int r])
theorem PenAt.same {H H' : Hp} {a : Addr} (h : PenAt H a) (g : Same H H') : PenAt H' a := by
  obtain ⟨p, q, r, e⟩ := h
  exact ⟨p, q, r, g _ _ e⟩
theorem PenAt.laid {H : Hp} {a p : Addr} {o : HO} (h : PenAt H a) (hp : H p = none) : PenAt (upd H p o) a := h.same (same_laid hp o)
theorem PenAt.ne {H : Hp} {a p : Addr} (h : PenAt H a) (hp : H p = none) : p ≠ a := by
  obtain ⟨x, y, z, e⟩ := h
  exact fun q => by rw [q, e] at hp; cases hp
end L2

namespace L2
open PySem PySem.Spec PyProof.Rows
/-! ### small facts -/
theorem posI {j : Int} (h : decide (0 < j) = true) : 0 < j := of_decide_eq_true h
theorem ltI {i j : Int} (h : decide (i < j) = true) : i < j := of_decide_eq_true h
theorem leI {i j : Int} (h : decide (i ≤ j) = true) : i ≤ j := of_decide_eq_true h
theorem leN {i j : Nat} (h : decide (i ≤ j) = true) : i ≤ j := of_decide_eq_true h
theorem cdivI {i j : Int} (h1 : decide (0 < j) = true) (h2 : decide (j < 1073741824) = true) : CDiv i j := ⟨of_decide_eq_true h1, of_decide_eq_true h2⟩
theorem powI {i j : Int} (h1 : decide (0 ≤ j) = true) (h2 : decide (j ≤ 1000000) = true) (h3 : decide (i.natAbs < 2 ^ 64) = true) : CPow i j := ⟨of_decide_eq_true h1, of_decide_eq_true h2, of_decide_eq_true h3⟩
theorem mulL {i j : Int} (h1 : decide (-(2 ^ 64) < i) = true) (h2 : decide (i < 2 ^ 64) = true) : CMul i j := Or.inl ⟨of_decide_eq_true h1, of_decide_eq_true h2⟩
theorem mulR {i j : Int} (h1 : decide (-(2 ^ 64) < j) = true) (h2 : decide (j < 2 ^ 64) = true) : CMul i j := Or.inr ⟨of_decide_eq_true h1, of_decide_eq_true h2⟩
theorem mulM (x m y : Int) (h0 : decide (0 < m) = true) (h1 : decide (m < 4294967296) = true) : CMul (x % m) y := by
  have h0 := of_decide_eq_true h0
  have h1 := of_decide_eq_true h1
  exact Or.inl ⟨by have := Int.emod_nonneg x (show m ≠ 0 by omega); omega, by have := Int.emod_lt_of_pos x h0; omega⟩
theorem at3_0 (a b c : V) : atI [a, b, c] 0 = some a := rfl
theorem at3_1 (a b c : V) : atI [a, b, c] 1 = some b := rfl
theorem at3_2 (a b c : V) : atI [a, b, c] 2 = some c := rfl
theorem atI_in {α : Type} {xs : List α} {i : Int} (h0 : 0 ≤ i) (h1 : i < xs.length) : ∃ v, atI xs i = some v ∧ v ∈ xs := by
  have hi : i.toNat < xs.length := by omega
  have e : ((i.toNat : Nat) : Int) = i := by omega
  refine ⟨xs[i.toNat], ?_, List.getElem_mem hi⟩
  have q := atI_nat (xs := xs) (j := i.toNat) (v := xs[i.toNat]) (List.getElem?_eq_getElem hi)
  rw [e] at q
  exact q
theorem small_le {n : Nat} (h : n ≤ 1000000) : n ≤ sizeLine := Nat.le_trans h (by decide)
theorem small_lt {n : Nat} (h : n < 1000000) : n < sizeLine := Nat.lt_of_lt_of_le h (by decide)

/-! ### comprehensions over a range, over a list -/
theorem comp_range {lo : Int} {n k : Nat} {g : TG} {tt : TT} {te : TE} {σ : St} {H : Hp} {Q : VK} (Pv : Nat → List V → Hp → Prop) (h0 : Pv 0 [] H)
    (hs : ∀ i ys H (C : List V → Hp → Prop), i < n → Pv i ys H → (∀ ys' H', Pv (i + 1) ys' H' → C ys' H') → ys.length < sizeLine ∧ g (.int (lo + i)) (List.replicate k none ++ σ) H fun σ2 H2 => Wk σ2 (List.replicate k none ++ σ) ∧ tt σ2 H2 fun ok H3 =>
      if ok = true then te σ2 H3 fun y H4 => C (ys ++ [y]) H4 else C ys H3)
    (hd : ∀ ys H, Pv n ys H → ys.length ≤ sizeLine ∧ ∀ p, H p = none → Q (.ref p) (upd H p (.lst ys))) :
    CompR (Itr lo n) H k g tt te σ Q := by
  refine ⟨fun i m ys H => m = n - i ∧ i ≤ n ∧ Pv i ys H, ⟨n, by simp, Nat.zero_le _, h0⟩, ?_⟩
  rintro i m ys H ⟨rfl, hi, p⟩
  by_cases hlt : i < n
  · have q := hs i ys H (fun ys' H' => ∃ m', m' < n - i ∧ m' = n - (i + 1) ∧ i + 1 ≤ n ∧ Pv (i + 1) ys' H') hlt p fun ys' H' p' => ⟨_, by omega, rfl, hlt, p'⟩
    refine .inr ⟨hlt, q.1, fun x H' y => ?_⟩
    obtain ⟨e, y⟩ := y
    subst e y
    exact q.2
  · have e : i = n := by omega
    subst e
    exact .inl ⟨Nat.le_refl _, hd ys H p⟩
theorem comp_list {K : PySem.W.Frag} {a : Addr} {xs : List V} {k : Nat} {g : TG} {tt : TT} {te : TE} {σ : St} {H : Hp} {Q : VK} (Pv : Nat → List V → Hp → Prop) (h0 : Pv 0 [] H) (hl : ∀ i ys H, i ≤ xs.length → Pv i ys H → SqL K H a xs)
    (hs : ∀ i x ys H (C : List V → Hp → Prop), xs[i]? = some x → Pv i ys H → (∀ ys' H', Pv (i + 1) ys' H' → C ys' H') → ys.length < sizeLine ∧ g x (List.replicate k none ++ σ) H fun σ2 H2 => Wk σ2 (List.replicate k none ++ σ) ∧ tt σ2 H2 fun ok H3 =>
      if ok = true then te σ2 H3 fun y H4 => C (ys ++ [y]) H4 else C ys H3)
    (hd : ∀ ys H, Pv xs.length ys H → ys.length ≤ sizeLine ∧ ∀ p, H p = none → Q (.ref p) (upd H p (.lst ys))) :
    CompR (Itl K a) H k g tt te σ Q := by
  refine ⟨fun i m ys H => m = xs.length - i ∧ i ≤ xs.length ∧ Pv i ys H, ⟨xs.length, by simp, Nat.zero_le _, h0⟩, ?_⟩
  rintro i m ys H ⟨rfl, hi, p⟩
  have q := hl i ys H hi p
  by_cases hlt : i < xs.length
  · have r := hs i xs[i] ys H (fun ys' H' => ∃ m', m' < xs.length - i ∧ m' = xs.length - (i + 1) ∧ i + 1 ≤ xs.length ∧ Pv (i + 1) ys' H') (by simp [hlt]) p fun ys' H' p' => ⟨_, by omega, rfl, hlt, p'⟩
    refine .inr ⟨⟨xs, xs[i], q, by simp [hlt]⟩, r.1, fun x H' y => ?_⟩
    obtain ⟨e, y⟩ := y
    subst e
    have ex : xs[i]? = some x := y xs q
    have ex2 : xs[i] = x := by simpa [hlt] using ex
    rw [← ex2]
    exact r.2
  · have e : i = xs.length := by omega
    subst e
    exact .inl ⟨⟨xs, q, Nat.le_refl _⟩, hd ys H p⟩

/-! ### the words -/
def wordA : Str := "q abcdefgh aq qa abcdefgi ea zz eaq abd abc e bcdefgh za "
def wordB : Str := "qae acb ae abcdefg z qq aea az abcd xabcd eae abce eq"
def words : List Str := ["q", "abcdefgh", "aq", "qa", "abcdefgi", "ea", "zz", "eaq", "abd", "abc", "e", "bcdefgh", "za", "qae", "acb", "ae", "abcdefg", "z", "qq", "aea", "az", "abcd", "xabcd", "eae", "abce", "eq"]
theorem words_ok : ∀ x ∈ words, PyData.strOk x = true := by decide +kernel
/-! ### things -/
structure Th where
  day : Int
  word : Str
  num : Int
  many : Int
def Th.D (t : Th) : PyData := .tuple [.int t.day, .str t.word, .int t.num, .int t.many]
def Th.vs (t : Th) : List V := [.int t.day, .str t.word, .int t.num, .int t.many]
structure Th.Ok (t : Th) : Prop where
  day : 0 ≤ t.day
  word : t.word ∈ words
  num : 0 ≤ t.num
  many : 1 ≤ t.many
  numU : t.num < 1073741824
  manyU : t.many ≤ 1000000000
theorem Th.dv {H : Hp} {r : Addr} {t : Th} (h : H r = some (.tup t.vs)) : DV H (.ref r) t.D := .tup h (.cons (.int _) (.cons (.str _) (.cons (.int _) (.cons (.int _) .nil))))
end L2

namespace L2
open PySem PySem.Spec PyProof.Rows
/-! ### trees of streams -/
inductive Tr where
  | leaf (ts : List Th)
  | node (l r : Tr)
abbrev strD (ts : List Th) : PyData := .list (ts.map Th.D)
def Tr.D : Tr → PyData
  | .leaf ts => strD ts
  | .node l r => .tuple [.str "merged", l.D, r.D]
def Tr.streams : Tr → List (List Th)
  | .leaf ts => [ts]
  | .node l r => l.streams ++ r.streams
def Tr.size : Tr → Nat
  | .leaf _ => 1
  | .node l r => l.size + r.size + 1
def Tr.ht : Tr → Nat
  | .leaf _ => 0
  | .node l r => max l.ht r.ht + 1
def Tr.all : Tr → List Th
  | .leaf ts => ts
  | .node l r => l.all ++ r.all
def Tr.Ok : Tr → Prop
  | .leaf ts => ∀ t ∈ ts, t.Ok
  | .node l r => l.Ok ∧ r.Ok
/-! ### their data are of a shape that is compared -/
theorem Th.lay {t : Th} (h : t.Ok) : t.D.canLay0 = true ∧ t.D.depth ≤ 1 := by
  refine ⟨?_, ?_⟩
  · simp [Th.D, PyData.canLay0, PyData.canLayAll0, words_ok _ h.word]
  · simp [Th.D, PyData.depth, PyData.depthAll]
theorem lay_all {α : Type} {f : α → PyData} {n : Nat} : ∀ (xs : List α), (∀ x ∈ xs, (f x).canLay0 = true ∧ (f x).depth ≤ n) → PyData.canLayAll0 (xs.map f) = true ∧ PyData.depthAll (xs.map f) ≤ n
  | [], _ => by simp [PyData.canLayAll0, PyData.depthAll]
  | x :: xs, h => by
    have h1 := h x List.mem_cons_self
    have h2 := lay_all xs fun y hy => h y (List.mem_cons_of_mem _ hy)
    rw [List.map_cons, PyData.canLayAll0, PyData.depthAll, h1.1, h2.1]
    exact ⟨rfl, Nat.max_le.mpr ⟨h1.2, h2.2⟩⟩
theorem lay_list {α : Type} {f : α → PyData} {n : Nat} (xs : List α) (h : ∀ x ∈ xs, (f x).canLay0 = true ∧ (f x).depth ≤ n) : (PyData.list (xs.map f)).canLay0 = true ∧ (PyData.list (xs.map f)).depth ≤ n + 1 := by
  have q := lay_all xs h
  rw [PyData.canLay0, PyData.depth]
  exact ⟨q.1, Nat.succ_le_succ q.2⟩
theorem shaped_of {d : PyData} {n : Nat} (h : d.canLay0 = true ∧ d.depth ≤ n) (hn : n ≤ 64) : SeqAt.shaped d = true := by
  unfold SeqAt.shaped
  rw [h.1, Bool.true_and]
  exact decide_eq_true (Nat.le_trans h.2 hn)
theorem str_lay {ts : List Th} (h : ∀ t ∈ ts, t.Ok) : (strD ts).canLay0 = true ∧ (strD ts).depth ≤ 2 := lay_list ts fun t ht => Th.lay (h t ht)
theorem Tr.lay : ∀ {t : Tr}, t.Ok → t.D.canLay0 = true ∧ t.D.depth ≤ t.ht + 2
  | .leaf ts, h => str_lay h
  | .node l r, h => by
    have h1 := lay h.1
    have h2 := lay h.2
    have q1 := h1.2
    have q2 := h2.2
    have hm : PyData.strOk "merged" = true := by decide +kernel
    refine ⟨?_, ?_⟩
    · simp [Tr.D, PyData.canLay0, PyData.canLayAll0, h1.1, h2.1, hm]
    · simp only [Tr.D, PyData.depth, PyData.depthAll, Tr.ht]
      omega
theorem eqv_self {d : PyData} {n : Nat} (h : d.canLay0 = true ∧ d.depth ≤ n) : PyData.eqv d d = true := SeqAt.eqv_refl d h.1
theorem eqv_nil (ds : List PyData) : PyData.eqv (.list ds) (.list []) = ds.isEmpty := by
  cases ds <;> simp [PyData.eqv, PyData.eqvAll]
/-! ### what a datum's value is -/
theorem DV.tup_inv {H : Hp} {v : V} {ds : List PyData} (h : DV H v (.tuple ds)) : ∃ a xs, v = .ref a ∧ H a = some (.tup xs) ∧ DVs H xs ds := by
  cases h with
  | tup e r => exact ⟨_, _, rfl, e, r⟩
theorem DVs.cons_inv {H : Hp} {vs : List V} {d : PyData} {ds : List PyData} (h : DVs H vs (d :: ds)) : ∃ x r, vs = x :: r ∧ DV H x d ∧ DVs H r ds := by
  cases h with
  | cons a b => exact ⟨_, _, rfl, a, b⟩
theorem DVs.nil_inv {H : Hp} {vs : List V} (h : DVs H vs []) : vs = [] := by
  cases h with
  | nil => rfl
/-! ### two lists that are being made are left out -/
abbrev hide2 (a b : Addr) (H : Hp) : Hp := hide a (hide b H)
/-- what was not there may be changed -/
theorem same_fresh {H H' : Hp} {a : Addr} {o : HO} (g : Same H H') (h : H a = none) : Same H (upd H' a o) := fun b u q => by rw [upd_ne (ne_of_none q h)]; exact g b u q
end L2

namespace L2
open PySem PySem.Spec PyProof.Rows
theorem Has.of {P : Program} {w : World} {K : PySem.W.Frag} {mg : Str → Option Value} {base : Heap} {x : Str} {k : Nat} {ps : List Str} {sp : Sp} {f : Addr} {fd : FuncData} (F : FnOk P w K mg base CX0 k f fd ps sp) (b : Binds K fd ps []) (kp : PySem.W.keepIn K (.ref f) = true) (m : mg x = some (.ref f)) :
    Has P w K mg base x k ps sp := ⟨f, fd, F, b, kp, m⟩
/-- is the built-in type t under T? -/
def kitT (t T : String) : Option Bool := if (Value.type t == Value.type T) = true then some true else if PySem.W.kitMeta T = true then (PySem.fastBuiltinMro t).map (·.contains (.type T)) else none
theorem kit_t {K : PySem.W.Frag} {t T : String} {b : Bool} (h : kitT t T = some b) : PySem.W.kitOne K (.type t) (.type T) = some b := h
theorem kit_ll {K : PySem.W.Frag} : PySem.W.kitOne K (.type "list") (.type "list") = some true := kit_t (by decide +kernel)
end L2

namespace L2
open PySem PySem.Spec PyProof.Rows
section
variable {X : Cx}
end

/-! ### set(xs) of a list of texts: how many unlike ones there are -/
def dd : List Str → List Str → List Str
  | acc, [] => acc
  | acc, z :: r => dd (if z ∈ acc then acc else acc ++ [z]) r
def inF (l : List Str) (k : Key) : Bool := l.any fun z => decide (k = (Sum.inr z : Key))
section
variable {prog : Program} {w : World} {A : Around} {R : Result → Shared → Prop} {I : Addr} {fp wr : List Addr} {n : Nat} {P : Nat → Value → Prop} {St : Nat → Heap → Prop}
end
end L2

namespace L2
open PySem PySem.Spec PyProof.Rows
section
variable {prog : Program} {w : World} {A : Around} {E : Value → Shared → Prop} {s : Shared}
abbrev bareSet (led : Bool) : Obj := { cls := .type "set", dict := none, data := .set #[] 0 (.fresh 0 0 led) }
end
/-- a set of texts that nothing changes -/
def txtSet (prog : Program) (w : World) (a : Addr) (n : Nat) : HO := .ext fun h => ∃ F, h.SetOf (mixKind prog w) a F n
section
variable {X : Cx}
end
end L2

namespace L2
open PySem PySem.Spec PyProof.Rows
theorem take_one {α : Type} {l : List α} {i : Nat} {x : α} (h : l[i]? = some x) : l.take (i + 1) = l.take i ++ [x] := by rw [List.take_add_one, h]; rfl
theorem filter_all {α : Type} (l : List α) : l.filter (fun _ => true) = l := by
  induction l with
  | nil => rfl
  | cons a l ih => simp
theorem inV_strs (z : Str) (l : List Str) : inV (.str z) (l.map V.str) = decide (z ∈ l) := by
  unfold inV
  by_cases h : z ∈ l
  · rw [decide_eq_true h]
    exact List.any_eq_true.mpr ⟨.str z, List.mem_map.mpr ⟨z, h, rfl⟩, by simp [eqV]⟩
  · rw [decide_eq_false h]
    refine Bool.eq_false_iff.mpr fun q => ?_
    obtain ⟨y, hy, e⟩ := List.any_eq_true.mp q
    obtain ⟨y', hy', rfl⟩ := List.mem_map.mp hy
    have : y' = z := by simpa [eqV] using e
    exact h (this ▸ hy')
theorem flat_strs (l : List Str) : (l.map V.str).all flatV = true := by
  rw [List.all_eq_true]
  intro x hx
  obtain ⟨z, _, rfl⟩ := List.mem_map.mp hx
  rfl
theorem dvs_ints {H : Hp} : ∀ ns : List Int, DVs H (ns.map V.int) (ns.map PyData.int)
  | [] => .nil
  | n :: r => .cons (.int n) (dvs_ints r)
theorem lay_ints (ns : List Int) : (PyData.list (ns.map PyData.int)).canLay0 = true ∧ (PyData.list (ns.map PyData.int)).depth ≤ 1 := lay_list (n := 0) ns fun n _ => by simp [PyData.canLay0, PyData.depth]
end L2

namespace L2
open PySem PySem.Spec PyProof.Rows
/-! ### a text, sign by sign -/
def Its (x : Str) : It := ⟨fun i _ => i < x.cps.size, fun i H v H' => H' = H ∧ ∃ c, x.cps[i]? = some c ∧ v = .str ⟨#[c]⟩, fun i _ => x.cps.size ≤ i⟩
def iStr (tl : TE) : TI := fun σ H R => tl σ H fun v H1 => ∃ x, v = .str x ∧ R (Its x) H1
section
variable {X : Cx} {tg : Expr}
/-! ### all(xs) of a list of bools -/
/-! ### "".join(xs) of a list of texts -/
theorem strsAre_of : ∀ {ys : List Str} {us : List Value}, Vals (ys.map V.str) us → StrsAre us ys
  | [], _, r => by cases r; exact .nil
  | y :: ys, _, r => by
    cases r with
    | cons a b =>
      obtain ⟨t, rfl⟩ := a
      exact .cons y t (strsAre_of b)
def rJoin (K : PySem.W.Frag) : V → List V → Hp → VK → Prop := fun x vs H Q => ∃ (z : Str) (p : Addr) (ys : List Str), x = .str z ∧ vs = [.ref p] ∧ SqL K H p (ys.map V.str) ∧ (ys.map (·.length)).sum + ys.length * z.length ≤ 16777216 ∧ Q (.str (Txt.join z ys)) H
theorem mt_join : MtR X "str.join" (rJoin X.K) := by
  intro pins s σ H x vs v us Q I rx rv h
  obtain ⟨z, p, ys, rfl, rfl, hq, hw, q⟩ := h
  obtain ⟨t, rfl⟩ := rx
  obtain ⟨u, rfl, ru⟩ := vals1 rv
  cases ru
  obtain ⟨its, r, pl, _⟩ := I.list hq
  exact join_list pl.isList (strsAre_of r) hw fun t' k => ⟨.str _, H, I.tok k, ⟨_, rfl⟩, q⟩
/-! ### two lists with the very same items -/
def okV : V → Bool
  | .flt _ => false
  | .byt _ => false
  | .ty _ => false
  | _ => true
end
end L2

namespace L2
open PySem PySem.Spec PyProof.Rows
/-! ### != of two lists with the very same items -/
section
variable {X : Cx}
def rNeSame (K : PySem.W.Frag) : R2 := fun x y H Q => ∃ a b xs, x = .ref a ∧ y = .ref b ∧ SqL K H a xs ∧ SqL K H b xs ∧ xs.all okV = true ∧ Q (.bl false) H
end
section
variable {prog : Program} {w : World} {A : Around} {E : Value → Shared → Prop} {s : Shared}
end
section
variable {X : Cx} {o e : Expr} {to te : TE} {lo hi : Option Expr} {tl th : TO} {pos p2 : Pos}
/-- o[lo:hi] = a list -/
def gSlc (to : TE) (tl th : TO) : TG := fun v σ H Q => to σ H fun ov H1 => tl σ H1 fun l H2 => th σ H2 fun u H3 => ∃ (p b : Addr) (xs ys : List V) (a c : Nat), ov = .ref p ∧ v = .ref b ∧ l = some (a : Int) ∧ u = some (c : Int) ∧ H3 p = some (.lst xs) ∧ H3 b = some (.lst ys) ∧ p ≠ b ∧ a ≤ c ∧ a ≤ xs.length ∧
  xs.length + ys.length ≤ sizeLine ∧ Q σ (upd H3 p (.lst (xs.take a ++ ys ++ xs.drop (min c xs.length))))
end

/-! ### a tuple times an int -/
section
open PySem.AutoSeq1 (wpAny_loadPart')
open PySem.MeetsSeq PySem.MeetsSeq2 PySem.MeetsSeq3
end
section
variable {X : Cx}
/-- t * 4, t not empty -/
def rRepT (K : PySem.W.Frag) : R2 := fun x y H Q => ∃ (a : Addr) (xs : List V), x = .ref a ∧ y = .int 4 ∧ SqT K H a xs ∧ xs ≠ [] ∧ xs.length ≤ 10 ∧ ∀ p, H p = none → Q (.ref p) (upd H p (.tup (xs ++ xs ++ xs ++ xs)))
end
end L2

namespace L2
open PySem PySem.Spec PyProof.Rows
/-! ### what is laid anew -/
theorem laid_same {H H1 : Hp} {p : Addr} {o : HO} (h : upd H p o = H1) (n : H p = none) : Same H H1 := h ▸ same_laid n o
theorem laid_at {H H1 : Hp} {p : Addr} {o : HO} (h : upd H p o = H1) : H1 p = some o := h ▸ upd_same
theorem laid_pen {H H1 : Hp} {p a : Addr} {o : HO} (h : upd H p o = H1) (n : H p = none) (hp : PenAt H a) : PenAt H1 a ∧ Grw a H H1 ∧ p ≠ a ∧ hide a H1 p = some o := by
  subst h
  exact ⟨hp.laid n, grw_laid n, hp.ne n, by rw [hide_ne (hp.ne n)]; exact upd_same⟩
theorem PenAt.grw {H H' : Hp} {a : Addr} (h : PenAt H a) (g : Same H H') : Grw a H H' := by
  obtain ⟨p, q, r, e⟩ := h
  exact grw_same e g
/-! ### what kind a value is -/
inductive Kd (H : Hp) : V → String → Prop
  | non : Kd H .non "NoneType"
  | bl (b : Bool) : Kd H (.bl b) "bool"
  | int (i : Int) : Kd H (.int i) "int"
  | str (z : Str) : Kd H (.str z) "str"
  | lst {a : Addr} {xs : List V} (e : H a = some (.lst xs)) : Kd H (.ref a) "list"
  | tup {a : Addr} {xs : List V} (e : H a = some (.tup xs)) : Kd H (.ref a) "tuple"
  | dK {a : Addr} {kvs : List (Key × V)} (e : H a = some (.dK kvs)) : Kd H (.ref a) "dict"
theorem Kd.mono {H H' : Hp} (g : Same H H') {x : V} {T : String} (h : Kd H x T) : Kd H' x T := by
  cases h with
  | non => exact .non
  | bl b => exact .bl b
  | int i => exact .int i
  | str z => exact .str z
  | lst e => exact .lst (g _ _ e)
  | tup e => exact .tup (g _ _ e)
  | dK e => exact .dK (g _ _ e)
theorem Kd.ty {K : PySem.W.Frag} {H : Hp} {x : V} {T : String} (h : Kd H x T) : TyOf K H x (.type T) := by
  cases h with
  | non => exact .non
  | bl b => exact .bl b
  | int i => exact .int i
  | str z => exact .str z
  | lst e => exact .lst e
  | tup e => exact .tup e
  | dK e => exact .dK e
theorem Kd.okV {H : Hp} {x : V} {T : String} (h : Kd H x T) : okV x = true := by cases h <;> rfl
def kds : List String := ["NoneType", "bool", "int", "str", "list", "tuple", "dict"]
def kus : List String := ["int", "bool", "str", "list", "tuple"]
def isKd (T U : String) : Bool := (T == U) || (T == "bool" && U == "int")
theorem Kd.mem {H : Hp} {x : V} {T : String} (h : Kd H x T) : T ∈ kds := by cases h <;> decide
def whV : V → Bool
  | .int _ => true
  | _ => false
def wF : V → Int → Bool
  | .int i, l => decide (l ≤ i)
  | _, _ => false
theorem Kd.wh {H : Hp} {x : V} {T : String} (h : Kd H x T) : (isKd T "int" && !isKd T "bool") = whV x := by
  cases h <;> (first | rfl | (simp [isKd, whV]))
/-! ### a module's constant -/
/-! ### marks -/
def letters : Str := "abcdefghijklmnopqrstuvwxyz"
def sgB (c : Nat) : Bool := !(Builtin.Str.occurrences letters ⟨#[c]⟩ 0 letters.length 1).isEmpty
def mkS (z : Str) : Bool := decide (1 ≤ z.length) && decide (z.length ≤ 8) && z.cps.toList.all sgB
def mkB : V → Bool
  | .str z => mkS z
  | _ => false
/-! ### things and streams, of whatever kind -/
inductive ThB (H : Hp) : V → Bool → Prop
  | no {x : V} {T : String} (h : Kd H x T) (e : isKd T "tuple" = false) : ThB H x false
  | len {a : Addr} {xs : List V} (h : H a = some (.tup xs)) (e : xs.length ≠ 4) : ThB H (.ref a) false
  | four {a : Addr} {d m n k : V} {T1 T2 T3 T4 : String} {b : Bool} (h : H a = some (.tup [d, m, n, k])) (h1 : Kd H d T1) (h2 : Kd H m T2) (h3 : Kd H n T3) (h4 : Kd H k T4) (hm : ∀ z, m = .str z → z.length ≤ 1000)
      (e : (wF d 0 && (mkB m && (wF n 0 && wF k 1))) = b) : ThB H (.ref a) b
theorem ThB.mono {H H' : Hp} (g : Same H H') {x : V} {b : Bool} (h : ThB H x b) : ThB H' x b := by
  cases h with
  | no h e => exact .no (h.mono g) e
  | len h e => exact .len (g _ _ h) e
  | four h h1 h2 h3 h4 hm e => exact .four (g _ _ h) (h1.mono g) (h2.mono g) (h3.mono g) (h4.mono g) hm e
theorem ThB.okV {H : Hp} {x : V} {b : Bool} (h : ThB H x b) : okV x = true := by
  cases h with
  | no h e => exact h.okV
  | len h e => rfl
  | four h => rfl
inductive ThBs (H : Hp) : List V → List Bool → Prop
  | nil : ThBs H [] []
  | cons {x : V} {xs : List V} {b : Bool} {bs : List Bool} : ThB H x b → ThBs H xs bs → ThBs H (x :: xs) (b :: bs)
theorem ThBs.mono {H H' : Hp} (g : Same H H') : ∀ {xs : List V} {bs : List Bool}, ThBs H xs bs → ThBs H' xs bs
  | _, _, .nil => .nil
  | _, _, .cons h r => .cons (h.mono g) (r.mono g)
theorem ThBs.length {H : Hp} : ∀ {xs : List V} {bs : List Bool}, ThBs H xs bs → xs.length = bs.length
  | _, _, .nil => rfl
  | _, _, .cons _ r => congrArg (· + 1) r.length
theorem ThBs.append {H : Hp} : ∀ {xs ys : List V} {bs cs : List Bool}, ThBs H xs bs → ThBs H ys cs → ThBs H (xs ++ ys) (bs ++ cs)
  | _, _, _, _, .nil, s => s
  | _, _, _, _, .cons h r, s => .cons h (r.append s)
theorem ThBs.take {H : Hp} : ∀ {xs : List V} {bs : List Bool} (n : Nat), ThBs H xs bs → ThBs H (xs.take n) (bs.take n)
  | _, _, 0, _ => .nil
  | _, _, _ + 1, .nil => .nil
  | _, _, n + 1, .cons h r => .cons h (r.take n)
theorem ThBs.drop {H : Hp} : ∀ {xs : List V} {bs : List Bool} (n : Nat), ThBs H xs bs → ThBs H (xs.drop n) (bs.drop n)
  | _, _, 0, r => r
  | _, _, _ + 1, .nil => .nil
  | _, _, n + 1, .cons _ r => r.drop n
theorem ThBs.get {H : Hp} : ∀ {xs : List V} {bs : List Bool} {i : Nat} {x : V}, ThBs H xs bs → xs[i]? = some x → ∃ b, bs[i]? = some b ∧ ThB H x b
  | _, _, _, _, .nil, e => by simp at e
  | _, _, 0, _, .cons h _, e => by simp at e; subst e; exact ⟨_, rfl, h⟩
  | _, _, i + 1, x, .cons _ r, e => by
    obtain ⟨b, h1, h2⟩ := ThBs.get (i := i) (x := x) r (by simpa using e)
    exact ⟨b, by simpa using h1, h2⟩
theorem ThBs.okV {H : Hp} : ∀ {xs : List V} {bs : List Bool}, ThBs H xs bs → xs.all L2.okV = true
  | _, _, .nil => rfl
  | _, _, .cons h r => by rw [List.all_cons, h.okV, r.okV]; rfl
inductive StB (H : Hp) : V → Bool → Prop
  | no {x : V} {T : String} (h : Kd H x T) (e : isKd T "list" = false) : StB H x false
  | lst {a : Addr} {xs : List V} {bs : List Bool} {b : Bool} (h : H a = some (.lst xs)) (t : ThBs H xs bs) (l : xs.length ≤ 1000) (e : bs.all id = b) : StB H (.ref a) b
theorem StB.mono {H H' : Hp} (g : Same H H') {x : V} {b : Bool} (h : StB H x b) : StB H' x b := by
  cases h with
  | no h e => exact .no (h.mono g) e
  | lst h t l e => exact .lst (g _ _ h) (t.mono g) l e
theorem pick {H : Hp} {p : Addr} {xs : List V} {d : Int} (e : H p = some (.lst xs)) (h0 : 0 ≤ d) (h1 : d < xs.length) : ∃ v, atI xs d = some v ∧ v ∈ xs := atI_in h0 h1
theorem hSqT {K : PySem.W.Frag} {H : Hp} {a c : Addr} {xs : List V} (h : hide a H c = some (.tup xs)) : SqT K H c xs := SqT.of (hide_some h).2
theorem hSqL {K : PySem.W.Frag} {H : Hp} {a c : Addr} {xs : List V} (h : hide a H c = some (.lst xs)) : SqL K H c xs := SqL.of (hide_some h).2
theorem hide_upd {H : Hp} {a p : Addr} {o : HO} (h : p ≠ a) : hide a (upd H p o) = upd (hide a H) p o := by
  funext b
  by_cases e : b = a
  · subst e
    rw [hide_self, upd_ne (Ne.symm h), hide_self]
  · rw [hide_ne e]
    by_cases q : b = p
    · subst q
      rw [upd_same, upd_same]
    · rw [upd_ne q, upd_ne q, hide_ne e]
end L2

namespace L2
open PySem PySem.Spec PyProof.Rows
/-! ### a built-in function called with keywords -/
def CallKR (X : Cx) (f : Value) (ks : List Str) (r : List V → List V → Hp → VK → Prop) : Prop :=
  ∀ (pins : List (Addr × Obj)) (s : Shared) (σ : St) (H : Hp) (xs zs : List V) (us ws : List Value) (Q : VK), Inv X pins σ H s → Vals xs us → Vals zs ws → r xs zs H Q →
    wpAny (model X.prog X.w) X.A (call f us (ks.zip ws)) (EP X pins σ Q) X.xe s
def tCBK (r : List V → List V → Hp → VK → Prop) (t tk : TA) : TE := fun σ H Q => t σ H fun vs H1 => tk σ H1 fun zs H2 => r vs zs H2 Q
section
variable {X : Cx} {x : Str} {p pos : Pos} {e : Expr} {es : List Expr} {kws : List Keyword} {ks : List Str} {t tk : TA} {id : String} {r : List V → List V → Hp → VK → Prop}
end
/-! ### what an iterable gives, collected -/
section
variable {prog : Program} {w : World} {A : Around} {E : Value → Shared → Prop} {s : Shared} {T : String} {r d : Addr} {n : Nat} {P : Nat → Value → Prop} {OK : Heap → Prop}
/-- how the collecting ends -/
def ColEnd (s : Shared) (P : Nat → Value → Prop) (n : Nat) (q : Result) (s' : Shared) : Prop :=
  ∃ (g : Heap) (tk c : Nat) (xs : Array Value), q = .ok (.ret (.ref s.heap.objs.size)) ∧ s' = { s with heap := g, toks := tk } ∧ (∀ b o, s.heap.get? b = some o → g.get? b = some o) ∧ g.get? s.heap.objs.size = some { cls := .type "list", dict := none, data := .seq xs c, slots := #[] } ∧ ItemsOf P xs n
end
/-! ### d.values(), d.items(): views -/
def vView (a d : Addr) : HO := .ext fun h => h.IsValuesView a d
def iView (a d : Addr) : HO := .ext fun h => h.IsItemsView a d
section
variable {X : Cx} {pins : List (Addr × Obj)} {σ : St} {H : Hp} {s : Shared}
def rView (w : Addr → Addr → HO) : V → List V → Hp → VK → Prop := fun x vs H Q => ∃ d kvs, x = .ref d ∧ vs = [] ∧ H d = some (.dK kvs) ∧ ∀ a, H a = none → Q (.ref a) (upd H a (w a d))
/-! ### sorted(d.values(), reverse=True), whole numbers -/
def rSortRV : List V → List V → Hp → VK → Prop := fun xs zs H Q => ∃ (v d : Addr) (kvs : List (Key × V)) (ns : List Int), xs = [.ref v] ∧ zs = [.bl true] ∧ H v = some (vView v d) ∧ H d = some (.dK kvs) ∧ kvs.map (·.2) = ns.map V.int ∧ ns.length < 64 ∧
  ∀ (p : Addr) (ms : List Int), H p = none → ms.Perm ns → ms.Pairwise (· ≥ ·) → Q (.ref p) (upd H p (.lst (ms.map V.int)))
/-! ### list(d.items()) -/
/-- pairs laid anew at as, in order -/
inductive PairsAt (H : Hp) : List V → List (Key × V) → Prop
  | nil : PairsAt H [] []
  | cons {a : Addr} {xs : List V} {k : Key} {v : V} {kvs : List (Key × V)} (h : H a = some (.tup [kV k, v])) (r : PairsAt H xs kvs) : PairsAt H (.ref a :: xs) ((k, v) :: kvs)
theorem PairsAt.mono {H H' : Hp} (g : Same H H') : ∀ {xs : List V} {kvs : List (Key × V)}, PairsAt H xs kvs → PairsAt H' xs kvs
  | _, _, .nil => .nil
  | _, _, .cons h r => .cons (g _ _ h) (r.mono g)
theorem PairsAt.length {H : Hp} : ∀ {xs : List V} {kvs : List (Key × V)}, PairsAt H xs kvs → xs.length = kvs.length
  | _, _, .nil => rfl
  | _, _, .cons _ r => congrArg (· + 1) r.length
theorem PairsAt.append {H : Hp} : ∀ {xs ys : List V} {ks ls : List (Key × V)}, PairsAt H xs ks → PairsAt H ys ls → PairsAt H (xs ++ ys) (ks ++ ls)
  | _, _, _, _, .nil, s => s
  | _, _, _, _, .cons h r, s => .cons h (r.append s)
theorem PairsAt.reverse {H : Hp} : ∀ {xs : List V} {ks : List (Key × V)}, PairsAt H xs ks → PairsAt H xs.reverse ks.reverse
  | _, _, .nil => .nil
  | _, _, .cons h r => by rw [List.reverse_cons, List.reverse_cons]; exact r.reverse.append (.cons h .nil)
theorem kV_rel {P : Program} {w : World} {k : Key} {u : Value} (h : (mixKind P w).is k u = true) : RelV (kV k) u := by
  rcases keyIs_shape (show keyIs k u = true from h) with ⟨i, t, rfl, rfl⟩ | ⟨x, t, rfl, rfl⟩
  · exact ⟨t, rfl⟩
  · exact ⟨t, rfl⟩
/-- an abstract heap with new things from n on -/
def over (H : Hp) (n : Nat) (L : Hp) : Hp := fun b => if b < n then H b else L b
theorem over_old {H L : Hp} {n : Nat} {b : Addr} (h : b < n) : over H n L b = H b := if_pos h
theorem over_new {H L : Hp} {n : Nat} {b : Addr} (h : n ≤ b) : over H n L b = L b := if_neg (Nat.not_lt.mpr h)
theorem Inv.over {L : Hp} {g : Heap} {t' : Nat} (I : Inv X pins σ H s) (k : ∀ b u, s.heap.get? b = some u → g.get? b = some u) (new : ∀ b o, s.heap.objs.size ≤ b → L b = some o → ObjOk X.prog X.w (over H s.heap.objs.size L) g b o) :
    Inv X pins σ (L2.over H s.heap.objs.size L) { s with heap := g, toks := t' } ∧ Same H (L2.over H s.heap.objs.size L) := by
  have old : ∀ b o, H b = some o → L2.over H s.heap.objs.size L b = some o := fun b o e => by rw [over_old (I.hok b o e).lt]; exact e
  have fre : ∀ b u, s.heap.get? b = some u → H b = none → L2.over H s.heap.objs.size L b = none := fun b u e n => by rw [over_old (Heap.lt_size e)]; exact n
  refine ⟨I.un ⟨fun b u e _ _ _ => k b u e, fun b u e _ _ _ => ⟨u.slots, k b u e⟩, fun b u e n _ => fre b u e n, fun b u e _ => ⟨u, k b u e⟩, fun b xs e => old b _ e, fun b o u e => old b _ e, fun b ps e => ⟨#[], by rw [old b _ e]; simp⟩⟩ ?_, old⟩
  intro b o e
  by_cases hb : b < s.heap.objs.size
  · rw [over_old hb] at e
    exact (I.hok b o e).stay (fun c u _ q => k c u q) (fun c q => old c _ q) fun c xs q => old c _ q
  · have hb := Nat.not_lt.mp hb
    rw [over_new hb] at e
    exact new b o hb e
theorem PairsAt.of {H : Hp} : ∀ {as : List Addr} {kvs : List (Key × V)}, as.length = kvs.length → (∀ (j : Nat) (a : Addr) (p : Key × V), as[j]? = some a → kvs[j]? = some p → H a = some (.tup [kV p.1, p.2])) → PairsAt H (as.map V.ref) kvs
  | [], [], _, _ => .nil
  | [], _ :: _, e, _ => by simp at e
  | _ :: _, [], e, _ => by simp at e
  | a :: as, (k, v) :: kvs, e, h => .cons (h 0 a (k, v) rfl rfl) (PairsAt.of (by simpa using e) fun j b p h1 h2 => h (j + 1) b p (by simpa using h1) (by simpa using h2))
theorem KV.get : ∀ {kvs : List (Key × V)} {ws : List (Key × Value)} {j : Nat} {p : Key × V} {q : Key × Value}, KV kvs ws → kvs[j]? = some p → ws[j]? = some q → p.1 = q.1 ∧ RelV p.2 q.2
  | _, _, _, _, _, .nil, e, _ => by simp at e
  | _, _, 0, _, _, .cons h _, e1, e2 => by
    simp at e1 e2
    subst e1 e2
    exact h
  | _, _, j + 1, _, _, .cons _ r, e1, e2 => KV.get (j := j) r (by simpa using e1) (by simpa using e2)
def rListI : List V → Hp → VK → Prop := fun xs H Q => ∃ (v d : Addr) (kvs : List (Key × V)), xs = [.ref v] ∧ H v = some (iView v d) ∧ H d = some (.dK kvs) ∧ kvs.length ≤ 1000 ∧ ∀ (H' : Hp) (p : Addr) (ys : List V), Same H H' → H p = none → H' p = some (.lst ys) → PairsAt H' ys kvs → Q (.ref p) H'
/-! ### xs[::-1] -/
def tRev (K : PySem.W.Frag) (te ts : TE) : TE := fun σ H Q => te σ H fun x H1 => ts σ H1 fun y H2 => ∃ (a : Addr) (xs : List V), x = .ref a ∧ y = .int (-1) ∧ SqL K H2 a xs ∧ ∀ p, H2 p = none → Q (.ref p) (upd H2 p (.lst xs.reverse))
/-! ### a dict while it is walked -/
def tFrz (t : TE) : TE := fun σ H Q => ∃ (d : Addr) (kvs : List (Key × V)), H d = some (.dK kvs) ∧ ∀ o, t σ (upd H d (.frz o (.dK kvs))) fun v H2 => H2 d = some (.frz o (.dK kvs)) ∧ Q v (upd H2 d (.dK kvs))
def frzE (D : Ends) (d : Addr) (kvs : List (Key × V)) (o : Obj) : Ends where
  nx := fun σ2 H2 => H2 d = some (.frz o (.dK kvs)) ∧ D.nx σ2 (upd H2 d (.dK kvs))
  rt := fun v H2 => H2 d = some (.frz o (.dK kvs)) ∧ D.rt v (upd H2 d (.dK kvs))
  bk := fun σ2 H2 => H2 d = some (.frz o (.dK kvs)) ∧ D.bk σ2 (upd H2 d (.dK kvs))
  ct := fun σ2 H2 => H2 d = some (.frz o (.dK kvs)) ∧ D.ct σ2 (upd H2 d (.dK kvs))
def sFrz (t : TS) : TS := fun D σ H => ∃ (d : Addr) (kvs : List (Key × V)), H d = some (.dK kvs) ∧ ∀ o, t (frzE D d kvs o) σ (upd H d (.frz o (.dK kvs)))
def Itd (d : Addr) (kvs : List (Key × V)) (o : Obj) : It := ⟨fun i H => i < kvs.length ∧ H d = some (.frz o (.dK kvs)), fun i H x H' => H' = H ∧ ∃ p, kvs[i]? = some p ∧ x = kV p.1, fun i H => kvs.length ≤ i ∧ H d = some (.frz o (.dK kvs))⟩
def iDict (tl : TE) : TI := fun σ H R => tl σ H fun x H1 => ∃ (d : Addr) (o : Obj) (kvs : List (Key × V)), x = .ref d ∧ H1 d = some (.frz o (.dK kvs)) ∧ R (Itd d kvs o) H1
/-! ### xs.count(n), whole numbers -/
def rCount (K : PySem.W.Frag) : V → List V → Hp → VK → Prop := fun x vs H Q => ∃ (p : Addr) (ns : List Int) (n : Int), x = .ref p ∧ vs = [.int n] ∧ SqL K H p (ns.map V.int) ∧ Q (.int (ns.count n : Nat)) H
/-! ### dict(d) -/
end
end L2

namespace L2
open PySem PySem.Spec PyProof.Rows
/-! ### dict(xs), xs a list of pairs -/
section
variable {prog : Program} {w : World} {A : Around} {E : Value → Shared → Prop} {s : Shared}
/-- a pair at hand -/
def PairT {κ : Type} [DecidableEq κ] (knd : PySem.KeyKind prog w κ) (h : Heap) (p : κ × Value) (v : Value) (no : List Addr) : Prop :=
  ∃ a o key n, v = .ref a ∧ a ∉ no ∧ h.get? a = some o ∧ o.cls = .type "tuple" ∧ o.data = .seq #[key, p.2] n ∧ knd.is p.1 key = true
end
section
variable {X : Cx} {pins : List (Addr × Obj)} {σ : St} {H : Hp} {s : Shared}
def rDictL (K : PySem.W.Frag) : List V → Hp → VK → Prop := fun xs H Q => ∃ (l : Addr) (ys : List V) (kvs : List (Key × V)), xs = [.ref l] ∧ SqL K H l ys ∧ PairsAt H ys kvs ∧ kvs.length ≤ 1000 ∧ ∀ p, H p = none → Q (.ref p) (upd H p (.dK (mergeK [] kvs)))
end
end L2

namespace L2
open PySem PySem.Spec PyProof.Rows
/-! ### // by a divisor of any usual size -/
def CDivB (i j : Int) : Prop := 0 < j ∧ j < 1000000000000000000000000000000000000000000000000000000000000
theorem op_fdivB {X : Cx} : OpR X (binaryOp .FloorDiv) (rI CDivB fun i j => .int (i / j)) := opI fun i j _ _ _ _ _ hc q => by
  have h1 : (0 : Int) < j := hc.1
  have h2 : j < 1000000000000000000000000000000000000000000000000000000000000 := hc.2
  refine floordiv_int (by omega) (by rw [Int.fdiv_eq_ediv_of_nonneg i (by omega)]; exact q) (.inl (PyProof.noPylong_of_log2 ?_))
  have hn : j.natAbs ≠ 0 := by omega
  have hl : j.natAbs < 2 ^ 400 := Nat.lt_of_lt_of_le (show j.natAbs < 1000000000000000000000000000000000000000000000000000000000000 by omega) (by decide +kernel)
  exact Nat.lt_trans ((Nat.log2_lt hn).mpr hl) (by decide)
/-! ### texts in order -/
def leS (a b : Str) : Bool := !decide (b.cps.toList < a.cps.toList)
theorem leS_total (a b : Str) : (leS a b || leS b a) = true := by
  unfold leS
  by_cases h : b.cps.toList < a.cps.toList
  · have h2 : ¬ a.cps.toList < b.cps.toList := fun q => List.lt_irrefl _ (List.lt_trans h q)
    simp [h2]
  · simp [h]
theorem leS_trans (a b c : Str) (h1 : leS a b = true) (h2 : leS b c = true) : leS a c = true := by
  unfold leS at *
  simp only [Bool.not_eq_true', decide_eq_false_iff_not] at *
  exact fun q => (List.not_lt.mp h1 : a.cps.toList ≤ b.cps.toList) |> fun x => (List.le_trans x (List.not_lt.mp h2)) q
theorem leS_anti {a b : Str} (h1 : leS a b = true) (h2 : leS b a = true) : a = b := by
  unfold leS at *
  simp only [Bool.not_eq_true', decide_eq_false_iff_not] at *
  have e : a.cps.toList = b.cps.toList := List.le_antisymm (List.not_lt.mp h1) (List.not_lt.mp h2)
  obtain ⟨⟨x⟩⟩ := a
  obtain ⟨⟨y⟩⟩ := b
  simp at e
  rw [e]
def srtS (zs : List Str) : List Str := zs.mergeSort leS
theorem srtS_perm (zs : List Str) : (srtS zs).Perm zs := List.mergeSort_perm _ _
theorem srtS_pw (zs : List Str) : (srtS zs).Pairwise (fun a b => leS a b = true) := List.pairwise_mergeSort leS_trans leS_total zs
theorem riseS_eq : ∀ {l m : List Str}, l.Perm m → l.Pairwise (fun a b => leS a b = true) → m.Pairwise (fun a b => leS a b = true) → l = m
  | [], m, p, _, _ => List.Perm.nil_eq p
  | a :: l, [], p, _, _ => absurd p.length_eq (by simp)
  | a :: l, b :: m, p, h1, h2 => by
    have e : a = b := by
      rcases List.mem_cons.mp (p.mem_iff.mp List.mem_cons_self) with q | q
      · exact q
      · rcases List.mem_cons.mp (p.mem_iff.mpr List.mem_cons_self) with r | r
        · exact r.symm
        · exact leS_anti ((List.pairwise_cons.mp h1).1 b r) ((List.pairwise_cons.mp h2).1 a q)
    subst e
    rw [riseS_eq ((List.perm_cons a).mp p) (List.pairwise_cons.mp h1).2 (List.pairwise_cons.mp h2).2]
theorem risingS_pw : ∀ (p : Str) (l : List Str), risingS p l = true → (p :: l).Pairwise (fun a b => leS a b = true)
  | p, [], _ => List.pairwise_singleton _ _
  | p, x :: r, h => by
    have h : (!ltCps x.cps.toList p.cps.toList && risingS x r) = true := h
    rw [Bool.and_eq_true] at h
    have ih := risingS_pw x r h.2
    have e : leS p x = true := by
      unfold leS
      rw [← ltCps_eq]
      exact h.1
    refine List.pairwise_cons.mpr ⟨fun y hy => ?_, ih⟩
    rcases List.mem_cons.mp hy with rfl | hy
    · exact e
    · exact leS_trans p x y e ((List.pairwise_cons.mp ih).1 y hy)
theorem sortedS_pw : ∀ {l : List Str}, sortedS l = true → l.Pairwise (fun a b => leS a b = true)
  | [], _ => List.Pairwise.nil
  | x :: r, h => risingS_pw x r h
theorem srtS_of {l zs : List Str} (p : l.Perm zs) (h : sortedS l = true) : l = srtS zs := riseS_eq (p.trans (srtS_perm zs).symm) (sortedS_pw h) (srtS_pw zs)
section
variable {X : Cx}
theorem vals_strs : ∀ {us : List Value} {zs : List Str}, StrsAre us zs → Vals (zs.map V.str) us
  | _, _, .nil => .nil
  | _, _, .cons x t r => .cons ⟨t, rfl⟩ (vals_strs r)
/-- sorted(d), the keys texts -/
def rSortD : List V → Hp → VK → Prop := fun xs H Q => ∃ (d : Addr) (kvs : List (Key × V)) (zs : List Str), xs = [.ref d] ∧ H d = some (.dK kvs) ∧ kvs.map (·.1) = zs.map Sum.inr ∧ zs.length < 64 ∧ ∀ p, H p = none → Q (.ref p) (upd H p (.lst ((srtS zs).map V.str)))
end
/-! ### sorted(xs) of a list -/
def srtI (ns : List Int) : List Int := ns.mergeSort fun a b => decide (a ≤ b)
theorem srtI_perm (ns : List Int) : (srtI ns).Perm ns := List.mergeSort_perm _ _
theorem srtI_pw (ns : List Int) : (srtI ns).Pairwise (· ≤ ·) := by
  have h := List.pairwise_mergeSort (le := fun a b : Int => decide (a ≤ b)) (by intro a b c h1 h2; simp at *; omega) (by intro a b; simp; omega) ns
  exact h.imp fun h => by simpa using h
theorem riseI_eq : ∀ {l m : List Int}, l.Perm m → l.Pairwise (· ≤ ·) → m.Pairwise (· ≤ ·) → l = m
  | [], m, p, _, _ => List.Perm.nil_eq p
  | a :: l, [], p, _, _ => absurd p.length_eq (by simp)
  | a :: l, b :: m, p, h1, h2 => by
    have e : a = b := by
      rcases List.mem_cons.mp (p.mem_iff.mp List.mem_cons_self) with q | q
      · exact q
      · rcases List.mem_cons.mp (p.mem_iff.mpr List.mem_cons_self) with r | r
        · exact r.symm
        · have := (List.pairwise_cons.mp h1).1 b r
          have := (List.pairwise_cons.mp h2).1 a q
          omega
    subst e
    rw [riseI_eq ((List.perm_cons a).mp p) (List.pairwise_cons.mp h1).2 (List.pairwise_cons.mp h2).2]
theorem srtI_of {l ns : List Int} (p : l.Perm ns) (h : l.Pairwise (· ≤ ·)) : l = srtI ns := riseI_eq (p.trans (srtI_perm ns).symm) h (srtI_pw ns)
section
variable {X : Cx}
def rSortI (K : PySem.W.Frag) : List V → Hp → VK → Prop := fun xs H Q => ∃ (p : Addr) (ns : List Int), xs = [.ref p] ∧ SqL K H p (ns.map V.int) ∧ ns.length < 64 ∧ ∀ q, H q = none → Q (.ref q) (upd H q (.lst ((srtI ns).map V.int)))
def rSortS (K : PySem.W.Frag) : List V → Hp → VK → Prop := fun xs H Q => ∃ (p : Addr) (zs : List Str), xs = [.ref p] ∧ SqL K H p (zs.map V.str) ∧ zs.length < 64 ∧ ∀ q, H q = none → Q (.ref q) (upd H q (.lst ((srtS zs).map V.str)))
end
end L2

namespace L2
open PySem PySem.Spec PyProof.Rows
/-! ### dicts from texts to numbers -/
abbrev Ps := List (Str × Int)
def kvOf (ps : Ps) : List (Key × V) := ps.map fun p => (Sum.inr p.1, V.int p.2)
def nsOf (ps : Ps) : List Int := ps.map (·.2)
structure PsOk (ps : Ps) : Prop where
  nd : (ps.map (·.1)).Nodup
  ok : ∀ p ∈ ps, PyData.strOk p.1 = true
  len : ps.length ≤ 50
def pD (p : Str × Int) : PyData := .tuple [.str p.1, .int p.2]
theorem pairs_dvs {H : Hp} : ∀ {ps : Ps} {ys : List V}, PairsAt H ys (kvOf ps) → DVs H ys (ps.map pD)
  | [], _, h => by cases h; exact .nil
  | p :: ps, _, h => by
    cases h with
    | cons e r => exact .cons (.tup e (.cons (.str _) (.cons (.int _) .nil))) (pairs_dvs r)
/-! ### tallies -/
structure Ty where
  room : Int
  cs : Ps
  lt : Int
  total : Int
def Ty.D (t : Ty) : PyData := .tuple [.int t.room, .tuple (t.cs.map pD), .int t.lt, .int t.total]
def Ty.sum (t : Ty) : Int := (nsOf t.cs).sum
structure Ty.Ok (t : Ty) : Prop where
  room1 : 1 ≤ t.room
  room2 : t.room ≤ 20
  nd : (t.cs.map (·.1)).Nodup
  rise : (t.cs.map (·.1)).Pairwise (fun a b => leS a b = true)
  word : ∀ p ∈ t.cs, p.1 ∈ words
  pos : ∀ p ∈ t.cs, 1 ≤ p.2
  len : (t.cs.length : Int) ≤ t.room
  lt0 : 0 ≤ t.lt
  lo : (t.room + 1) * t.lt ≤ t.total - t.sum
  hi : t.total - t.sum ≤ 2 * t.room * t.lt
theorem DVs.pairs_inv {H : Hp} : ∀ {ps : Ps} {ys : List V}, DVs H ys (ps.map pD) → PairsAt H ys (kvOf ps)
  | [], _, h => by rw [h.nil_inv]; exact .nil
  | p :: ps, _, h => by
    obtain ⟨x, r, rfl, h1, h2⟩ := DVs.cons_inv h
    obtain ⟨a, xs, rfl, e, q⟩ := DV.tup_inv h1
    obtain ⟨_, _, rfl, k1, q⟩ := q.cons_inv
    obtain ⟨_, _, rfl, k2, q⟩ := q.cons_inv
    have := q.nil_inv
    subst this
    cases k1
    cases k2
    exact .cons e (DVs.pairs_inv h2)
theorem DV.ty_inv {H : Hp} {v : V} {t : Ty} (h : DV H v t.D) : ∃ a b rows, v = .ref a ∧ H a = some (.tup [.int t.room, .ref b, .int t.lt, .int t.total]) ∧ H b = some (.tup rows) ∧ PairsAt H rows (kvOf t.cs) := by
  obtain ⟨a, xs, rfl, e, q⟩ := DV.tup_inv h
  obtain ⟨_, _, rfl, k1, q⟩ := q.cons_inv
  obtain ⟨_, _, rfl, k2, q⟩ := q.cons_inv
  obtain ⟨_, _, rfl, k3, q⟩ := q.cons_inv
  obtain ⟨_, _, rfl, k4, q⟩ := q.cons_inv
  have := q.nil_inv
  subst this
  cases k1
  cases k3
  cases k4
  obtain ⟨b, rows, rfl, e2, q2⟩ := DV.tup_inv k2
  exact ⟨a, b, rows, rfl, e, e2, DVs.pairs_inv q2⟩
theorem Ty.dv {H : Hp} {a b : Addr} {rows : List V} {t : Ty} (e : H a = some (.tup [.int t.room, .ref b, .int t.lt, .int t.total])) (e2 : H b = some (.tup rows)) (p : PairsAt H rows (kvOf t.cs)) : DV H (.ref a) t.D :=
  .tup e (.cons (.int _) (.cons (.tup e2 (pairs_dvs p)) (.cons (.int _) (.cons (.int _) .nil))))
/-- the pairs of a dict, by rising keys -/
def look (ps : Ps) (z : Str) : Int := match ps with
  | [] => 0
  | p :: r => if p.1 = z then p.2 else look r z
def srtP (ps : Ps) : Ps := (srtS (ps.map (·.1))).map fun z => (z, look ps z)
end L2

namespace L2
open PySem PySem.Spec PyProof.Rows
/-! ### cutting a text -/
theorem strOk_of {z : Str} (h : ∀ c ∈ z.cps.toList, c < 0x110000) : PyData.strOk z = true :=
  Array.all_eq_true_iff_forall_mem.mpr fun c hc => decide_eq_true (h c (Array.mem_def.mp hc))
/-! ### a pen is no tuple -/
theorem PenAt.tup {H : Hp} {a p : Addr} {xs : List V} (h : PenAt H a) (e : H p = some (.tup xs)) : hide a H p = some (.tup xs) := by
  have ne : p ≠ a := fun q => by
    subst q
    obtain ⟨_, _, _, e'⟩ := h
    rw [e] at e'
    cases e'
  rw [hide_ne ne]
  exact e
theorem PenAt.pairs {H : Hp} {a : Addr} (h : PenAt H a) : ∀ {xs : List V} {kvs : List (Key × V)}, PairsAt H xs kvs → PairsAt (hide a H) xs kvs
  | _, _, .nil => .nil
  | _, _, .cons e r => .cons (h.tup e) (PenAt.pairs h r)
theorem PenAt.ty {H : Hp} {a : Addr} {v : V} {t : Ty} (h : PenAt H a) (d : DV H v t.D) : DV (hide a H) v t.D := by
  obtain ⟨p, b, rows, rfl, e1, e2, pa⟩ := DV.ty_inv d
  exact Ty.dv (h.tup e1) (h.tup e2) (h.pairs pa)
/-! ### pairs one by one -/
theorem PairsAt.get {H : Hp} : ∀ {xs : List V} {kvs : List (Key × V)}, PairsAt H xs kvs → ∀ {i : Nat} {x : V}, xs[i]? = some x → ∃ (a : Addr) (k : Key) (v : V), x = .ref a ∧ kvs[i]? = some (k, v) ∧ H a = some (.tup [kV k, v])
  | _, _, .nil, i, x, e => by simp at e
  | _, _, .cons (a := a) (k := k) (v := v) h r, 0, x, e => ⟨a, k, v, by simpa using e.symm, rfl, h⟩
  | _, _, .cons h r, i + 1, x, e => by
    obtain ⟨a, k, v, e1, e2, e3⟩ := PairsAt.get r (show _ by simpa using e)
    exact ⟨a, k, v, e1, by simpa using e2, e3⟩
def rSlS : V → Option Int → Option Int → Hp → VK → Prop := fun x lo hi H Q => ∃ z, x = .str z ∧ z.length ≤ sizeLine ∧ Q (.str (Txt.slice z lo hi)) H
section
variable {X : Cx}
theorem sl_str : SlR X rSlS := by
  intro pins s σ H x v vl vu lo hi sl Q I rx hs pl pu h
  obtain ⟨z, rfl, hz, q⟩ := h
  obtain ⟨t, rfl⟩ := rx
  refine ⟨"str", _, F.slot_str_getitem.lookup, typeIs_str _ _ _, ?_⟩
  have fin : ∀ t' k, EP X pins σ Q (.str (Txt.slice z lo hi) t') { s with toks := k } := fun t' k =>
    ⟨.str (Txt.slice z lo hi), H, I.kept (t' := k) fun b ob e => e, ⟨t', rfl⟩, q⟩
  obtain ⟨o, ho, hc, hd⟩ := hs
  cases pl with
  | none =>
    cases pu with
    | none => exact wpAny_getItem_str_slice (l := none) (u := none) (st := none) ⟨o, ho, hc, hd⟩ rfl (post_val_or_str ⟨Nat.le_trans (Txt.slice_le z _ _) hz, fin⟩)
    | int j uj => exact wpAny_getItem_str_slice (l := none) (u := some (j, uj)) (st := none) ⟨o, ho, hc, hd⟩ rfl (post_val_or_str ⟨Nat.le_trans (Txt.slice_le z _ _) hz, fin⟩)
  | int i ui =>
    cases pu with
    | none => exact wpAny_getItem_str_slice (l := some (i, ui)) (u := none) (st := none) ⟨o, ho, hc, hd⟩ rfl (post_val_or_str ⟨Nat.le_trans (Txt.slice_le z _ _) hz, fin⟩)
    | int j uj => exact wpAny_getItem_str_slice (l := some (i, ui)) (u := some (j, uj)) (st := none) ⟨o, ho, hc, hd⟩ rfl (post_val_or_str ⟨Nat.le_trans (Txt.slice_le z _ _) hz, fin⟩)
/-! ### dict(tuple of pairs) -/
def rDictT : List V → Hp → VK → Prop := fun xs H Q => ∃ (l : Addr) (ys : List V) (kvs : List (Key × V)), xs = [.ref l] ∧ H l = some (.tup ys) ∧ PairsAt H ys kvs ∧ kvs.length ≤ 1000 ∧ ∀ p, H p = none → Q (.ref p) (upd H p (.dK (mergeK [] kvs)))
end
end L2

namespace L2
open PySem PySem.Spec PyProof.Rows
/-! ### sorted lists, falling -/
def srt (ns : List Int) : List Int := ns.mergeSort fun a b => decide (b ≤ a)
/-- the cut, as a number -/
def cutM (room : Int) (ns : List Int) : Int := if (ns.length : Int) ≤ room then 0 else (srt ns).getD room.toNat 0
/-! ### two tallies as one -/
def keysM (ps qs : Ps) : List Str := ps.map (·.1) ++ (qs.map (·.1)).filter fun z => decide (z ∉ ps.map (·.1))
def sumM (ps qs : Ps) (z : Str) : Int := look ps z + look qs z
def cutT (room : Int) (ps qs : Ps) : Int := cutM room ((keysM ps qs).map (sumM ps qs))
def csM (room : Int) (ps qs : Ps) : Ps := ((srtS (keysM ps qs)).filter fun z => decide (cutT room ps qs < sumM ps qs z)).map fun z => (z, sumM ps qs z - cutT room ps qs)
def mergeT (a b : Ty) : Ty := ⟨a.room, csM a.room a.cs b.cs, a.lt + b.lt + cutT a.room a.cs b.cs, a.total + b.total⟩
/-! ### sums cut -/
end L2

namespace L2
open PySem PySem.Spec PyProof.Rows
/-! ### a comprehension's own name that is a local one's, too -/
def Cx.ren (X : Cx) (N' : List Str) : Cx := { X with N := N' }
theorem Cx.Ok.ren {X : Cx} {N' : List Str} (o : X.Ok) : (X.ren N').Ok := ⟨o.mod, o.kind, o.glob, o.blt, o.above, o.inj, o.has, o.cab, o.hd, o.frames, o.stk, o.exf, o.bs, o.bsz, o.noex, o.exfs, o.funs, o.frf⟩
theorem Cx.Ok.unren {X : Cx} {N' : List Str} (o : (X.ren N').Ok) : X.Ok := ⟨o.mod, o.kind, o.glob, o.blt, o.above, o.inj, o.has, o.cab, o.hd, o.frames, o.stk, o.exf, o.bs, o.bsz, o.noex, o.exfs, o.funs, o.frf⟩
/-- where the names differ nothing is known -/
def Hid : List Str → List Str → St → Prop
  | [], [], [] => True
  | a :: N, b :: N', o :: σ => (a = b ∨ o = none) ∧ Hid N N' σ
  | _, _, _ => False
theorem Hid.at : ∀ {N N' : List Str} {σ : St}, Hid N N' σ → ∀ i : Nat, N[i]? = N'[i]? ∨ σ[i]? = some none
  | [], [], [], _, i => .inl rfl
  | a :: N, b :: N', o :: σ, h, 0 => by
    rcases h.1 with q | q
    · exact .inl (by rw [q]; rfl)
    · exact .inr (by rw [q]; rfl)
  | a :: N, b :: N', o :: σ, h, i + 1 => by
    simpa using Hid.at (N := N) (N' := N') (σ := σ) h.2 i
section
variable {X : Cx} {N' : List Str} {pins : List (Addr × Obj)} {σ : St} {H : Hp} {s : Shared}
theorem Inv.ren (I : Inv X pins σ H s) (hl : N'.length = X.N.length) (h : Hid X.N N' σ) : Inv (X.ren N') pins σ H s := by
  refine ⟨I.ok.ren, I.os, I.bare, I.base, ?_, I.cell, I.free, I.freeC, I.pin, I.hok, I.len.trans hl.symm⟩
  obtain ⟨m, hn, hm⟩ := I.loc
  refine ⟨m, hn, fun i x v e1 e2 e3 => hm i x v ?_ e2 e3⟩
  rcases h.at i with q | q
  · exact q.trans e1
  · rw [e2] at q; cases q
theorem Inv.unren (I : Inv (X.ren N') pins σ H s) (hl : N'.length = X.N.length) (h : Hid X.N N' σ) : Inv X pins σ H s := by
  refine ⟨I.ok.unren, I.os, I.bare, I.base, ?_, I.cell, I.free, I.freeC, I.pin, I.hok, I.len.trans hl⟩
  obtain ⟨m, hn, hm⟩ := I.loc
  refine ⟨m, hn, fun i x v e1 e2 e3 => hm i x v ?_ e2 e3⟩
  rcases h.at i with q | q
  · exact q.symm.trans e1
  · rw [e2] at q; cases q
def tRen (N N' : List Str) (t : TE) : TE := fun σ H Q => Hid N N' σ ∧ t σ H Q
theorem pe_ren {e : Expr} {t : TE} (N' : List Str) (h : PE (X.ren N') e t) (hl : N'.length = X.N.length := by rfl) : PE X e (tRen X.N N' t) := by
  intro pins s σ H Q I q
  exact thn (h pins s σ H Q (I.ren hl q.1) q.2) fun u s1 ⟨x, H1, I1, r1, q1⟩ => ⟨x, H1, I1.unren hl q.1, r1, q1⟩
theorem Inv.forget (I : Inv X pins σ H s) (i : Nat) : Inv X pins (σ.set i none) H s := by
  refine ⟨I.ok, I.os, I.bare, I.base, ?_, I.cell, I.free, I.freeC, I.pin, I.hok, by rw [List.length_set]; exact I.len⟩
  obtain ⟨m, hn, hm⟩ := I.loc
  refine ⟨m, hn, fun j x v e1 e2 e3 => hm j x v e1 ?_ e3⟩
  by_cases e : i = j
  · subst e
    rw [List.getElem?_set_self'] at e2
    cases q : σ[i]? with
    | none => rw [q] at e2; cases e2
    | some o => rw [q] at e2; cases e2
  · rw [List.getElem?_set_ne e] at e2
    exact e2
def tForget (i : Nat) (t : TS) : TS := fun D σ H => t D (σ.set i none) H
theorem pss_forget {ss : List Stmt} {t : TS} (i : Nat) (h : PSs X ss t) : PSs X ss (tForget i t) := by
  intro pins s σ H D I q
  exact h pins s _ H D (I.forget i) q
end
end L2

namespace L2
open PySem PySem.Spec PyProof.Rows
/-! ### the dict of sums as it is filled -/
def mrgP (ps qs : Ps) : Ps := (keysM ps qs).map fun z => (z, sumM ps qs z)
/-- a block's first part, and what is known behind it -/
theorem seq_post {t u : TS} {D : Ends} {σ : St} {H : Hp} (R : St → Hp → Prop) (main : ∀ nx : St → Hp → Prop, (∀ σ' H', R σ' H' → nx σ' H') → t { D with nx := nx } σ H) (fin : ∀ σ' H', R σ' H' → u D σ' H') : tSeq t u D σ H := main _ fin
end L2

namespace L2
open PySem PySem.Spec PyProof.Rows
/-! ### an exception on its way -/
theorem mem_frs {l : List Env} {env : Env} {b : Addr} (h : env ∈ l) (e : env.frame = some b) : b ∈ frs l := List.mem_filterMap.mpr ⟨env, h, e⟩
/-- the frames that it has still to leave; its address, its newest entry, its class -/
structure Fly (l : List Env) (a T : Addr) (cls : Value) (h : Heap) : Prop where
  fr : ∃ B, h.FunFrames B l
  ne : T ≠ a
  ex : ∃ oe vs oT ts a0, h.get? a = some oe ∧ (oe.cls = cls ∧ vs[0]? = some a0) ∧ oe.data = .fields vs ∧ vs[1]? = some (.ref T) ∧ h.get? T = some oT ∧ oT.data = .fields ts ∧ ts[3]? = some .none
/-- all but the exception, its entry and the frames is kept; of the frames the slots may change -/
structure Kp (l : List Env) (a T : Addr) (h h' : Heap) : Prop where
  keep : ∀ b o, h.get? b = some o → b ≠ a → b ≠ T → b ∉ frs l → h'.get? b = some o
  slot : ∀ b o, h.get? b = some o → b ∈ frs l → ∃ sl, h'.get? b = some { o with slots := sl }
theorem Kp.trans {l : List Env} {a T T1 : Addr} {h h1 h2 : Heap} (x : Kp l a T h h1) (y : Kp l a T1 h1 h2) (f : ∀ b o, h.get? b = some o → b = T1 → b = T) : Kp l a T h h2 where
  keep := fun b o e n1 n2 n3 => y.keep b o (x.keep b o e n1 n2 n3) n1 (fun z => n2 (f b o e z)) n3
  slot := fun b o e n => by
    obtain ⟨sl, e1⟩ := x.slot b o e n
    obtain ⟨sl', e2⟩ := y.slot b _ e1 n
    exact ⟨sl', e2⟩
abbrev fb (l : List Env) (a T : Addr) (h : Heap) : Heap := PySem.W.hideAll h (a :: T :: frs l)
theorem Fly.w {l : List Env} {a T : Addr} {cls : Value} {h : Heap} (F : Fly l a T cls h) : ∃ a0, Heap.FlyingW (fb l a T h) l a cls a0 h := by
  obtain ⟨B, fr⟩ := F.fr
  obtain ⟨oe, vs, oT, ts, a0, e1, e2, e3, e4, e5, e6, e7⟩ := F.ex
  refine ⟨a0, fun b o q => PySem.W.of_hideAll _ q, PySem.W.hideAll_none _ (.head _), PySem.W.funFrames_hide fr fun env he b hb => .tail _ (.tail _ (mem_frs he hb)), oe, vs, T, oT, ts, e1, e2, e3, e4, PySem.W.hideAll_none _ (.tail _ (.head _)), F.ne, e5, e6, e7⟩
section
variable {M : Model} {A : Around} {E : Value → Shared → Prop} {s : Shared} {env : Env} {outer : List Env} {L a T : Addr} {cls : Value} {Q : Unit → Shared → Prop}
end
theorem ObjOk.has {P : Program} {w : World} {H : Hp} {h : Heap} {a : Addr} {o : HO} (x : ObjOk P w H h a o) : ∃ ob, h.get? a = some ob := by
  cases o with
  | lst xs => obtain ⟨_, _, _, _, e⟩ := x; exact ⟨_, e⟩
  | tup xs => obtain ⟨_, _, _, _, e, _⟩ := x; exact ⟨_, e⟩
  | dK kvs => obtain ⟨_, _, _, _, o, _, _, e, _⟩ := x; exact ⟨_, e⟩
  | dT kvs => obtain ⟨_, _, _, _, o, _, _, e, _⟩ := x; exact ⟨_, e⟩
  | set S n => obtain ⟨o, _, _, _, e, _⟩ := x; exact ⟨_, e⟩
  | ins C dx fs => obtain ⟨_, _, _, e, _⟩ := x; exact ⟨_, e⟩
  | own y => obtain ⟨_, e⟩ := x; exact ⟨_, e⟩
  | xd fs => obtain ⟨_, ⟨_, _, _, e, _⟩, _⟩ := x; exact ⟨_, e⟩
  | rng lo hi => obtain ⟨_, _, _, e⟩ := x; exact ⟨_, e⟩
  | frz ob u => obtain ⟨e, _⟩ := x; exact ⟨_, e⟩
  | tbl ps => exact ⟨_, (show h.get? a = some _ from x)⟩
  | met f y => exact ⟨_, (show h.get? a = some _ from x)⟩
  | ext φ => obtain ⟨_, ⟨_, e⟩, _⟩ := x; exact ⟨_, e⟩
theorem HOk.no {P : Program} {w : World} {H : Hp} {h : Heap} {a : Addr} (x : HOk P w H h) (e : h.get? a = none) : H a = none := by
  cases q : H a with
  | none => rfl
  | some o =>
    obtain ⟨ob, z⟩ := (x a o q).has
    rw [e] at z
    cases z
theorem HOk.kp {P : Program} {w : World} {H : Hp} {h h' : Heap} {l : List Env} {a T : Addr} (x : HOk P w H h) (k : Kp l a T h h') (ha : H a = none) (hT : H T = none) (hl : ∀ b ∈ frs l, H b = none) : HOk P w H h' := fun b u e => by
  refine (x b u e).stay (fun c v hc q => ?_) (fun _ q => q) fun _ _ q => q
  have nn : H c ≠ none := by
    rcases hc with z | z
    · rw [z, e]; exact fun q => nomatch q
    · rw [z]; exact fun q => nomatch q
  exact k.keep c v q (fun z => nn (z ▸ ha)) (fun z => nn (z ▸ hT)) fun z => nn (hl c z)
end L2

namespace L2
open PySem PySem.Spec PyProof.Rows
/-- how an exception lies behind a call -/
def CX1 (P : Program) (w : World) : CXT := fun outer H s E e s' => ∃ (a T C : Addr) (H' : Hp), e = .ref a ∧ s'.os = s.os ∧ AllBare s'.gens ∧ Un (frs outer) [] H H' s.heap s'.heap ∧ HOk P w H' s'.heap ∧
  Fly outer a T (.ref C) s'.heap ∧ s.heap.get? a = none ∧ s.heap.get? T = none ∧ H' a = none ∧ H' T = none ∧ E (.ref C) none H'
section
variable {P : Program} {w : World} {K : PySem.W.Frag} {mg : Str → Option Value} {base : Heap} {N : List Str} {qual : Str} {scope : Scope} {f : Addr} {cd : Value} {A : Around} {outer : List Env} {s : Shared} {H : Hp} {E : XK}
abbrev cx1 (P : Program) (w : World) (K : PySem.W.Frag) (mg : Str → Option Value) (base : Heap) (N : List Str) (qual : Str) (scope : Scope) (f : Addr) (cd : Value) (A : Around) (outer : List Env) (s : Shared) (H : Hp) (E : XK) : Cx := cxOf (CX1 P w) P w K mg base N qual scope f cd A outer s H E
/-- raise C(..), C an own class of exceptions -/
def tRaise (C : Addr) (E : XK) (ta : TA) : TS := fun _ σ H => ta σ H fun vs H1 => vs.length ≤ 1000 ∧ E (.ref C) none H1
end
/-! ### a def of the module that may raise, by its name -/
structure HasX (P : Program) (w : World) (K : PySem.W.Frag) (mg : Str → Option Value) (base : Heap) (x : Str) (k : Nat) (ps : List Str) (sp : Sp) : Prop where
  ex : ∃ f fd, FnOk P w K mg base (CX1 P w) k f fd ps sp ∧ Binds K fd ps [] ∧ PySem.W.keepIn K (.ref f) = true ∧ mg x = some (.ref f)
theorem HasX.of {P : Program} {w : World} {K : PySem.W.Frag} {mg : Str → Option Value} {base : Heap} {x : Str} {k : Nat} {ps : List Str} {sp : Sp} {f : Addr} {fd : FuncData} (F : FnOk P w K mg base (CX1 P w) k f fd ps sp) (b : Binds K fd ps []) (kp : PySem.W.keepIn K (.ref f) = true) (m : mg x = some (.ref f)) : HasX P w K mg base x k ps sp := ⟨f, fd, F, b, kp, m⟩
section
variable {P : Program} {w : World} {K : PySem.W.Frag} {mg : Str → Option Value} {base : Heap} {N : List Str} {qual : Str} {scope : Scope} {f : Addr} {cd : Value} {A : Around} {outer : List Env} {s : Shared} {H : Hp} {E : XK}
variable {j k : Nat} {ps : List Str} {sp : Sp} {x : Str} {p pos : Pos} {e : Expr} {es : List Expr} {t : TA}
end
end L2

namespace L2
open PySem PySem.Spec PyProof.Rows
/-! ### isinstance of an exception of an own class -/
structure ExcK (K : PySem.W.Frag) (C : Addr) : Prop where
  ga : PySem.W.findIn K (.ref C) "__getattribute__" = some (some (.builtin "BaseException.__getattribute__"))
  gr : PySem.W.findIn K (.ref C) "__getattr__" = some none
  cl : PySem.W.findIn K (.ref C) "__class__" = some (some (.builtin "object.__class__"))
  sb : PySem.W.subIn K (.ref C) (.type "BaseException") = some true
  so : PySem.W.subIn K (.ref C) (.type "object") = some true
  ob : ∃ oc od cdt sl, K.lookup C = some ⟨oc, od, .cls cdt, sl⟩
section
variable {prog : Program} {w : World} {A : Around} {E : Value → Shared → Prop} {h : Heap} {g : Array GenState} {d : Drawn} {t : Nat} {os : OsState} {a C : Addr} {o : Obj} {K : PySem.W.Frag}
end
end L2

namespace L2
open PySem PySem.Spec PyProof.Rows
/-- an exception of the class at C, that stands at a -/
def xo (C a : Addr) : HO := .ext fun h => ∃ o, h.get? a = some o ∧ o.cls = .ref C
theorem HOk.more {P : Program} {w : World} {H : Hp} {h : Heap} {a : Addr} {o : HO} (x : HOk P w H h) (hn : H a = none) (new : ObjOk P w (upd H a o) h a o) : HOk P w (upd H a o) h := fun b u e => by
  by_cases hb : b = a
  · subst hb; rw [upd_same] at e; cases e; exact new
  · rw [upd_ne hb] at e
    exact (x b u e).stay (fun c v _ q => q) (fun c q => by rw [upd_ne (ne_of_none q hn)]; exact q) fun c xs q => by rw [upd_ne (ne_of_none q hn)]; exact q
theorem Un.more {fs : List Addr} {H H' : Hp} {h h' : Heap} {a : Addr} {o : HO} (u : Un fs [] H H' h h') (na : h.get? a = none) (hn : H' a = none) : Un fs [] H (upd H' a o) h h' where
  keep := u.keep
  slot := u.slot
  free := fun b ob q n hx => by
    rw [upd_ne (fun z => by rw [z, na] at q; cases q)]
    exact u.free b ob q n hx
  there := u.there
  tups := fun b xs q => by rw [upd_ne (ne_of_none (u.tups b xs q) hn)]; exact u.tups b xs q
  frzs := fun b ob xs q => by rw [upd_ne (ne_of_none (u.frzs b ob xs q) hn)]; exact u.frzs b ob xs q
  tbls := fun b ps q => by
    obtain ⟨m, e⟩ := u.tbls b ps q
    exact ⟨m, by rw [upd_ne (ne_of_none e hn)]; exact e⟩
theorem Un.kp {l : List Env} {H H' : Hp} {h h1 h2 : Heap} {a T : Addr} (u : Un (frs l) [] H H' h h1) (k : Kp l a T h1 h2) (na : h.get? a = none) (nT : h.get? T = none) : Un (frs l) [] H H' h h2 := by
  have n1 : ∀ b o, h.get? b = some o → b ≠ a := fun b o e z => by rw [z, na] at e; cases e
  have n2 : ∀ b o, h.get? b = some o → b ≠ T := fun b o e z => by rw [z, nT] at e; cases e
  refine ⟨fun b o e n hb hx => k.keep b o (u.keep b o e n hb hx) (n1 b o e) (n2 b o e) hb, fun b o e n hb hx => ?_, u.free, fun b o e hx => ?_, u.tups, u.frzs, u.tbls⟩
  · obtain ⟨sl, e1⟩ := u.slot b o e n hb hx
    obtain ⟨sl', e2⟩ := k.slot b _ e1 hb
    exact ⟨sl', e2⟩
  · obtain ⟨o', e1⟩ := u.there b o e hx
    by_cases hb : b ∈ frs l
    · obtain ⟨sl', e2⟩ := k.slot b _ e1 hb
      exact ⟨_, e2⟩
    · exact ⟨_, k.keep b o' e1 (n1 b o e) (n2 b o e) hb⟩
/-- within an except suite -/
abbrev Cx.held (X : Cx) (a : Addr) (E : Value → Shared → Prop) : Cx := { X with A := X.A.mark (some (.ref a)), calm := false, xe := E }
theorem Inv.held {X : Cx} {pins : List (Addr × Obj)} {σ : St} {H : Hp} {s : Shared} (I : Inv X pins σ H s) (a : Addr) (E : Value → Shared → Prop) : Inv (X.held a E) pins σ H s :=
  have ok := I.ok
  ⟨⟨ok.mod, ok.kind, ok.glob, ok.blt, ok.above, ok.inj, ok.has, ok.cab, fun z => Bool.noConfusion z, ok.frames, ok.stk, ok.exf, ok.bs, ok.bsz, ok.noex, ok.exfs, ok.funs, ok.frf⟩, I.os, I.bare, I.base, I.loc, I.cell, I.free, I.freeC, I.pin, I.hok, I.len⟩
section
variable {X : Cx} {pins : List (Addr × Obj)} {σ : St} {H : Hp} {s : Shared}
end
/-! ### try: f(..) except S as e: suite -/
def tTry (K : PySem.W.Frag) (S : Addr) (sp : Sp) (i : Nat) (ta : TA) (tb : TS) : TS := fun D σ H => ta σ H fun vs H1 => sp vs H1 (fun _ H2 => D.nx σ H2) (fun cv _ H2 => ∃ C, cv = .ref C ∧ PySem.W.exmOne K (.ref C) (.ref S) = some true ∧
  ∀ a, H2 a = none → tb { nx := fun σ' H3 => (∃ v, σ'[i]? = some (some v)) ∧ D.nx (σ'.set i none) H3, rt := fun _ _ => False } (σ.set i (some (.ref a))) (upd H2 a (xo C a)))
section
variable {X : Cx} {x c n : Str} {p pos cpos epos np hpos : Pos} {e : Expr} {es : List Expr} {ta : TA} {tb : TS} {b₀ : Stmt} {suite : List Stmt} {j k i : Nat} {ps : List Str} {sp : Sp} {S : Addr}
end
/-! ### isinstance(x, C), isinstance(x, (C, ..)), C own classes too -/
def cVal : V → Value
  | .ref D => .ref D
  | .ty T => .type T
  | _ => .none
def isCl : V → Bool
  | .ref _ => true
  | .ty _ => true
  | _ => false
inductive TyX (K : PySem.W.Frag) (H : Hp) : V → Value → Prop
  | non : TyX K H .non (.type "NoneType")
  | exc {a C : Addr} (k : ExcK K C) (e : H a = some (xo C a)) : TyX K H (.ref a) (.ref C)
def rIsX (K : PySem.W.Frag) : List V → Hp → VK → Prop := fun xs H Q => ∃ x c t b, xs = [x, c] ∧ TyX K H x t ∧ ((isCl c = true ∧ PySem.W.kitOne K t (cVal c) = some b) ∨ ∃ tp cs, c = .ref tp ∧ H tp = some (.tup cs) ∧ cs.all isCl = true ∧ PySem.W.kitAny K t (cs.map cVal) = some b) ∧ Q (.bl b) H
end L2

namespace L2
open PySem PySem.Spec PyProof.Rows
/-! ### the tally of nothing -/
def Ty.zero (room : Int) : Ty := ⟨room, [], 0, 0⟩
/-! ### own classes of exceptions -/
end L2

namespace L2
open PySem PySem.Spec PyProof.Rows
/-! ### products of great numbers -/
theorem bits_le {a : Int} (h : a.natAbs < 2 ^ 400) : Builtin.Int.intBits a ≤ 400 := by
  unfold Builtin.Int.intBits
  split
  · exact Nat.zero_le _
  · rename_i hz
    have hn : a.natAbs ≠ 0 := fun z => hz (by simpa using Int.natAbs_eq_zero.mp z)
    exact (Nat.log2_lt hn).mpr h
def big : Int := 1000000000000000000000000000000000000000000000000000000000000000000000000000000
theorem big_lt {a : Int} (h1 : -big < a) (h2 : a < big) : a.natAbs < 2 ^ 400 := by
  have e : big.natAbs < 2 ^ 400 := by decide +kernel
  have : a.natAbs < big.natAbs := by
    have : big.natAbs = big.toNat := rfl
    have hb : (0 : Int) < big := by decide
    omega
  omega
def CMulB (i j : Int) : Prop := (-big < i ∧ i < big) ∧ -big < j ∧ j < big
theorem CMulB.ok {i j : Int} (h : CMulB i j) : IntMulOk i j := by
  have h1 := bits_le (big_lt h.1.1 h.1.2)
  have h2 := bits_le (big_lt h.2.1 h.2.2)
  have e : Builtin.Int.intTooBig ((Builtin.Int.intBits i : Int) + (Builtin.Int.intBits j : Int)) = false := by
    unfold Builtin.Int.intTooBig
    refine decide_eq_false fun q => ?_
    have : (800 : Int) ≤ bitsLine := by decide +kernel
    omega
  unfold IntMulOk
  rw [e, Bool.and_false]
  exact Bool.false_ne_true
/-! ### comprehensions over a tuple -/
theorem comp_tup {K : PySem.W.Frag} {a : Addr} {xs : List V} {k : Nat} {g : TG} {tt : TT} {te : TE} {σ : St} {H : Hp} {Q : VK} (Pv : Nat → List V → Hp → Prop) (h0 : Pv 0 [] H) (hl : ∀ i ys H, i ≤ xs.length → Pv i ys H → SqT K H a xs)
    (hs : ∀ i x ys H (C : List V → Hp → Prop), xs[i]? = some x → Pv i ys H → (∀ ys' H', Pv (i + 1) ys' H' → C ys' H') → ys.length < sizeLine ∧ g x (List.replicate k none ++ σ) H fun σ2 H2 => Wk σ2 (List.replicate k none ++ σ) ∧ tt σ2 H2 fun ok H3 =>
      if ok = true then te σ2 H3 fun y H4 => C (ys ++ [y]) H4 else C ys H3)
    (hd : ∀ ys H, Pv xs.length ys H → ys.length ≤ sizeLine ∧ ∀ p, H p = none → Q (.ref p) (upd H p (.lst ys))) :
    CompR (Itt K a) H k g tt te σ Q := by
  refine ⟨fun i m ys H => m = xs.length - i ∧ i ≤ xs.length ∧ Pv i ys H, ⟨xs.length, by simp, Nat.zero_le _, h0⟩, ?_⟩
  rintro i m ys H ⟨rfl, hi, p⟩
  have q := hl i ys H hi p
  by_cases hlt : i < xs.length
  · have r := hs i xs[i] ys H (fun ys' H' => ∃ m', m' < xs.length - i ∧ m' = xs.length - (i + 1) ∧ i + 1 ≤ xs.length ∧ Pv (i + 1) ys' H') (by simp [hlt]) p fun ys' H' p' => ⟨_, by omega, rfl, hlt, p'⟩
    refine .inr ⟨⟨xs, xs[i], q, by simp [hlt]⟩, r.1, fun x H' y => ?_⟩
    obtain ⟨e, y⟩ := y
    subst e
    have ex : xs[i]? = some x := y xs q
    have ex2 : xs[i] = x := by simpa [hlt] using ex
    rw [← ex2]
    exact r.2
  · have e : i = xs.length := by omega
    subst e
    exact .inl ⟨⟨xs, q, Nat.le_refl _⟩, hd ys H p⟩
/-! ### one def, several promises -/
section
variable {P : Program} {w : World} {K : PySem.W.Frag} {mg : Str → Option Value} {base : Heap} {CX : CXT} {k : Nat} {f : Addr} {fd : FuncData} {ps : List Str} {sp sp' : Sp}
theorem FnOk.or (F : FnOk P w K mg base CX k f fd ps sp) (G : FnOk P w K mg base CX k f fd ps sp') : FnOk P w K mg base CX k f fd ps (fun vs H Q E => sp vs H Q E ∨ sp' vs H Q E) :=
  ⟨fun vs H Q E h => h.elim (F.len _ _ _ _) (G.len _ _ _ _), fun A outer s H args us vs Q E hr e0 hb r h => h.elim (F.run A outer s H args us vs Q E hr e0 hb r) (G.run A outer s H args us vs Q E hr e0 hb r)⟩
end
/-! ### how great a tally's numbers are -/
end L2

namespace L2
open PySem PySem.Spec PyProof.Rows
/-! ### a function that stands in a local name -/
def Cal (base : Heap) (f : Addr) : Prop := ∃ oc od fd sl, base.get? f = some ⟨oc, od, .func fd, sl⟩
def tCallV (P : Program) (w : World) (K : PySem.W.Frag) (mg : Str → Option Value) (base : Heap) (k i : Nat) (t : TA) : TE := fun σ H Q => ∃ (f : Addr) (fd : FuncData) (ps : List Str) (sp : Sp), σ[i]? = some (some (.ref f)) ∧ FnOk P w K mg base CX0 k f fd ps sp ∧ Binds K fd ps [] ∧ Cal base f ∧
  t σ H fun vs H1 => sp vs H1 Q E0
section
variable {X : Cx} {k i : Nat} {x : Str} {p pos : Pos} {e : Expr} {es : List Expr} {t : TA}
end
/-! ### the table of a code object in which a lambda is made -/
def crO (q : Str) (c : Addr) : HO := .ext fun h => h.CodeRec (.ref c) q
structure LamAt (T : Addr) (pos : Pos) (q : Str) (H : Hp) : Prop where
  tab : H T = some (.tbl #[]) ∨ ∃ c, H T = some (.tbl #[rawInt pos.line, rawInt pos.col, .ref c]) ∧ H c = some (crO q c)
theorem LamAt.mono {T : Addr} {pos : Pos} {q : Str} {H H' : Hp} (h : LamAt T pos q H) (g : Same H H') : LamAt T pos q H' := by
  rcases h.tab with e | ⟨c, e, ec⟩
  · exact ⟨.inl (g _ _ e)⟩
  · exact ⟨.inr ⟨c, g _ _ e, g _ _ ec⟩⟩
end L2

namespace L2
open PySem PySem.Spec PyProof.Rows
/-- the context of a lambda's body, at its entry -/
def lamCx (P : Program) (w : World) (K : PySem.W.Frag) (mg : Str → Option Value) (base : Heap) (N : List Str) (qual : Str) (sc : Scope) (f : Addr) (cd : Value) (cl : List (Str × Addr)) (A : Around) (outer : List Env) (s : Shared) (H : Hp) : Cx where
  prog := P
  w := w
  K := K
  mg := mg
  base := base
  A := A.deeper (PySem.W.envX qual sc s.heap.objs.size f cd cl)
  N := N
  s₀ := s
  H₀ := H
  env := PySem.W.envX qual sc s.heap.objs.size f cd cl
  outer := outer
  stack := PySem.W.envX qual sc s.heap.objs.size f cd cl :: outer
  ex := []
  calm := true
  fn := fun _ => false
  pn := []
  xe := fun _ _ => False
/-- what a lambda's scope is: parameters ps, names fr of the function around it -/
structure LamScope (ps fr : List Str) (sc : Scope) : Prop where
  kind : sc.kind = .function
  co : sc.isCoroutine = false
  gen : sc.isGenerator = false
  cell : ∀ x ∈ sc.names, x.2 ≠ .cell
  par : ∀ x ∈ ps, sc.names.lookup x = some .local
  free : ∀ x, sc.names.lookup x = some .free → x ∈ fr
  fre : ∀ x ∈ fr, sc.names.lookup x = some .free
  nd : (ps ++ fr).Nodup
end L2

namespace L2
open PySem PySem.Spec PyProof.Rows
/-- an object, known to the sign -/
def foO (ob : Obj) (a : Addr) : HO := .ext fun h => h.get? a = some ob
/-- a lambda is made: the table of the code around it has its code now -/
def tLam (T : Addr) (pos : Pos) (q : Str) (mk : Value → Addr → Value → Obj) : TE := fun σ H Q => LamAt T pos q H ∧ ∀ (a c : Addr) (pm ctv : Value) (H' : Hp), Same (hide T H) (hide T H') → H a = none → a ≠ c → H' T = some (.tbl #[rawInt pos.line, rawInt pos.col, .ref c]) → H' c = some (crO q c) →
  H' a = some (foO (mk pm c ctv) a) → Q (.ref a) H'
section
variable {X : Cx} {params : Arguments} {body : Expr} {sc : Scope} {pos : Pos} {c T : Addr}
end
end L2

namespace L2
open PySem PySem.Spec PyProof.Rows
/-! ### a wider base -/
def addB (base h : Heap) (as : List Addr) : Heap := PySem.W.hideAll h ((List.range h.objs.size).filter fun b => (base.get? b).isNone && !decide (b ∈ as))
theorem Inv.drop {X : Cx} {pins : List (Addr × Obj)} {σ : St} {H : Hp} {s : Shared} {a : Addr} {φ : Heap → Prop} (I : Inv X pins σ H s) (ea : H a = some (.ext φ)) : Inv X pins σ (hide a H) s := by
  have nn : ∀ b, H b = none → hide a H b = none := fun b n => by
    by_cases z : b = a
    · rw [z]; exact hide_self
    · rw [hide_ne z]; exact n
  have ne : ∀ b u, H b = some u → (∀ ψ, u ≠ .ext ψ) → hide a H b = some u := fun b u e n => by
    rw [hide_ne (fun z => by rw [z, ea] at e; exact n φ (Option.some.inj e).symm)]
    exact e
  refine ⟨I.ok, I.os, I.bare, ⟨I.base.keep, I.base.slot, fun b o e n hx => nn b (I.base.free b o e n hx), I.base.there, fun b xs e => ne b _ (I.base.tups b xs e) (fun _ z => nomatch z), fun b o xs e => ne b _ (I.base.frzs b o xs e) (fun _ z => nomatch z), fun b ps e => ?_⟩, I.loc, I.cell, nn _ I.free, fun x c e => nn c (I.freeC x c e), fun p hp => ?_, fun b u e => ?_, I.len⟩
  · obtain ⟨m, z⟩ := I.base.tbls b ps e
    exact ⟨m, ne b _ z (fun _ z => nomatch z)⟩
  · obtain ⟨z1, z2, z3⟩ := I.pin p hp
    exact ⟨z1, nn _ z2, z3⟩
  · obtain ⟨b1, b2⟩ := hide_some e
    exact (I.hok b u b2).stay (fun _ _ _ q => q) (fun c q => ne c _ q (fun _ z => nomatch z)) fun c xs q => ne c _ q (fun _ z => nomatch z)
/-- a def of the module, over each base -/
structure HasB (P : Program) (w : World) (K : PySem.W.Frag) (mg : Str → Option Value) (x : Str) (k : Nat) (ps : List Str) (sp : Heap → Sp) : Prop where
  ex : ∃ f fd, (∀ base : Heap, K.In base → base.Ns mainGlobals mg → FnOk P w K mg base CX0 k f fd ps (sp base)) ∧ Binds K fd ps [] ∧ PySem.W.keepIn K (.ref f) = true ∧ mg x = some (.ref f)
/-- what a wider base has: a function made here, and the cells of this frame -/
structure Wid (X : Cx) (σ : St) (a : Addr) (ob : Obj) (B : Heap) : Prop where
  kin : X.K.In B
  glb : B.Ns mainGlobals X.mg
  sub : ∀ b o, X.base.get? b = some o → B.get? b = some o
  fn : B.get? a = some ob
  cell : ∀ (i : Nat) x v, X.N[i]? = some x → σ[i]? = some (some v) → X.env.scope.names.lookup x = some .cell → ∃ c u, X.env.cells.lookup x = some c ∧ B.IsCell c (some u) ∧ RelV v u
  cells : ∀ x c, X.env.cells.lookup x = some c → ∃ v, B.IsCell c v
  inj : ∀ x y c, X.env.cells.lookup x = some c → X.env.cells.lookup y = some c → x = y
def tCallL (X : Cx) (sp : Heap → Sp) (t : TA) : TE := fun σ H Q => t σ H fun vs H1 => ∃ a ob, H1 a = some (foO ob a) ∧ ∀ B, Wid X σ a ob B → sp B vs (hide a H1) Q E0
section
variable {X : Cx} {j k : Nat} {ps : List Str} {sp : Heap → Sp} {x : Str} {p pos : Pos} {e : Expr} {es : List Expr} {t : TA}
end
end L2

namespace L2
open PySem PySem.Spec PyProof.Rows
/-- at the law's entry the tables in which lambdas are made are tracked -/
def entH (Ts : List Addr) (s : Hp) : Hp := fun b => if b ∈ Ts then some (.tbl #[]) else s b
end L2

namespace L2
open PySem PySem.Spec PyProof.Rows
/-- list(x) of a list or a tuple, the module's part given -/
def rListK (K : PySem.W.Frag) : List V → Hp → VK → Prop := fun xs H Q => ∃ p ys, xs = [.ref p] ∧ (SqL K H p ys ∨ SqT K H p ys) ∧ ∀ l, H l = none → Q (.ref l) (upd H l (.lst ys))
end L2

namespace L2
open PySem PySem.Spec PyProof.Rows
/-! ### zip of two lists, walked by a pair of names -/
def Itz (K : PySem.W.Frag) (a b : Addr) : It :=
  ⟨fun i H => ∃ xs ys x y, SqL K H a xs ∧ SqL K H b ys ∧ xs[i]? = some x ∧ ys[i]? = some y,
   fun i H u H' => ∃ T x y, u = .ref T ∧ H T = none ∧ H' = upd H T (.tup [x, y]) ∧ ∀ xs ys, SqL K H a xs → SqL K H b ys → xs[i]? = some x ∧ ys[i]? = some y,
   fun i H => ∃ xs ys, SqL K H a xs ∧ SqL K H b ys ∧ (xs.length ≤ i ∨ ys.length ≤ i)⟩
section
variable {X : Cx} {pins : List (Addr × Obj)} {σ : St} {H : Hp} {s : Shared} {h' : Heap}
end
abbrev zipTn (z TI TO i1 i2 l1 l2 : Addr) : Nat → Heap → Prop := fun i h => IsZip h z TI TO .none ∧ IsPair h TI (.ref i1) (.ref i2) ∧ (∃ a b, IsPair h TO a b) ∧ h.IsListIter i1 l1 i ∧ h.IsListIter i2 l2 i
def iZip (K : PySem.W.Frag) (ta : TA) : TI := fun σ H R => ta σ H fun vs H1 => ∃ a b, vs = [.ref a, .ref b] ∧ (∃ xs, SqL K H1 a xs) ∧ (∃ ys, SqL K H1 b ys) ∧ R (Itz K a b) H1
end L2

namespace L2
open PySem PySem.Spec PyProof.Rows
end L2
namespace L2
open PySem PySem.Spec PyProof.Rows
/-- a row under other names -/
def sRen (N N' : List Str) (t : TS) : TS := fun D σ H => Hid N N' σ ∧ t { nx := fun σ' H' => Hid N N' σ' ∧ D.nx σ' H', rt := fun _ _ => False } σ H
end L2

namespace L2
open PySem PySem.Spec PyProof.Rows
def insSpec (l : Addr) (items : Array Value) (n : Nat) (x : Int) (y : Value) : PySem.Spec := fun _ R s => s.heap.get? l = some { cls := .type "list", dict := none, data := .seq items n, slots := #[] } ∧ R (.ok (.ret Value.none)) { s with heap := s.heap.update l (Obj.mapSeq fun xs => have k := if x < 0 then (x + (xs.size : Int)).toNat else min x.toNat xs.size; (xs.extract 0 k).push y ++ xs.extract k), toks := s.toks }
section
variable {X : Cx}
/-- xs.insert(i, y), i from 0 to how many there are -/
def rInsert : V → List V → Hp → VK → Prop := fun x vs H Q => ∃ (l : Addr) (xs : List V) (i : Nat) (y : V), x = .ref l ∧ vs = [.int i, y] ∧ H l = some (.lst xs) ∧ i ≤ xs.length ∧ xs.length < sizeLine ∧ i < 1000000 ∧ Q .non (upd H l (.lst (xs.take i ++ y :: xs.drop i)))
end
end L2

namespace L2
open PySem PySem.Spec PyProof.Rows

/-! ### a pen that holds the script itself: the script's address, the place, what is left -/
theorem Sq_same {K : PySem.W.Frag} {H H' : Hp} {a : Addr} {xs : List V} (s : Same H H') (h : SqL K H a xs) : SqL K H' a xs := by
  rcases h with h | h
  · rcases h with h | ⟨o, h⟩
    · exact .inl (.inl (s _ _ h))
    · exact .inl (.inr ⟨o, s _ _ h⟩)
  · exact .inr h
structure Pn (K : PySem.W.Frag) (S : Addr) (ns : List Int) (H : Hp) (a : Addr) : Prop where
  at_ : ∃ i r : Int, H a = some (.lst [.ref S, .int i, .int r])
  scr : SqL K H S (ns.map V.int)
  few : ns.length ≤ 63
section
variable {K : PySem.W.Frag} {S : Addr} {ns : List Int} {H H' : Hp} {a p : Addr}
theorem Pn.same (h : Pn K S ns H a) (g : Same H H') : Pn K S ns H' a := by
  obtain ⟨⟨i, r, e⟩, s, f⟩ := h
  exact ⟨⟨i, r, g _ _ e⟩, Sq_same g s, f⟩
theorem Pn.laid {o : HO} (h : Pn K S ns H a) (hp : H p = none) : Pn K S ns (upd H p o) a := h.same (same_laid hp o)
theorem Pn.ne (h : Pn K S ns H a) (hp : H p = none) : p ≠ a := by
  obtain ⟨⟨i, r, e⟩, _⟩ := h
  exact fun q => by rw [q, e] at hp; cases hp
theorem Pn.grw (h : Pn K S ns H a) (g : Same H H') : Grw a H H' := by
  obtain ⟨⟨i, r, e⟩, _⟩ := h
  exact grw_same e g
theorem Pn.upd (h : Pn K S ns H a) (i r : Int) : Pn K S ns (upd H a (.lst [.ref S, .int i, .int r])) a := by
  obtain ⟨⟨i0, r0, e⟩, s, f⟩ := h
  refine ⟨⟨i, r, upd_same⟩, ?_, f⟩
  rcases s with (s | ⟨o, s⟩) | s
  · refine .inl (.inl ?_)
    rw [upd_ne ?_]
    · exact s
    · intro z
      rw [z, e] at s
      cases ns with
      | nil => cases s
      | cons n ns => cases s
  · refine .inl (.inr ⟨o, ?_⟩)
    rw [upd_ne ?_]
    · exact s
    · intro z
      rw [z, e] at s
      cases s
  · exact .inr s
/-- a tuple is no pen -/
theorem Pn.tup {xs : List V} (h : Pn K S ns H a) (e : H p = some (.tup xs)) : hide a H p = some (.tup xs) := by
  obtain ⟨⟨i, r, e0⟩, _⟩ := h
  rw [hide_ne (fun z => by rw [z, e0] at e; cases e)]
  exact e
end
end L2

namespace L2
open PySem PySem.Spec PyProof.Rows

/-! ### the table of a set: places that rise -/
abbrev Ris (ps : Array Nat) : Prop := ps.toList.Pairwise (· < ·)
theorem ris_get {ps : Array Nat} (h : Ris ps) {i k : Nat} (hik : i < k) (hk : k < ps.size) : ps[i]'(by omega) < ps[k] := by
  have := List.pairwise_iff_getElem.mp h i k (by rw [Array.length_toList]; omega) (by rw [Array.length_toList]; exact hk) hik
  simpa using this
/-- how many places are below j, as the halving finds it -/
structure Cut (ps : Array Nat) (j b : Nat) : Prop where
  le : b ≤ ps.size
  lo : ∀ i (h : i < ps.size), i < b → ps[i] < j
  hi : ∀ i (h : i < ps.size), b ≤ i → j ≤ ps[i]
theorem cut_go {ps : Array Nat} {j : Nat} (h : Ris ps) : ∀ (fuel lo hi : Nat), hi ≤ ps.size → lo ≤ hi → hi - lo ≤ fuel → (∀ i (q : i < ps.size), i < lo → ps[i] < j) → (∀ i (q : i < ps.size), hi ≤ i → j ≤ ps[i]) → Cut ps j (SetTable.below.go ps j fuel lo hi)
  | 0, lo, hi, h1, h2, h3, h4, h5 => by
    have e : lo = hi := by omega
    subst e
    exact ⟨h1, h4, h5⟩
  | fuel + 1, lo, hi, h1, h2, h3, h4, h5 => by
    show Cut ps j (if lo < hi then if ps.getD ((lo + hi) / 2) j < j then SetTable.below.go ps j fuel ((lo + hi) / 2 + 1) hi else SetTable.below.go ps j fuel lo ((lo + hi) / 2) else lo)
    by_cases c : lo < hi
    · rw [if_pos c]
      have hm : (lo + hi) / 2 < ps.size := by omega
      have eg : ps.getD ((lo + hi) / 2) j = ps[(lo + hi) / 2] := by
        simp [Array.getD, hm]
      rw [eg]
      by_cases d : ps[(lo + hi) / 2] < j
      · rw [if_pos d]
        refine cut_go h fuel _ _ h1 (by omega) (by omega) (fun i q hi2 => ?_) h5
        by_cases e : i = (lo + hi) / 2
        · subst e; exact d
        · exact Nat.lt_trans (ris_get h (i := i) (k := (lo + hi) / 2) (by omega) hm) d
      · rw [if_neg d]
        refine cut_go h fuel _ _ (by omega) (by omega) (by omega) h4 (fun i q hi2 => ?_)
        by_cases e : i = (lo + hi) / 2
        · subst e; omega
        · have := ris_get h (i := (lo + hi) / 2) (k := i) (by omega) q
          omega
    · rw [if_neg c]
      have e : lo = hi := by omega
      subst e
      exact ⟨h1, h4, h5⟩
theorem below_cut {ps : Array Nat} (h : Ris ps) (j : Nat) : Cut ps j (SetTable.below ps j) :=
  cut_go h ps.size 0 ps.size (Nat.le_refl _) (Nat.zero_le _) (by omega) (fun i q z => by omega) (fun i q z => by omega)
theorem cut_mem {ps : Array Nat} {j b : Nat} (h : Ris ps) (c : Cut ps j b) (hm : j ∈ ps.toList) : ps[b]? = some j := by
  obtain ⟨k, hk, e⟩ := List.mem_iff_getElem.mp hm
  rw [Array.length_toList] at hk
  have e : ps[k] = j := by simpa using e
  have kb : b ≤ k := by
    by_cases q : k < b
    · have := c.lo k hk q; omega
    · omega
  have bk : b = k := by
    by_cases q : b = k
    · exact q
    · have h1 := ris_get h (i := b) (k := k) (by omega) hk
      have h2 := c.hi b (by omega) (Nat.le_refl _)
      omega
  subst bk
  rw [Array.getElem?_eq_getElem hk, e]
theorem slot_empty {t : SetTable} (h : Ris t.place) {j : Nat} (e : t.slot j = .empty) : j ∉ t.place.toList := fun hm => by
  have q := cut_mem h (below_cut h j) hm
  have e : (if (t.place[SetTable.below t.place j]? == some j) = true then SetTable.Slot.live (SetTable.below t.place j) else if SetTable.has t.dummies j = true then SetTable.Slot.dummy else SetTable.Slot.empty) = SetTable.Slot.empty := e
  rw [q] at e
  simp at e
theorem slot_nodummy {t : SetTable} (hd : t.dummies = #[]) (j : Nat) : t.slot j ≠ .dummy := by
  unfold SetTable.slot
  have : SetTable.has t.dummies j = false := by
    rw [hd]
    unfold SetTable.has
    rfl
  rw [this]
  intro e
  by_cases c : (t.place[SetTable.below t.place j]? == some j) = true
  · simp [c] at e
  · simp [c] at e
theorem adv_dummy (t : SetTable) (p : SetTable.Probe) (h : p.dummy = none) : (t.advance p).dummy = none := by
  unfold SetTable.advance
  by_cases c : p.more > 0
  · rw [if_pos c]; exact h
  · rw [if_neg c]; exact h
theorem probe_empty {t : SetTable} (hd : t.dummies = #[]) {hashAt : Nat → Int} {h : Int} : ∀ (fuel : Nat) (p : SetTable.Probe), p.dummy = none → ∀ {j d}, SetTable.probe.go t hashAt h fuel p = some (.empty j d) → d = none ∧ t.slot j = .empty
  | 0, p, hp, j, d, e => by cases e
  | fuel + 1, p, hp, j, d, e => by
    have e : (match t.slot p.j with
      | .empty => some (SetTable.Met.empty p.j p.dummy)
      | .dummy => SetTable.probe.go t hashAt h fuel (t.advance { p with dummy := some p.j })
      | .live i => if (hashAt i == h) = true then some (SetTable.Met.candidate p.j i (t.advance p)) else SetTable.probe.go t hashAt h fuel (t.advance p)) = some (.empty j d) := e
    cases q : t.slot p.j with
    | empty =>
      rw [q] at e
      cases e
      exact ⟨hp, q⟩
    | dummy => exact absurd q (slot_nodummy hd _)
    | live i =>
      rw [q] at e
      by_cases c : (hashAt i == h) = true
      · simp [c] at e
      · simp [c] at e
        exact probe_empty hd fuel _ (adv_dummy t p hp) e
theorem free_slot {t : SetTable} (hr : Ris t.place) (hd : t.dummies = #[]) {h : Int} {j : Nat} {d : Bool} (e : t.freeSlot h = some (j, d)) : d = false ∧ j ∉ t.place.toList := by
  unfold SetTable.freeSlot at e
  generalize q : t.probe (fun _ => h + 1) h (t.probeStart h) = r at e
  match r with
  | none => cases e
  | some (.candidate _ _ _) => cases e
  | some (.empty j' d') =>
    obtain ⟨e1, e2⟩ := probe_empty hd _ _ (show (t.probeStart h).dummy = none from rfl) q
    subst e1
    cases e
    exact ⟨rfl, slot_empty hr e2⟩
theorem insertAt_list {α : Type} (xs : Array α) (p : Nat) (x : α) (hp : p ≤ xs.size) : (SetTable.insertAt xs p x).toList = xs.toList.take p ++ x :: xs.toList.drop p := by
  unfold SetTable.insertAt
  simp [Array.toList_append, Array.toList_extract, List.extract_eq_drop_take]
  rw [List.take_of_length_le (by simp)]
theorem ris_insert {ps : Array Nat} (h : Ris ps) {j : Nat} (hn : j ∉ ps.toList) : Ris (SetTable.insertAt ps (SetTable.below ps j) j) := by
  have c := below_cut h j
  show (SetTable.insertAt ps (SetTable.below ps j) j).toList.Pairwise (· < ·)
  rw [insertAt_list _ _ _ c.le, List.pairwise_append]
  refine ⟨h.sublist (List.take_sublist _ _), List.pairwise_cons.mpr ⟨fun y hy => ?_, h.sublist (List.drop_sublist _ _)⟩, fun y hy z hz => ?_⟩
  · obtain ⟨k, hk, rfl⟩ := List.mem_iff_getElem.mp hy
    rw [List.length_drop, Array.length_toList] at hk
    rw [List.getElem_drop]
    have := c.hi (SetTable.below ps j + k) (by omega) (by omega)
    have ne : ps[SetTable.below ps j + k]'(by omega) ≠ j := fun q => hn (by
      rw [← q]
      exact Array.getElem_mem_toList _)
    have e : ps.toList[SetTable.below ps j + k]'(by rw [Array.length_toList]; omega) = ps[SetTable.below ps j + k]'(by omega) := by simp
    rw [e]
    omega
  · obtain ⟨k, hk, rfl⟩ := List.mem_iff_getElem.mp hy
    rw [List.length_take, Array.length_toList] at hk
    rw [List.getElem_take]
    have e : ps.toList[k]'(by rw [Array.length_toList]; omega) = ps[k]'(by omega) := by simp
    rw [e]
    have l1 := c.lo k (by omega) (by omega)
    rcases List.mem_cons.mp hz with rfl | hz
    · exact l1
    · obtain ⟨k2, hk2, rfl⟩ := List.mem_iff_getElem.mp hz
      rw [List.length_drop, Array.length_toList] at hk2
      rw [List.getElem_drop]
      have := c.hi (SetTable.below ps j + k2) (by omega) (by omega)
      have e2 : ps.toList[SetTable.below ps j + k2]'(by rw [Array.length_toList]; omega) = ps[SetTable.below ps j + k2]'(by omega) := by simp
      rw [e2]
      omega
theorem ris_range (n : Nat) : Ris (Array.range n) := by
  show (Array.range n).toList.Pairwise (· < ·)
  rw [Array.toList_range]
  exact List.pairwise_lt_range
theorem pw_filterMap {f : Nat → Option (Nat × Nat)} (hf : ∀ j x, f j = some x → x.1 = j) : ∀ (l : List Nat), l.Pairwise (· < ·) → ((l.filterMap f).map (·.1)).Pairwise (· < ·)
  | [], _ => List.Pairwise.nil
  | a :: l, h => by
    obtain ⟨h1, h2⟩ := List.pairwise_cons.mp h
    have ih := pw_filterMap hf l h2
    rw [List.filterMap_cons]
    cases q : f a with
    | none => exact ih
    | some x =>
      show (x.1 :: (l.filterMap f).map (·.1)).Pairwise (· < ·)
      refine List.pairwise_cons.mpr ⟨fun y hy => ?_, ih⟩
      obtain ⟨z, hz, rfl⟩ := List.mem_map.mp hy
      obtain ⟨k, hk, e⟩ := List.mem_filterMap.mp hz
      rw [hf a x q, hf k z e]
      exact h1 k hk
/-- a table that a walk may trust -/
structure Gd (t : SetTable) (b : Bool) : Prop where
  ris : Ris t.place
  dum : t.dummies = #[]
  led : t.led = b
theorem gd_standIn {t : SetTable} {b : Bool} (h : Gd t b) (n : Nat) : Gd (t.standIn n) b := ⟨ris_range n, rfl, h.led⟩
theorem gd_laid {mask finger moves : Nat} {led plain : Bool} {hashes : Array Int} {t : SetTable} {o : Array Nat} (e : SetTable.laid mask finger moves led plain hashes = some (t, o)) : Gd t led := by
  unfold SetTable.laid at e
  obtain ⟨owner, _, e⟩ := Option.bind_eq_some_iff.mp e
  cases e
  refine ⟨?_, rfl, rfl⟩
  refine pw_filterMap (f := fun j => Option.map (fun x => (j, x)) (owner.getD j none)) (fun j x h => ?_) (List.range (mask + 1)) List.pairwise_lt_range
  obtain ⟨y, _, rfl⟩ := Option.map_eq_some_iff.mp h
  rfl
theorem gd_layNew {t : SetTable} {b : Bool} {es : Array (Int × Value)} {h : Int} {x : Value} (g : Gd t b) : Gd (layNew t es h x).2.1 b ∧ (layNew t es h x).2.1.fits (layNew t es h x).1.size = true := by
  unfold layNew
  generalize q : t.freeSlot h = r
  match r with
  | none =>
    refine ⟨gd_standIn g _, ?_⟩
    show (t.standIn (es.size + 1)).fits (es.push (h, x)).size = true
    rw [Array.size_push]
    exact SetTable.standIn_fits _ _
  | some (slot, d) =>
    obtain ⟨_, hn⟩ := free_slot g.ris g.dum q
    refine ⟨?_, SetTable.orStandIn_fits _ _⟩
    show Gd ((t.put slot).1.orStandIn _) b
    unfold SetTable.orStandIn
    have gp : Gd (t.put slot).1 b := by
      refine ⟨ris_insert g.ris hn, ?_, g.led⟩
      show (if SetTable.has t.dummies slot = true then _ else t.dummies) = #[]
      have : SetTable.has t.dummies slot = false := by
        rw [g.dum]
        rfl
      rw [this]
      exact g.dum
    split
    · exact gp
    · exact gd_standIn gp _
theorem gd_relayAll {t : SetTable} {b : Bool} {es : Array (Int × Value)} {n : Nat} (g : Gd t b) : Gd (relayAll t es n).2.1 b ∧ (relayAll t es n).2.1.fits (relayAll t es n).1.size = true := by
  unfold relayAll
  generalize q : t.relaid (Array.map (fun x => x.fst) es) n = r
  match r with
  | none => exact ⟨gd_standIn g _, SetTable.standIn_fits _ _⟩
  | some (t', o) =>
    have gl := gd_laid q
    rw [g.led] at gl
    have key : ∀ r : Array (Int × Value) × SetTable × Bool, r = (if (coversAll o es.size && t'.fits (Array.filterMap (fun x => es[x]?) o).size) = true then (Array.filterMap (fun x => es[x]?) o, t', false) else (es, t.standIn es.size, true)) → Gd r.2.1 b ∧ r.2.1.fits r.1.size = true := by
      rintro r rfl
      by_cases c : (coversAll o es.size && t'.fits (Array.filterMap (fun x => es[x]?) o).size) = true
      · rw [if_pos c]
        rw [Bool.and_eq_true] at c
        exact ⟨gl, c.2⟩
      · rw [if_neg c]
        exact ⟨gd_standIn g _, SetTable.standIn_fits _ _⟩
    exact key _ rfl
theorem gd_plain {t : SetTable} {b p : Bool} (g : Gd t b) : Gd { t with plain := p } b := ⟨g.ris, g.dum, g.led⟩
end L2

namespace L2
open PySem PySem.Spec PyProof.Rows

instance decMemKey (k : Key) (ks : List Key) : Decidable (k ∈ ks) := @List.instDecidableMemOfLawfulBEq Key instBEqOfDecidableEq inferInstance k ks
/-! ### a set of keys, each once, whose table a walk may trust -/
def KeyE (P : Program) (w : World) (e : Int × Value) (k : Key) : Prop := (mixKind P w).is k e.2 = true ∧ e.1 = (mixKind P w).hash k ∧ e.2.scannable = true
def SetG (P : Program) (w : World) (h : Heap) (a : Addr) (ks : List Key) : Prop :=
  ∃ o es ep t, h.get? a = some o ∧ o.ExactSet ∧ o.data = .set es ep t ∧ (∃ fs, es.toList.Perm fs ∧ Paired (KeyE P w) fs ks) ∧ t.fits es.size = true ∧ Gd t (!w.params.followText "set-order") ∧ ks.Nodup
theorem Paired.mem1 {α β : Type} {F : α → β → Prop} : ∀ {xs : List α} {ys : List β}, Paired F xs ys → ∀ x ∈ xs, ∃ y ∈ ys, F x y
  | _, _, .nil, _, h => nomatch h
  | _, _, .cons f r, x, h => by
    rcases List.mem_cons.mp h with rfl | h
    · exact ⟨_, .head _, f⟩
    · obtain ⟨y, hy, q⟩ := Paired.mem1 r x h
      exact ⟨y, .tail _ hy, q⟩
theorem Paired.mem2 {α β : Type} {F : α → β → Prop} : ∀ {xs : List α} {ys : List β}, Paired F xs ys → ∀ y ∈ ys, ∃ x ∈ xs, F x y
  | _, _, .nil, _, h => nomatch h
  | _, _, .cons f r, y, h => by
    rcases List.mem_cons.mp h with rfl | h
    · exact ⟨_, .head _, f⟩
    · obtain ⟨x, hx, q⟩ := Paired.mem2 r y h
      exact ⟨x, .tail _ hx, q⟩
theorem Paired.snoc {α β : Type} {F : α → β → Prop} {x : α} {y : β} (f : F x y) : ∀ {xs : List α} {ys : List β}, Paired F xs ys → Paired F (xs ++ [x]) (ys ++ [y])
  | _, _, .nil => .cons f .nil
  | _, _, .cons g r => .cons g (Paired.snoc f r)
section
variable {prog : Program} {w : World} {A : Around} {E : Value → Shared → Prop} {s : Shared} {a : Addr} {ks : List Key}
theorem elems_of {es : List (Int × Value)} (h : ∃ fs, es.Perm fs ∧ Paired (KeyE prog w) fs ks) : ElemsOf (mixKind prog w) es := fun e he => by
  obtain ⟨fs, p, m⟩ := h
  obtain ⟨k, _, h1, h2, h3⟩ := Paired.mem1 m e (p.mem_iff.mp he)
  exact ⟨⟨k, h1, h2⟩, h3⟩
theorem elems_len {es : List (Int × Value)} (h : ∃ fs, es.Perm fs ∧ Paired (KeyE prog w) fs ks) : es.length = ks.length := by
  obtain ⟨fs, p, m⟩ := h
  rw [p.length_eq]
  exact Paired.length m
theorem find_in {es : List (Int × Value)} {k : Key} (h : ∃ fs, es.Perm fs ∧ Paired (KeyE prog w) fs ks) (hk : k ∈ ks) : ∃ j, es.findIdx? (fun e => (mixKind prog w).is k e.2) = some j := by
  obtain ⟨fs, p, m⟩ := h
  obtain ⟨e, he, q, _⟩ := Paired.mem2 m k hk
  have : (es.findIdx? (fun e => (mixKind prog w).is k e.2)).isSome = true := by
    rw [List.findIdx?_isSome]
    exact List.any_eq_true.mpr ⟨e, p.mem_iff.mpr he, q⟩
  exact Option.isSome_iff_exists.mp this
theorem find_out {es : List (Int × Value)} {k : Key} (h : ∃ fs, es.Perm fs ∧ Paired (KeyE prog w) fs ks) (hk : k ∉ ks) : es.findIdx? (fun e => (mixKind prog w).is k e.2) = none := by
  obtain ⟨fs, p, m⟩ := h
  rw [List.findIdx?_eq_none_iff]
  intro e he
  obtain ⟨k', hk', q, _⟩ := Paired.mem1 m e (p.mem_iff.mp he)
  refine Bool.eq_false_iff.mpr fun z => hk ?_
  rw [(mixKind prog w).inj _ _ _ z q]
  exact hk'
theorem hash_any {x : Value} {Q : Bool → Shared → Prop} (hs : x.scannable = true) (q : ∀ b, Q b s) : wpAny (model prog w) A (hashByValue 8 x) Q E s := by
  cases x with
  | none => exact (wpAny_pure (q true) : wpAny _ _ (pure true) _ _ _)
  | bool b => exact (wpAny_pure (q true) : wpAny _ _ (pure true) _ _ _)
  | int i t => exact (wpAny_pure (q true) : wpAny _ _ (pure true) _ _ _)
  | str z t => exact (wpAny_pure (q false) : wpAny _ _ (pure false) _ _ _)
  | bytes z t => exact (wpAny_pure (q false) : wpAny _ _ (pure false) _ _ _)
  | _ => cases hs
theorem put_set {o : Obj} {es : Array (Int × Value)} {ep : Nat} {t : SetTable} {es' : Array (Int × Value)} {t' : SetTable} {h : Heap} (ho : h.get? a = some o) (hx : o.ExactSet) (hd : o.data = .set es ep t) :
    ∃ o', (h.update a (Obj.putSet es' t')).get? a = some o' ∧ o'.ExactSet ∧ o'.data = .set es' (ep + 1) t' := by
  obtain ⟨c, d, dt, sl⟩ := o
  simp only at hd
  subst hd
  exact ⟨_, Heap.get?_update_self _ ho rfl, hx, rfl⟩
theorem fits_plain {t : SetTable} {n : Nat} {p : Bool} (h : t.fits n = true) : SetTable.fits { t with plain := p } n = true := h
theorem add_set {k : Key} {x : Value} {Q : Bool → Shared → Prop} (hk : (mixKind prog w).is k x = true) (hs : x.scannable = true) (G : SetG prog w s.heap a ks) (hb : ks.length + 1 < scanBound)
    (fin : ∀ b h', Heap.SameBut a s.heap h' → SetG prog w h' a (if k ∈ ks then ks else ks ++ [k]) → Q b { s with heap := h' }) : wpAny (model prog w) A (setAddHashed a x ((mixKind prog w).hash k)) Q E s := by
  obtain ⟨o, es, ep, t, ho, hex, hd, hf, fit, gd, nd⟩ := G
  have els := elems_of hf
  have len := elems_len hf
  rw [Array.length_toList] at len
  unfold setAddHashed
  refine wpAny_holding ?_
  rw [show (100000 : Nat) = 99999 + 1 from rfl, setAddHashedIn.eq_def]
  refine wpAny_bind (wpAny_setState_of ho hd fit ?_)
  dsimp only
  rw [byScan_of hs (by omega) els, if_pos rfl]
  refine wpAny_bind ?_
  unfold setAddByScan
  refine wpAny_bind (wpAny_rule ?_)
  refine wpAny_bind (wpAny_setScan_of hk ho hd fit els ?_)
  by_cases hin : k ∈ ks
  · obtain ⟨j, ej⟩ := find_in hf hin
    rw [ej]
    refine wpAny_pure (wpAny_pure (fin false s.heap ⟨rfl, fun _ _ => rfl⟩ ?_))
    rw [if_pos hin]
    exact ⟨o, es, ep, t, ho, hex, hd, hf, fit, gd, nd⟩
  · rw [find_out hf hin]
    rw [if_neg hin] at fin
    have lp := layNew_perm t es ((mixKind prog w).hash k) x
    obtain ⟨gl, fl⟩ := gd_layNew (es := es) (h := (mixKind prog w).hash k) (x := x) gd
    dsimp only
    generalize layNew t es ((mixKind prog w).hash k) x = L at lp gl fl ⊢
    obtain ⟨es1, t1, wd, gv⟩ := L
    dsimp only at lp gl fl ⊢
    have nd2 : (ks ++ [k]).Nodup := by
      rw [List.nodup_append]
      exact ⟨nd, List.nodup_cons.mpr ⟨fun h => (nomatch h), List.nodup_nil⟩, fun y hy z hz e => hin (by rw [← List.mem_singleton.mp hz, ← e]; exact hy)⟩
    have hf1 : ∃ fs, es1.toList.Perm fs ∧ Paired (KeyE prog w) fs (ks ++ [k]) := by
      obtain ⟨fs, p, m⟩ := hf
      refine ⟨fs ++ [((mixKind prog w).hash k, x)], lp.trans ?_, Paired.snoc ⟨hk, rfl, hs⟩ m⟩
      rw [Array.toList_push]
      exact p.append_right _
    have sz1 : es1.size ≤ sizeLine := by
      have := elems_len hf1
      rw [Array.length_toList, List.length_append, List.length_singleton] at this
      exact small_le (by unfold scanBound at hb; omega)
    have main : ∀ t2 : SetTable, Gd t2 (!w.params.followText "set-order") → t2.fits es1.size = true → wpAny (model prog w) A (do
        storeSet a es1 t2
        if (!wd && t2.tooFull) = true then
          match relayAll t2 es1 (SetTable.grown es1.size) with
          | (es, t, gave) => do
            (match gave with | true => rule "set.scan.the-table-gave-way" | false => pure ())
            storeSet a es t
            pure (some true)
        else pure (some true)) (fun r s' => wpAny (model prog w) A (match r with | some added => pure added | none => setAddHashedIn a x ((mixKind prog w).hash k) 99999) Q E s') E s := by
      intro t2 g2 f2
      refine wpAny_bind (wpAny_storeSet_of ho hd ?_ sz1)
      obtain ⟨o1, ho1, hx1, hd1⟩ := put_set (es' := es1) (t' := t2) ho hex hd
      by_cases c : (!wd && t2.tooFull) = true
      · rw [if_pos c]
        have rp := relayAll_perm t2 es1 (SetTable.grown es1.size)
        obtain ⟨gr, fr⟩ := gd_relayAll (es := es1) (n := SetTable.grown es1.size) g2
        generalize relayAll t2 es1 (SetTable.grown es1.size) = R at rp gr fr ⊢
        obtain ⟨es2, t3, gv2⟩ := R
        dsimp only at rp gr fr ⊢
        have sz2 : es2.size ≤ sizeLine := by
          have := rp.length_eq
          rw [Array.length_toList, Array.length_toList] at this
          omega
        have store : wpAny (model prog w) A (do
            storeSet a es2 t3
            pure (some true)) (fun r s' => wpAny (model prog w) A (match r with | some added => pure added | none => setAddHashedIn a x ((mixKind prog w).hash k) 99999) Q E s') E { s with heap := s.heap.update a (Obj.putSet es1 t2) } := by
          refine wpAny_bind (wpAny_storeSet_of ho1 hd1 (wpAny_pure (wpAny_pure (fin true _ ((Heap.SameBut.update _ _ _).trans (Heap.SameBut.update _ _ _)) ?_))) sz2)
          obtain ⟨o2, ho2, hx2, hd2⟩ := put_set (es' := es2) (t' := t3) ho1 hx1 hd1
          obtain ⟨fs, p, m⟩ := hf1
          exact ⟨o2, es2, _, t3, ho2, hx2, hd2, ⟨fs, rp.trans p, m⟩, fr, gr, nd2⟩
        cases gv2 with
        | true => exact wpAny_bind (wpAny_rule store)
        | false => exact wpAny_bind (wpAny_pure store)
      · rw [if_neg c]
        refine wpAny_pure (wpAny_pure (fin true _ (Heap.SameBut.update _ _ _) ?_))
        exact ⟨o1, es1, _, t2, ho1, hx1, hd1, hf1, f2, g2, nd2⟩
    have both : ∀ b : Bool, wpAny (model prog w) A (do
        storeSet a es1 (if b = true then t1 else { t1 with plain := false })
        if (!wd && (if b = true then t1 else { t1 with plain := false }).tooFull) = true then
          match relayAll (if b = true then t1 else { t1 with plain := false }) es1 (SetTable.grown es1.size) with
          | (es, t, gave) => do
            (match gave with | true => rule "set.scan.the-table-gave-way" | false => pure ())
            storeSet a es t
            pure (some true)
        else pure (some true)) (fun r s' => wpAny (model prog w) A (match r with | some added => pure added | none => setAddHashedIn a x ((mixKind prog w).hash k) 99999) Q E s') E s := fun b => by
      cases b with
      | true => exact main t1 gl fl
      | false => exact main { t1 with plain := false } (gd_plain gl) (fits_plain fl)
    have tail : wpAny (model prog w) A (if t1.plain = true then hashByValue 8 x >>= fun b => (do
        storeSet a es1 (if b = true then t1 else { t1 with plain := false })
        if (!wd && (if b = true then t1 else { t1 with plain := false }).tooFull) = true then
          match relayAll (if b = true then t1 else { t1 with plain := false }) es1 (SetTable.grown es1.size) with
          | (es, t, gave) => do
            (match gave with | true => rule "set.scan.the-table-gave-way" | false => pure ())
            storeSet a es t
            pure (some true)
        else pure (some true)) else pure true >>= fun b => (do
        storeSet a es1 (if b = true then t1 else { t1 with plain := false })
        if (!wd && (if b = true then t1 else { t1 with plain := false }).tooFull) = true then
          match relayAll (if b = true then t1 else { t1 with plain := false }) es1 (SetTable.grown es1.size) with
          | (es, t, gave) => do
            (match gave with | true => rule "set.scan.the-table-gave-way" | false => pure ())
            storeSet a es t
            pure (some true)
        else pure (some true))) (fun r s' => wpAny (model prog w) A (match r with | some added => pure added | none => setAddHashedIn a x ((mixKind prog w).hash k) 99999) Q E s') E s := by
      by_cases c : t1.plain = true
      · rw [if_pos c]
        exact wpAny_bind (hash_any hs both)
      · rw [if_neg c]
        exact wpAny_bind (wpAny_pure (both true))
    cases gv with
    | true => exact wpAny_bind (wpAny_rule tail)
    | false => exact wpAny_bind (wpAny_pure tail)
end
end L2

namespace L2
open PySem PySem.Spec PyProof.Rows
theorem chk_new (a : Value) : checkBuiltinCall "set.__new__" ⟨[.type "set", a], []⟩ = pure () := by kernel_rfl
theorem cls_new (a : Value) : Builtin.Frozenset.newClass "set" ⟨[.type "set", a], []⟩ = pure (.type "set", [a]) := by kernel_rfl
def ddK : List Key → List Key → List Key
  | acc, [] => acc
  | acc, k :: r => ddK (if k ∈ acc then acc else acc ++ [k]) r
theorem ddK_snoc (k : Key) : ∀ (l acc : List Key), ddK acc (l ++ [k]) = if k ∈ ddK acc l then ddK acc l else ddK acc l ++ [k]
  | [], acc => rfl
  | x :: l, acc => ddK_snoc k l _
theorem ddK_len : ∀ (l acc : List Key), (ddK acc l).length ≤ acc.length + l.length
  | [], acc => Nat.le_refl _
  | x :: l, acc => by
    have := ddK_len l (if x ∈ acc then acc else acc ++ [x])
    show (ddK (if x ∈ acc then acc else acc ++ [x]) l).length ≤ _
    rw [List.length_cons]
    by_cases h : x ∈ acc
    · rw [if_pos h] at this ⊢; omega
    · rw [if_neg h] at this ⊢
      rw [List.length_append, List.length_singleton] at this
      omega
theorem ddK_mem : ∀ (l acc : List Key) (k : Key), k ∈ ddK acc l ↔ k ∈ acc ∨ k ∈ l
  | [], acc, k => ⟨.inl, fun h => h.elim id (fun h => nomatch h)⟩
  | x :: l, acc, k => by
    show k ∈ ddK (if x ∈ acc then acc else acc ++ [x]) l ↔ _
    rw [ddK_mem l _ k]
    by_cases h : x ∈ acc
    · rw [if_pos h, List.mem_cons]
      constructor
      · rintro (q | q)
        · exact .inl q
        · exact .inr (.inr q)
      · rintro (q | rfl | q)
        · exact .inl q
        · exact .inl h
        · exact .inr q
    · rw [if_neg h, List.mem_cons, List.mem_append, List.mem_singleton]
      constructor
      · rintro ((q | q) | q)
        · exact .inl q
        · exact .inr (.inl q)
        · exact .inr (.inr q)
      · rintro (q | q | q)
        · exact .inl (.inl q)
        · exact .inl (.inr q)
        · exact .inr q
theorem ddK_nd : ∀ (l acc : List Key), acc.Nodup → (ddK acc l).Nodup
  | [], acc, h => h
  | x :: l, acc, h => by
    refine ddK_nd l _ ?_
    by_cases c : x ∈ acc
    · rw [if_pos c]; exact h
    · rw [if_neg c, List.nodup_append]
      exact ⟨h, List.nodup_cons.mpr ⟨fun h => (nomatch h), List.nodup_nil⟩, fun y hy z hz e => c (by rw [← List.mem_singleton.mp hz, ← e]; exact hy)⟩
section
variable {prog : Program} {w : World} {A : Around} {E : Value → Shared → Prop} {s : Shared}
abbrev bareSetG (w : World) : Obj := { cls := .type "set", dict := none, data := .set #[] 0 (.fresh 0 0 (!w.params.followText "set-order")) }
theorem code_set_newG (a : Value) {Q₁ : Value → Shared → Prop}
    (h : Q₁ (.ref s.heap.objs.size) { s with heap := s.heap.push (bareSetG w) }) :
    codeAny (model prog w) A (.call (.builtin "set.__new__") ⟨[.type "set", a], []⟩) (wants Q₁ E) s := by
  refine codeAny_call_builtin PySem.F.plain_set_new PySem.F.entry_set_new ?_
  rw [chk_new]
  refine wpAny_pure ?_
  unfold Builtin.«set.__new__»
  rw [cls_new]
  refine wpAny_bind (wpAny_pure (wpAny_bind ?_))
  unfold newSet setsByText
  refine wpAny_bind (wpAny_bind (wpAny_askSetting (wpAny_pure ?_)))
  exact wpAny_newObj_type (wpAny_pure h)
theorem setG_keep {h h' : Heap} {a : Addr} {ks : List Key} (q : SetG prog w h a ks) (k : ∀ o, h.get? a = some o → h'.get? a = some o) : SetG prog w h' a ks := by
  obtain ⟨o, es, ep, t, ho, r⟩ := q
  exact ⟨o, es, ep, t, k o ho, r⟩
theorem setG_bare {h : Heap} {a : Addr} (e : h.get? a = some (bareSetG w)) : SetG prog w h a [] :=
  ⟨_, #[], 0, _, e, ⟨rfl, rfl, rfl⟩, rfl, ⟨[], List.Perm.refl _, .nil⟩, by rfl, ⟨List.Pairwise.nil, rfl, rfl⟩, List.nodup_nil⟩
end
section
variable {prog : Program} {w : World} {A : Around} {R : Result → Shared → Prop} {I : Addr} {fp wr : List Addr} {n : Nat} {P : Nat → Value → Prop} {St : Nat → Heap → Prop}
theorem upd_loopK (W : Walks prog w A.in1 I fp wr n P St) (S : Addr) (hS : S ∉ fp) (ks : List Key) (hzn : ks.length = n) (hv : ∀ (i : Nat) v, P i v → ∃ k, ks[i]? = some k ∧ (mixKind prog w).is k v = true ∧ v.scannable = true) (hb : n + 1 < scanBound) :
    ∀ (m i : Nat) (s : Shared), n - i = m → i ≤ n → St i s.heap → SetG prog w s.heap S (ddK [] (ks.take i)) →
      (∀ h' tk, (∀ b o, b ∉ S :: wr → s.heap.get? b = some o → h'.get? b = some o) → SetG prog w h' S (ddK [] ks) → R (.ok (.ret .none)) { s with heap := h', toks := tk }) →
      codeAny (model prog w) A (.builtin "set.update.loop" ⟨[.ref S, .ref I], []⟩) R s := by
  have hSw : S ∉ wr := fun q => hS (W.sub _ q)
  intro m
  induction m with
  | zero =>
    intro i s hk hi st so fin
    obtain rfl : i = n := by omega
    refine codeAny_builtin PyProof.Rows.F.entry_set_update_loop ?_
    rw [Around.under_plainId PyProof.Rows.F.plain_set_update_loop _]
    refine wpAny_bind (m := pyNext (.ref I)) (W.done s _ _ st fun h' tk kp => wpAny_pure (fin h' tk (fun b o nb e => kp b o (fun q => nb (List.mem_cons_of_mem _ q)) e) ?_))
    rw [← hzn, List.take_length] at so
    exact setG_keep so fun o e => kp S o hSw e
  | succ m ih =>
    intro i s hk hi st so fin
    have hlt : i < n := by omega
    refine codeAny_builtin PyProof.Rows.F.entry_set_update_loop ?_
    rw [Around.under_plainId PyProof.Rows.F.plain_set_update_loop _]
    refine wpAny_bind (m := pyNext (.ref I)) (W.item i s _ _ hlt st fun v h1 tk1 pv st1 kp1 => ?_)
    obtain ⟨k, hkk, hk1, hk2⟩ := hv i v pv
    have so1 := setG_keep so fun o e => kp1 S o hSw e
    refine wpAny_bind (m := holding [v] (setAdd S v)) (wpAny_holding ?_)
    unfold setAdd
    refine wpAny_holding (wpAny_bind ((mixKind prog w).pyHash hk1 ?_))
    have room := ddK_len (ks.take i) []
    rw [List.length_take, List.length_nil] at room
    refine add_set hk1 hk2 (s := { s with heap := h1, toks := tk1 + 1 }) so1 (by omega) fun b h2 sb so2 => ?_
    have et : ks.take (i + 1) = ks.take i ++ [k] := by rw [List.take_add_one, hkk]; rfl
    rw [← ddK_snoc, ← et] at so2
    refine wpAny_pure ⟨plainId_quiet PyProof.Rows.F.plain_set_update_loop _, ih (i + 1) _ (by omega) hlt (W.frame _ _ _ st1 fun b hb o e => (sb.2 b fun q => hS (by rw [← q]; exact hb)).trans e) so2 fun h' tk kp so' => fin h' tk (fun b o nb e => kp b o nb ?_) so'⟩
    have nS : b ≠ S := fun q => nb (by rw [q]; exact List.mem_cons_self)
    exact (sb.2 b nS).trans (kp1 b o (fun q => nb (List.mem_cons_of_mem _ q)) e)
end
section
variable {prog : Program} {w : World} {A : Around} {E : Value → Shared → Prop} {s : Shared}
theorem kV_is2 {k : Key} {u : Value} (r : RelV (kV k) u) : (mixKind prog w).is k u = true ∧ u.scannable = true := by
  cases k with
  | inl i => obtain ⟨t, rfl⟩ := r; exact ⟨mixKind_int prog w i t, rfl⟩
  | inr x => obtain ⟨t, rfl⟩ := r; exact ⟨mixKind_str prog w x t, rfl⟩
/-- what set.__init__ does with a list of ints and texts -/
theorem init_keys {l : Addr} {its : List Value} {ks : List Key} {R : Value → Shared → Prop} (hh : A.handled = none) (hl : s.heap.IsList l its.toArray) (hv : Vals (ks.map kV) its) (hb : its.length + 1 < scanBound)
    (h : ∀ (h' : Heap) (tk : Nat), SetG prog w h' s.heap.objs.size (ddK [] ks) → (∀ b o, b < s.heap.objs.size → s.heap.get? b = some o → h'.get? b = some o) → R .none { s with heap := h', toks := tk }) :
    codeAny (model prog w) A (.call (.builtin "set.__init__") ⟨[.ref s.heap.objs.size, .ref l], []⟩) (wants R E) { s with heap := s.heap.push (bareSetG w) } := by
  have own : (s.heap.push (bareSetG w)).get? s.heap.objs.size = some (bareSetG w) := Heap.get?_push_size _ rfl
  have ty : Shared.TypeIs { s with heap := s.heap.push (bareSetG w) } (.ref s.heap.objs.size) "set" := ⟨_, own, rfl⟩
  refine codeAny_call_builtin PySem.F.called_set.init.plain PySem.F.entry_set_init (check_set_init_1 ty ?_)
  obtain ⟨⟨c0, d0, dt0, sl0⟩, ho, hc, nl, hd⟩ := hl
  simp only at hc hd
  subst hc hd
  have ho1 : (s.heap.push (bareSetG w)).get? l = some { cls := .type "list", dict := d0, data := .seq its.toArray nl, slots := sl0 } := Heap.get?_push_of_some _ ho
  have hl1 : (s.heap.push (bareSetG w)).IsList l its.toArray := ⟨_, ho1, rfl, nl, rfl⟩
  have f1 := PySem.F.sub_list_set
  have f2 := PySem.F.sub_list_frozenset
  have f3 : (Value.type "list" == Value.type "dict") = false := by decide
  unfold Builtin.«set.__init__» noKeywords Builtin.Frozenset.updateFrom
  generalize hP : pyIter = PI
  wp_walk
  subst hP
  refine wpAny_pyIter_list hl1 (wpAny_bind (wpAny_runValue ?_))
  have lt0 : l < s.heap.objs.size := Heap.lt_size ho
  have hz : ks.length = its.length := by
    have := hv.length
    rw [List.length_map] at this
    exact this
  have ne0 : l ≠ (s.heap.push (bareSetG w)).objs.size := by rw [Heap.size_push]; exact Nat.ne_of_lt (Nat.lt_succ_of_lt lt0)
  have nin : s.heap.objs.size ∉ [(s.heap.push (bareSetG w)).objs.size, l] := by
    rw [Heap.size_push]
    simp only [List.mem_cons, List.not_mem_nil, or_false, not_or]
    exact ⟨Nat.ne_of_lt (Nat.lt_succ_self _), Nat.ne_of_gt lt0⟩
  have hh3 : A.in1.in1.handled = none := by simp [hh]
  refine upd_loopK (Walks.list hh3 _ l ne0 its.toArray) s.heap.objs.size nin ks (by rw [List.size_toArray]; exact hz) (fun i v e => ?_) (by rw [List.size_toArray]; exact hb) (its.toArray.size - 0) 0 _ (by omega) (Nat.zero_le _) ?st ?_ ?_
  case st => exact ⟨⟨_, Heap.get?_push_size _ rfl, rfl, rfl⟩, hl1.push _⟩
  · have e' : its[i]? = some v := by simpa using e
    have hi : i < ks.length := by
      rw [hz]
      exact (List.getElem?_eq_some_iff.mp e').1
    obtain ⟨u, hu, ru⟩ := hv.get (i := i) (x := kV ks[i]) (by rw [List.getElem?_map, List.getElem?_eq_getElem hi]; rfl)
    rw [e'] at hu
    cases hu
    exact ⟨ks[i], List.getElem?_eq_getElem hi, kV_is2 ru⟩
  · have g2 : ((s.heap.push (bareSetG w)).push { cls := .type "list_iterator", data := .fields #[.ref l, .int 0 0] }).get? s.heap.objs.size = some (bareSetG w) := Heap.get?_push_of_some _ own
    exact setG_bare g2
  · intro h' tk kp so
    refine wpAny_pure (wpAny_pure (h h' tk so fun b o hb2 e => kp b o ?_ (Heap.get?_push_of_some _ (Heap.get?_push_of_some _ e))))
    simp only [List.mem_cons, List.not_mem_nil, or_false, not_or]
    exact ⟨Nat.ne_of_lt hb2, by rw [Heap.size_push]; exact Nat.ne_of_lt (Nat.lt_succ_of_lt hb2)⟩
theorem call_set_keys {l : Addr} {its : List Value} {ks : List Key} {Q : Value → Shared → Prop} (hh : A.handled = none) (hl : s.heap.IsList l its.toArray) (hv : Vals (ks.map kV) its) (hb : its.length + 1 < scanBound)
    (h : ∀ (h' : Heap) (tk : Nat), SetG prog w h' s.heap.objs.size (ddK [] ks) → (∀ b o, b < s.heap.objs.size → s.heap.get? b = some o → h'.get? b = some o) → Q (.ref s.heap.objs.size) { s with heap := h', toks := tk }) :
    wpAny (model prog w) A (call (.type "set") [.ref l]) Q E s := by
  obtain ⟨c, tl, hmro⟩ := PySem.F.called_set.mro
  have k1 := PySem.F.called_set.made
  have k2 := PySem.F.called_set.sub
  have k3 := PySem.F.called_set.notType
  have k4 := PySem.F.called_set.canCreate
  have k5 := PySem.F.typeCall_set_1 (.ref l)
  refine wpAny_call (codeAny_of_tree ?_)
  show wpAny _ _ (callAny (.type "set") _) _ _ _
  refine wpAny_pure ⟨Code.quiet_builtin _ (by decide +kernel), codeAny_builtin PySem.F.entry_type_call ?_⟩
  rw [Around.under_plain (weight_type_call_type "set" [.ref l] []) rfl]
  repeat (any_goals (first | assumption | wp_step))
  refine codeAny_mono (code_set_newG (.ref l) (E := E) (Q₁ := fun obj s1 => obj = .ref s.heap.objs.size ∧ s1 = { s with heap := s.heap.push (bareSetG w) }) ⟨rfl, rfl⟩) fun r s1 hr => ?_
  cases r with
  | error e => exact hr
  | ok fl =>
    cases fl with
    | ret obj =>
      obtain ⟨rfl, rfl⟩ := hr
      have own : (s.heap.push (bareSetG w)).get? s.heap.objs.size = some (bareSetG w) := Heap.get?_push_size _ rfl
      have ty : Shared.TypeIs { s with heap := s.heap.push (bareSetG w) } (.ref s.heap.objs.size) "set" := ⟨_, own, rfl⟩
      have k6 := PySem.F.called_set.init.lookup
      have k7 := PySem.F.called_set.init.bind (.ref s.heap.objs.size)
      repeat (any_goals (first | assumption | wp_step))
      refine codeAny_mono (init_keys (R := fun r s2 => r = .none ∧ ∃ h' tk, s2 = { s with heap := h', toks := tk } ∧ SetG prog w h' s.heap.objs.size (ddK [] ks) ∧ (∀ b o, b < s.heap.objs.size → s.heap.get? b = some o → h'.get? b = some o)) (E := E) (by simp [hh]) hl hv hb fun h' tk so kp => ⟨rfl, h', tk, rfl, so, kp⟩) fun r2 s2 hr2 => ?_
      cases r2 with
      | error e => exact hr2
      | ok fl2 =>
        cases fl2 with
        | ret r =>
          obtain ⟨rfl, h', tk, rfl, so, kp⟩ := hr2
          repeat (any_goals (first | assumption | wp_step))
          exact h _ _ so kp
        | _ => exact hr2.elim
    | _ => exact hr.elim
end
/-- a set of ints and texts that nothing changes -/
def keySet (prog : Program) (w : World) (a : Addr) (ks : List Key) : HO := .ext fun h => SetG prog w h a ks
section
variable {X : Cx}
theorem call_setK (hc : X.calm = true) : CallR X (.type "set") (fun xs H Q => ∃ (p : Addr) (ks : List Key), xs = [.ref p] ∧ SqL X.K H p (ks.map kV) ∧ ks.length < 4000 ∧ ∀ a, H a = none → Q (.ref a) (upd H a (keySet X.prog X.w a (ddK [] ks)))) := by
  intro pins s σ H xs us Q I r h
  obtain ⟨p, ks, rfl, hq, hz, q⟩ := h
  obtain ⟨u, rfl, ru⟩ := vals1 r
  cases ru
  obtain ⟨its, rv, pl, _⟩ := I.list hq
  have hl := rv.length
  rw [List.length_map] at hl
  refine call_set_keys (I.ok.hd hc) pl.isList rv (by unfold scanBound; omega) fun h' tk so kp => ?_
  refine ⟨.ref s.heap.objs.size, _, I.laid (t' := tk) (fun b o e => kp b o (Heap.lt_size e) e) (Nat.le_refl _) (show ObjOk X.prog X.w _ h' _ (keySet X.prog X.w s.heap.objs.size (ddK [] ks)) from ?_), rfl, q _ (I.hok.fresh (Nat.le_refl _))⟩
  refine ⟨so, ?_, fun h1 h2 a k => ?_⟩
  · obtain ⟨o, _, _, _, ho, _⟩ := so
    exact ⟨o, ho⟩
  · exact setG_keep a k
end
end L2

namespace L2
open PySem PySem.Spec PyProof.Rows
theorem slot_sit_next : Slot "set_iterator" (Str.ofString "__next__") "set_iterator.__next__" := Slot.of (owner := "set_iterator") (n := "__next__") (by kernel_rfl) (by kernel_rfl) (by kernel_rfl) (by kernel_rfl) (.inl (by kernel_rfl)) (by kernel_rfl) (by kernel_rfl)
theorem slot_sit_iter : Slot "set_iterator" (Str.ofString "__iter__") "set_iterator.__iter__" := Slot.of (owner := "set_iterator") (n := "__iter__") (by kernel_rfl) (by kernel_rfl) (by kernel_rfl) (by kernel_rfl) (.inl (by kernel_rfl)) (by kernel_rfl) (by kernel_rfl)
theorem args_sit_next (a : Value) : argsOk "set_iterator.__next__" { pos := [a] } := by kernel_rfl
theorem args_sit_iter (a : Value) : argsOk "set_iterator.__iter__" { pos := [a] } := by kernel_rfl
theorem entry_sit_next : entryFor PySem.table "set_iterator.__next__" = some PySem.Builtin.«set_iterator.__next__» := by kernel_rfl
theorem entry_set_iter : entryFor PySem.table "set.__iter__" = some PySem.Builtin.«frozenset.__iter__» := by kernel_rfl
theorem first_stop : firstArgMember (.type "StopIteration") [] = pure .none := by kernel_rfl
theorem own_stop : ownMembersOf (.type "StopIteration") [] = #[] := by kernel_rfl
section
variable {prog : Program} {w : World} {A : Around} {E : Value → Shared → Prop} {s : Shared}
theorem raise_stop {α : Type} {Q : α → Shared → Prop} (hh : A.handled = none) (k : ∀ h' e, (∀ b o, s.heap.get? b = some o → h'.get? b = some o) → Shared.TypeIs { s with heap := h' } (.ref e) "StopIteration" → E (.ref e) { s with heap := h' }) :
    wpAny (model prog w) A (do
      let x ← newExc (.type "StopIteration") []
      raiseNew x : Sem α) Q E s := by
  refine wpAny_bind ?_
  unfold newExc
  refine wpAny_bind (wpAny_newTuple ?_ (Nat.zero_le _))
  rw [first_stop, own_stop]
  refine wpAny_bind (wpAny_pure (wpAny_newObj_type (wpAny_raiseNew_none hh (k _ _ (fun b o e => Heap.get?_push_of_some _ (Heap.get?_push_of_some _ e)) ⟨_, Heap.get?_push_size _ rfl, rfl⟩))))
theorem next_of {it : Addr} {Q : Option Value → Shared → Prop} (ty : s.TypeIs (.ref it) "set_iterator")
    (h : wpAny (model prog w) A.in1 (Builtin.«set_iterator.__next__» ⟨[.ref it], []⟩) (fun fin s' => ∃ v, fin = .done (.ret v) ∧ Q (some v) s') (fun e s' => s'.TypeIs e "StopIteration" ∧ Q none s') s) :
    wpAny (model prog w) A (pyNext (.ref it)) Q E s := by
  unfold pyNext
  refine wpAny_bind (wpAny_attempt ?_)
  refine wpAny_callSpecial?_slotG ty slot_sit_next.toG ?_
  refine wpAny_mono (wpAny_call_entry slot_sit_next ty entry_sit_next (Q := fun v s' => Q (some v) s') h (args_sit_next _)) (fun v s' q => wpAny_pure q) (fun e s' q => ?_)
  exact wpAny_bind (wpAny_isInstance q.1 isSubtype_stop (by rw [if_pos rfl]; exact wpAny_pure q.2))
/-- the object of a walk over the set at a -/
abbrev sitO (first : Value) (i : Nat) (a : Addr) (n ep : Nat) : Obj := { cls := .type "set_iterator", data := .fields #[first, .int i 0, .ref a, .int n 0, .int ep 0] }
theorem by_text {Q : Bool → Shared → Prop} (q : Q (w.params.followText "set-order") s) : wpAny (model prog w) A setsByText Q E s := by
  unfold setsByText
  exact wpAny_bind (wpAny_askSetting (wpAny_pure q))
variable {a : Addr} {o : Obj} {es : Array (Int × Value)} {ep : Nat} {t : SetTable}
theorem next_text {slot given : Nat} {Q : Option (Value × Nat) → Shared → Prop} (ht : w.params.followText "set-order" = true) (ho : s.heap.get? a = some o) (hd : o.data = .set es ep t) (fit : t.fits es.size = true)
    (q : Q ((pickOrder (w.params.setOrder a ep) es)[given]?.map fun e => (e.2, slot)) s) : wpAny (model prog w) A (setNext a slot given ep) Q E s := by
  unfold setNext
  refine wpAny_bind (wpAny_setState_of ho hd fit ?_)
  refine wpAny_bind (by_text ?_)
  rw [ht, if_pos rfl, if_neg (by simp)]
  refine wpAny_bind ?_
  unfold setWalk
  refine wpAny_bind (wpAny_setState_of ho hd fit ?_)
  refine wpAny_bind (by_text ?_)
  rw [ht, if_pos rfl]
  exact wpAny_bind (wpAny_askSetting (wpAny_pure (wpAny_pure q)))
theorem next_place {slot given : Nat} {Q : Option (Value × Nat) → Shared → Prop} (ht : w.params.followText "set-order" = false) (ho : s.heap.get? a = some o) (hd : o.data = .set es ep t) (fit : t.fits es.size = true) (g : Gd t true)
    (np : (!t.plain && decide (es.size > 1)) = false)
    (q : Q (match es[SetTable.below t.place slot]?, t.place[SetTable.below t.place slot]? with
      | some e, some j => some (e.2, j + 1)
      | _, _ => none) s) : wpAny (model prog w) A (setNext a slot given ep) Q E s := by
  unfold setNext
  refine wpAny_bind (wpAny_setState_of ho hd fit ?_)
  refine wpAny_bind (by_text ?_)
  rw [ht, if_neg (by decide)]
  show wpAny _ _ (if (!t.plain && decide (es.size > 1)) = true then _ else _) _ _ _
  rw [np, if_neg (by decide)]
  refine wpAny_bind (show wpAny _ _ (if (!t.led && !es.isEmpty) = true then _ else pure ()) _ _ _ from ?_)
  rw [g.led, if_neg (by simp)]
  refine wpAny_pure (wpAny_pure ?_)
  cases h1 : es[SetTable.below t.place slot]? with
  | none => rw [h1] at q; exact q
  | some e =>
    rw [h1] at q
    cases h2 : t.place[SetTable.below t.place slot]? with
    | none => rw [h2] at q; exact q
    | some j => rw [h2] at q; exact q
theorem next_drawn {place : Nat} {e : Int × Value} {Q : Value → Shared → Prop} (ho : s.heap.get? a = some o) (hd : o.data = .set es ep t) (fit : t.fits es.size = true) (he : es[place]? = some e)
    (q : Q e.2 s) : wpAny (model prog w) A (setNextDrawn a place ep) Q E s := by
  unfold setNextDrawn
  refine wpAny_bind (wpAny_setState_of ho hd fit ?_)
  dsimp only
  rw [if_neg (by simp), he]
  exact wpAny_pure q
/-- the walk's next step, up to where the kinds of walk part -/
theorem next_head {it : Addr} {first : Value} {i : Nat} {Q : PySem.Fin → Shared → Prop} (hit : s.heap.get? it = some (sitO first i a es.size ep)) (ho : s.heap.get? a = some o) (hd : o.data = .set es ep t) (fit : t.fits es.size = true)
    (q : wpAny (model prog w) A (match first with
      | .int slot _ => do
        let r ← setNext a slot.toNat i ep
        match r with
          | some (x, next) => do
            setField (.ref it) 0 (rawInt next)
            setField (.ref it) 1 (rawInt (i + 1))
            ret x
          | none => do
            setField (.ref it) 2 .none
            let x ← newExc (.type "StopIteration") []
            raiseNew x
      | x => do
        let y ← seqItems? first
        match y with
          | some places =>
            match places[i]? with
            | some (.int place _) => do
              let x ← setNextDrawn a place.toNat ep
              setField (.ref it) 1 (rawInt (i + 1))
              ret x
            | some val => unsupported "internal:set_iterator"
            | none => do
              setField (.ref it) 0 (rawInt 0)
              setField (.ref it) 2 .none
              let x ← newExc (.type "StopIteration") []
              raiseNew x
          | x => unsupported "internal:set_iterator") Q E s) : wpAny (model prog w) A (Builtin.«set_iterator.__next__» ⟨[.ref it], []⟩) Q E s := by
  unfold Builtin.«set_iterator.__next__»
  refine wpAny_bind (show wpAny _ _ (pure (Value.ref it, [])) _ _ _ from wpAny_pure ?_)
  refine wpAny_bind (wpAny_fieldsOf hit rfl ?_)
  refine wpAny_bind (wpAny_setEntries_of ho hd fit ?_)
  rw [if_neg (by simp)]
  exact q
end
end L2

namespace L2
open PySem PySem.Spec PyProof.Rows
theorem perm_erase {α : Type} : ∀ (l : List α) (i : Nat) (x : α), l[i]? = some x → (x :: l.eraseIdx i).Perm l
  | [], i, x, h => by simp at h
  | a :: l, 0, x, h => by
    have e : a = x := by simpa using h
    subst e
    exact List.Perm.refl _
  | a :: l, i + 1, x, h => by
    have ih := perm_erase l i x (by simpa using h)
    show (x :: a :: l.eraseIdx i).Perm (a :: l)
    exact (List.Perm.swap a x _).trans (ih.cons a)
theorem pick_go {α : Type} (next : Nat → Nat) : ∀ (fuel k : Nat) (left : List α) (out : Array α), left.length ≤ fuel → (pickOrder.go next fuel k left out).toList.Perm (out.toList ++ left)
  | 0, k, left, out, h => by
    have e : left = [] := List.eq_nil_of_length_eq_zero (by omega)
    subst e
    rw [List.append_nil]
    exact List.Perm.refl _
  | fuel + 1, k, left, out, h => by
    show (match left[next k % left.length]? with
      | some x => pickOrder.go next fuel (k + 1) (left.eraseIdx (next k % left.length)) (out.push x)
      | none => out).toList.Perm _
    cases e : left[next k % left.length]? with
    | none =>
      have l0 : left = [] := by
        cases left with
        | nil => rfl
        | cons a l =>
          rw [List.getElem?_eq_none_iff] at e
          have := Nat.mod_lt (next k) (show 0 < (a :: l).length by simp)
          omega
      subst l0
      rw [List.append_nil]
    | some x =>
      have lt := (List.getElem?_eq_some_iff.mp e).1
      have ih := pick_go next fuel (k + 1) (left.eraseIdx (next k % left.length)) (out.push x) (by rw [List.length_eraseIdx_of_lt lt]; omega)
      refine ih.trans ?_
      rw [Array.toList_push, List.append_assoc]
      exact (perm_erase left _ x e).append_left _
theorem pick_perm {α : Type} (next : Nat → Nat) (xs : Array α) : (pickOrder next xs).toList.Perm xs.toList := by
  have := pick_go next xs.size 0 xs.toList #[] (by rw [Array.length_toList]; exact Nat.le_refl _)
  show (pickOrder.go next xs.size 0 xs.toList #[]).toList.Perm xs.toList
  simpa using this
section
variable {prog : Program} {w : World} {A : Around} {E : Value → Shared → Prop} {s : Shared}
theorem draw_order {α : Type} : ∀ (n : Nat) (l : List α) (s : Shared) {Q : List α → Shared → Prop}, l.length = n → (∀ o d, o.Perm l → Q o { s with drawn := d }) → wpAny (model prog w) A (drawOrder n l) Q E s
  | 0, l, s, Q, h, q => by
    have e : l = [] := List.eq_nil_of_length_eq_zero h
    subst e
    exact (wpAny_pure (q [] s.drawn (List.Perm.refl _)) : wpAny _ _ (pure []) _ _ _)
  | n + 1, [], s, Q, h, q => by simp at h
  | n + 1, a :: l, s, Q, h, q => by
    show wpAny _ _ (choose Source.order (a :: l).length >>= fun i => match (a :: l)[i]? with
      | some x => do
        let r ← drawOrder n ((a :: l).eraseIdx i)
        pure (x :: r)
      | none => unsupported "internal:drawOrder") _ _ _
    refine wpAny_bind ?_
    intro Γ p hΓ
    unfold choose
    rw [Sem.wp_choose]
    refine ⟨by simp, ?_⟩
    have lt : (model prog w).w.draws Source.order (s.drawn.get Source.order) % (a :: l).length < (a :: l).length := Nat.mod_lt _ (by simp)
    generalize (model prog w).w.draws Source.order (s.drawn.get Source.order) % (a :: l).length = i at lt ⊢
    obtain ⟨x, hx⟩ : ∃ x, (a :: l)[i]? = some x := ⟨_, List.getElem?_eq_getElem lt⟩
    have main : wpAny (model prog w) A (match (a :: l)[i]? with
      | some x => do
        let r ← drawOrder n ((a :: l).eraseIdx i)
        pure (x :: r)
      | none => unsupported "internal:drawOrder") Q E { s with drawn := s.drawn.bump Source.order } := by
      rw [hx]
      refine wpAny_bind (draw_order n _ _ ?_ fun o d hp => wpAny_pure (q _ _ ?_))
      · rw [List.length_eraseIdx_of_lt lt]
        simpa using h
      · exact (hp.cons x).trans (perm_erase _ _ _ hx)
    exact main
end
/-! ### the walk by places -/
def slotAt (ps : Array Nat) : Nat → Nat
  | 0 => 0
  | i + 1 => ps.getD i 0 + 1
theorem cut_uniq {ps : Array Nat} {j b c : Nat} (h1 : Cut ps j b) (h2 : Cut ps j c) : b = c := by
  have k1 := h1.le
  have k2 := h2.le
  by_cases e : b < c
  · have x := h2.lo b (by omega) e
    have y := h1.hi b (by omega) (Nat.le_refl _)
    omega
  · by_cases e2 : c < b
    · have x := h1.lo c (by omega) e2
      have y := h2.hi c (by omega) (Nat.le_refl _)
      omega
    · omega
theorem below_slot {ps : Array Nat} (h : Ris ps) {i : Nat} (hi : i ≤ ps.size) : SetTable.below ps (slotAt ps i) = i := by
  refine cut_uniq (below_cut h _) ⟨hi, fun k hk lt => ?_, fun k hk le => ?_⟩
  · cases i with
    | zero => omega
    | succ i =>
      have e : slotAt ps (i + 1) = ps[i]'(by omega) + 1 := by
        show ps.getD i 0 + 1 = _
        simp [Array.getD, show i < ps.size by omega]
      rw [e]
      by_cases c : k = i
      · subst c; omega
      · have := ris_get h (i := k) (k := i) (by omega) (by omega)
        omega
  · cases i with
    | zero => exact Nat.zero_le _
    | succ i =>
      have e : slotAt ps (i + 1) = ps[i]'(by omega) + 1 := by
        show ps.getD i 0 + 1 = _
        simp [Array.getD, show i < ps.size by omega]
      rw [e]
      have := ris_get h (i := i) (k := k) (by omega) hk
      omega
theorem entry_sit_iter : entryFor PySem.table "set_iterator.__iter__" = some PySem.Builtin.«dict_keyiterator.__iter__» := by kernel_rfl
section
variable {prog : Program} {w : World} {A : Around} {a it : Addr} {o : Obj} {es : Array (Int × Value)} {ep : Nat} {t : SetTable}
theorem sit_self {first : Value} {i n : Nat} (s : Shared) (Q E : Value → Shared → Prop) (hit : s.heap.get? it = some (sitO first i a n ep)) (q : Q (.ref it) s) : wpAny (model prog w) A (pyIter (.ref it)) Q E s := by
  have ty : s.TypeIs (.ref it) "set_iterator" := ⟨_, hit, rfl⟩
  refine wpAny_pyIter_slot ty slot_sit_iter (wpAny_call_entry slot_sit_iter ty entry_sit_iter ?_ (args_sit_iter _))
  unfold Builtin.«dict_keyiterator.__iter__»
  refine wpAny_bind (show wpAny _ _ (pure (Value.ref it, [])) _ _ _ from wpAny_pure ?_)
  exact wpAny_pure ⟨_, rfl, "set_iterator", _, ty, slot_sit_next.lookup, q⟩
theorem walk_place (hh : A.handled = none) (hne : a ≠ it) (ht : w.params.followText "set-order" = false) (hd : o.data = .set es ep t) (fit : t.fits es.size = true) (g : Gd t true) (np : (!t.plain && decide (es.size > 1)) = false) :
    Walks prog w A it [it, a] [it] es.size (fun i v => (es.toList.map (·.2))[i]? = some v) (fun i h => i ≤ es.size ∧ h.get? it = some (sitO (.int (slotAt t.place i : Nat) 0) i a es.size ep) ∧ h.get? a = some o) where
  sub := fun b hb => by rw [List.mem_singleton.mp hb]; exact .head _
  frame := fun i h h' st k => ⟨st.1, k it (.head _) _ st.2.1, k a (.tail _ (.head _)) _ st.2.2⟩
  item := fun i s Q E hi st q => by
    obtain ⟨_, hit, ho⟩ := st
    have sz : t.place.size = es.size := by
      unfold SetTable.fits at fit
      rw [Bool.and_eq_true] at fit
      simpa using fit.1
    refine next_of ⟨_, hit, rfl⟩ (next_head hit ho hd fit ?_)
    refine wpAny_bind (next_place ht ho hd fit g np ?_)
    rw [show ((slotAt t.place i : Nat) : Int).toNat = slotAt t.place i from rfl, below_slot g.ris (by omega), Array.getElem?_eq_getElem hi, Array.getElem?_eq_getElem (by omega)]
    refine wpAny_bind (wpAny_setField_rec hit (by simp) fun h1 e1 sb1 => ?_)
    refine wpAny_bind (wpAny_setField_rec e1 (by simp) fun h2 e2 sb2 => ?_)
    refine wpAny_pure ⟨_, rfl, q _ h2 s.toks ?_ ⟨by omega, ?_, ?_⟩ fun b o nb e => ?_⟩
    · rw [List.getElem?_map, Array.getElem?_toList, Array.getElem?_eq_getElem hi]
      rfl
    · rw [e2]
      have es1 : slotAt t.place (i + 1) = t.place[i]'(by omega) + 1 := by
        show t.place.getD i 0 + 1 = _
        simp [Array.getD, show i < t.place.size by omega]
      rw [es1]
      rfl
    · rw [sb2.2 a hne, sb1.2 a hne]
      exact ho
    · have ne : b ≠ it := fun z => nb (by rw [z]; exact .head _)
      rw [sb2.2 b ne, sb1.2 b ne]
      exact e
  done := fun s Q E st q => by
    obtain ⟨_, hit, ho⟩ := st
    have sz : t.place.size = es.size := by
      unfold SetTable.fits at fit
      rw [Bool.and_eq_true] at fit
      simpa using fit.1
    refine next_of ⟨_, hit, rfl⟩ (next_head hit ho hd fit ?_)
    refine wpAny_bind (next_place ht ho hd fit g np ?_)
    rw [show ((slotAt t.place es.size : Nat) : Int).toNat = slotAt t.place es.size from rfl, below_slot g.ris (by omega), Array.getElem?_eq_none (Nat.le_refl _)]
    refine wpAny_bind (wpAny_setField_rec hit (by simp) fun h1 e1 sb1 => ?_)
    refine raise_stop (by simpa using hh) fun h' e k ty => ⟨ty, q h' s.toks fun b o nb eb => k b o ?_⟩
    have ne : b ≠ it := fun z => nb (by rw [z]; exact .head _)
    show h1.get? b = some o
    rw [sb1.2 b ne]
    exact eb
  self := fun i s Q E st q => sit_self s Q E st.2.1 q
theorem walk_text (hh : A.handled = none) (hne : a ≠ it) (ht : w.params.followText "set-order" = true) (hd : o.data = .set es ep t) (fit : t.fits es.size = true) :
    Walks prog w A it [it, a] [it] es.size (fun i v => ((pickOrder (w.params.setOrder a ep) es).toList.map (·.2))[i]? = some v) (fun i h => h.get? it = some (sitO (.int 0 0) i a es.size ep) ∧ h.get? a = some o) where
  sub := fun b hb => by rw [List.mem_singleton.mp hb]; exact .head _
  frame := fun i h h' st k => ⟨k it (.head _) _ st.1, k a (.tail _ (.head _)) _ st.2⟩
  item := fun i s Q E hi st q => by
    obtain ⟨hit, ho⟩ := st
    have sz : (pickOrder (w.params.setOrder a ep) es).size = es.size := by
      have := (pick_perm (w.params.setOrder a ep) es).length_eq
      simpa using this
    refine next_of ⟨_, hit, rfl⟩ (next_head hit ho hd fit ?_)
    refine wpAny_bind (next_text ht ho hd fit ?_)
    rw [Array.getElem?_eq_getElem (by omega)]
    refine wpAny_bind (wpAny_setField_rec hit (by simp) fun h1 e1 sb1 => ?_)
    refine wpAny_bind (wpAny_setField_rec e1 (by simp) fun h2 e2 sb2 => ?_)
    refine wpAny_pure ⟨_, rfl, q _ h2 s.toks ?_ ⟨?_, ?_⟩ fun b o nb e => ?_⟩
    · rw [List.getElem?_map, Array.getElem?_toList, Array.getElem?_eq_getElem (by omega)]
      rfl
    · rw [e2]
      rfl
    · rw [sb2.2 a hne, sb1.2 a hne]
      exact ho
    · have ne : b ≠ it := fun z => nb (by rw [z]; exact .head _)
      rw [sb2.2 b ne, sb1.2 b ne]
      exact e
  done := fun s Q E st q => by
    obtain ⟨hit, ho⟩ := st
    have sz : (pickOrder (w.params.setOrder a ep) es).size = es.size := by
      have := (pick_perm (w.params.setOrder a ep) es).length_eq
      simpa using this
    refine next_of ⟨_, hit, rfl⟩ (next_head hit ho hd fit ?_)
    refine wpAny_bind (next_text ht ho hd fit ?_)
    rw [Array.getElem?_eq_none (by omega)]
    refine wpAny_bind (wpAny_setField_rec hit (by simp) fun h1 e1 sb1 => ?_)
    refine raise_stop (by simpa using hh) fun h' e k ty => ⟨ty, q h' s.toks fun b o nb eb => k b o ?_⟩
    have ne : b ≠ it := fun z => nb (by rw [z]; exact .head _)
    show h1.get? b = some o
    rw [sb1.2 b ne]
    exact eb
  self := fun i s Q E st q => sit_self s Q E st.1 q
abbrev plO (ord : List Nat) : Obj := { cls := .type "tuple", data := .seq (ord.map fun i => rawInt (i : Nat)).toArray }
theorem walk_drawn {T : Addr} {ord : List Nat} (hh : A.handled = none) (hne : a ≠ it) (hT : T ≠ it) (hp : ord.Perm (List.range es.size)) (hd : o.data = .set es ep t) (fit : t.fits es.size = true) :
    Walks prog w A it [it, a, T] [it] es.size (fun i v => (ord.map fun j => (es.getD j (0, .none)).2)[i]? = some v) (fun i h => h.get? it = some (sitO (.ref T) i a es.size ep) ∧ h.get? a = some o ∧ h.get? T = some (plO ord)) where
  sub := fun b hb => by rw [List.mem_singleton.mp hb]; exact .head _
  frame := fun i h h' st k => ⟨k it (.head _) _ st.1, k a (.tail _ (.head _)) _ st.2.1, k T (.tail _ (.tail _ (.head _))) _ st.2.2⟩
  item := fun i s Q E hi st q => by
    obtain ⟨hit, ho, hpl⟩ := st
    have ol : ord.length = es.size := by rw [hp.length_eq, List.length_range]
    have lt : ord[i]'(by omega) < es.size := List.mem_range.mp (hp.mem_iff.mp (List.getElem_mem _))
    refine next_of ⟨_, hit, rfl⟩ (next_head hit ho hd fit ?_)
    refine wpAny_bind (wpAny_seqItems hpl rfl ?_)
    have eo : (ord.map fun i => rawInt (i : Nat)).toArray[i]? = some (.int (ord[i]'(by omega) : Nat) 0) := by
      rw [List.getElem?_toArray, List.getElem?_map, List.getElem?_eq_getElem (by omega)]
      rfl
    dsimp only
    rw [eo]
    refine wpAny_bind (next_drawn ho hd fit (place := (((ord[i]'(by omega) : Nat) : Int)).toNat) (e := es[ord[i]'(by omega)]) (by rw [show (((ord[i]'(by omega) : Nat) : Int)).toNat = ord[i]'(by omega) from rfl, Array.getElem?_eq_getElem lt]) ?_)
    refine wpAny_bind (wpAny_setField_rec hit (by simp) fun h1 e1 sb1 => ?_)
    refine wpAny_pure ⟨_, rfl, q _ h1 s.toks ?_ ⟨?_, ?_, ?_⟩ fun b o nb e => ?_⟩
    · rw [List.getElem?_map, List.getElem?_eq_getElem (by omega)]
      simp [Array.getD, lt]
    · rw [e1]
      rfl
    · rw [sb1.2 a hne]
      exact ho
    · rw [sb1.2 T hT]
      exact hpl
    · have ne : b ≠ it := fun z => nb (by rw [z]; exact .head _)
      rw [sb1.2 b ne]
      exact e
  done := fun s Q E st q => by
    obtain ⟨hit, ho, hpl⟩ := st
    have ol : ord.length = es.size := by rw [hp.length_eq, List.length_range]
    refine next_of ⟨_, hit, rfl⟩ (next_head hit ho hd fit ?_)
    refine wpAny_bind (wpAny_seqItems hpl rfl ?_)
    have eo : (ord.map fun i => rawInt (i : Nat)).toArray[es.size]? = none := by
      rw [List.getElem?_toArray, List.getElem?_map, List.getElem?_eq_none (by omega)]
      rfl
    dsimp only
    rw [eo]
    refine wpAny_bind (wpAny_setField_rec hit (by simp) fun h1 e1 sb1 => ?_)
    refine wpAny_bind (wpAny_setField_rec e1 (by simp) fun h2 e2 sb2 => ?_)
    refine raise_stop (by simpa using hh) fun h' e k ty => ⟨ty, q h' s.toks fun b o nb eb => k b o ?_⟩
    have ne : b ≠ it := fun z => nb (by rw [z]; exact .head _)
    show h2.get? b = some o
    rw [sb2.2 b ne, sb1.2 b ne]
    exact eb
  self := fun i s Q E st q => sit_self s Q E st.1 q
end
end L2

namespace L2
open PySem PySem.Spec PyProof.Rows
theorem paired_perm {α β : Type} {F : α → β → Prop} {xs ys : List α} (p : xs.Perm ys) : ∀ {zs : List β}, Paired F ys zs → ∃ zs', zs'.Perm zs ∧ Paired F xs zs' := by
  induction p with
  | nil => intro zs h; exact ⟨zs, List.Perm.refl _, h⟩
  | cons x _ ih =>
    intro zs h
    cases h with
    | cons f r =>
      obtain ⟨zs', p, q⟩ := ih r
      exact ⟨_ :: zs', p.cons _, .cons f q⟩
  | swap x y l =>
    intro zs h
    cases h with
    | cons f r =>
      cases r with
      | cons g r =>
        exact ⟨_, List.Perm.swap _ _ _, .cons g (.cons f r)⟩
  | trans _ _ ih1 ih2 =>
    intro zs h
    obtain ⟨z1, p1, q1⟩ := ih2 h
    obtain ⟨z2, p2, q2⟩ := ih1 q1
    exact ⟨z2, p2.trans p1, q2⟩
theorem paired_map {α β γ : Type} {F : α → β → Prop} {G : γ → β → Prop} {f : α → γ} (h : ∀ a b, F a b → G (f a) b) : ∀ {xs : List α} {zs : List β}, Paired F xs zs → Paired G (xs.map f) zs
  | _, _, .nil => .nil
  | _, _, .cons g r => .cons (h _ _ g) (paired_map h r)
def IsK (P : Program) (w : World) (v : Value) (k : Key) : Prop := (mixKind P w).is k v = true
theorem vals_set {P : Program} {w : World} {es : List (Int × Value)} {vs : List (Int × Value)} {ks : List Key} (h : ∃ fs, es.Perm fs ∧ Paired (KeyE P w) fs ks) (p : vs.Perm es) : ∃ ks', ks'.Perm ks ∧ Paired (IsK P w) (vs.map (·.2)) ks' := by
  obtain ⟨fs, p1, m⟩ := h
  obtain ⟨ks', p2, q⟩ := paired_perm (p.trans p1) m
  exact ⟨ks', p2, paired_map (fun _ _ z => z.1) q⟩
section
variable {prog : Program} {w : World} {A : Around} {E : Value → Shared → Prop} {s : Shared} {a : Addr} {ks : List Key}
theorem iter_set {Q : Value → Shared → Prop} (G : SetG prog w s.heap a ks) (hb : ks.length ≤ sizeLine)
    (q : ∀ (it : Addr) (h' : Heap) (d : Drawn) (vs : List Value) (fp : List Addr) (St : Nat → Heap → Prop), s.heap.objs.size ≤ it → (∀ b o, s.heap.get? b = some o → h'.get? b = some o) → (∀ b ∈ fp, b = a ∨ s.heap.objs.size ≤ b) →
      (∀ A' : Around, A'.handled = none → Walks prog w A' it fp [it] ks.length (fun i v => vs[i]? = some v) St) → St 0 h' → vs.length = ks.length → (∃ ks', ks'.Perm ks ∧ Paired (IsK prog w) vs ks') → Q (.ref it) { s with heap := h', drawn := d }) :
    wpAny (model prog w) A (pyIter (.ref a)) Q E s := by
  obtain ⟨o, es, ep, t, ho, hex, hd, hf, fit, gd, nd⟩ := G
  have len := elems_len hf
  rw [Array.length_toList] at len
  have lta : a < s.heap.objs.size := Heap.lt_size ho
  have ty : s.TypeIs (.ref a) "set" := ⟨o, ho, hex.1⟩
  refine wpAny_pyIter_slot ty PySem.F.slot_set_iter (wpAny_call_entry PySem.F.slot_set_iter ty entry_set_iter ?_ (PySem.F.args_set_iter_1 _))
  unfold Builtin.«frozenset.__iter__»
  refine wpAny_bind (show wpAny _ _ (pure a) _ _ _ from wpAny_pure ?_)
  unfold Builtin.Frozenset.sizeOf
  refine wpAny_bind (wpAny_bind (wpAny_setEntries_of ho hd fit (wpAny_pure ?_)))
  unfold setDrawn
  refine wpAny_bind (wpAny_bind (wpAny_setState_of ho hd fit (wpAny_bind (by_text (wpAny_pure ?_)))))
  show wpAny _ _ (if (!w.params.followText "set-order" && (!t.plain && decide (es.size > 1))) = true then _ else _) _ _ _
  have fin : ∀ (first : Value) (s1 : Shared) (it : Addr), it = s1.heap.objs.size → s1.heap.get? a = some o → (∀ b o, s.heap.get? b = some o → s1.heap.get? b = some o) → s.heap.objs.size ≤ it → s1 = { s with heap := s1.heap, drawn := s1.drawn } →
      (∀ h', h' = s1.heap.push (sitO first 0 a es.size ep) → ∃ (vs : List Value) (fp : List Addr) (St : Nat → Heap → Prop), (∀ b ∈ fp, b = a ∨ s.heap.objs.size ≤ b) ∧
      (∀ A' : Around, A'.handled = none → Walks prog w A' it fp [it] es.size (fun i v => vs[i]? = some v) St) ∧ St 0 h' ∧ vs.length = ks.length ∧ (∃ ks', ks'.Perm ks ∧ Paired (IsK prog w) vs ks')) →
      wpAny (model prog w) A.in1 (do
        let e ← setEpoch a
        let x ← newFields "set_iterator" [first, rawInt 0, .ref a, rawInt es.size, rawInt e]
        ret x) (fun fin s' => ∃ v, fin = .done (.ret v) ∧ ∃ T' r, s'.TypeIs v T' ∧ typeLookup (.type T') (Str.ofString "__next__") = pure (some r) ∧ Q v s') E s1 := by
    intro first s1 it hit ho1 kp le es1 hw
    refine wpAny_bind (wpAny_setEpoch_of ho1 hd fit ?_)
    unfold newFields
    refine wpAny_bind (wpAny_newObj_type ?_)
    obtain ⟨vs, fp, St, h1, h2, h3, h4, h5⟩ := hw _ rfl
    refine wpAny_pure ⟨_, rfl, "set_iterator", _, ⟨_, Heap.get?_push_size _ rfl, rfl⟩, slot_sit_next.lookup, ?_⟩
    rw [es1, ← hit]
    rw [len] at h2
    exact q it _ s1.drawn vs fp St le (fun b o e => Heap.get?_push_of_some _ (kp b o e)) h1 h2 h3 h4 h5
  by_cases ht : w.params.followText "set-order" = true
  · rw [ht]
    rw [if_neg (by simp)]
    refine wpAny_bind (wpAny_pure ?_)
    refine fin (rawInt 0) s s.heap.objs.size rfl ho (fun _ _ e => e) (Nat.le_refl _) rfl fun h' eh => ?_
    subst eh
    refine ⟨(pickOrder (w.params.setOrder a ep) es).toList.map (·.2), [s.heap.objs.size, a], _, ?_, fun A' hA => walk_text hA (Nat.ne_of_lt lta) ht hd fit, ⟨Heap.get?_push_size _ rfl, Heap.get?_push_of_some _ ho⟩, ?_, vals_set hf (pick_perm _ _)⟩
    · intro b hb
      rcases List.mem_cons.mp hb with rfl | hb
      · exact .inr (Nat.le_refl _)
      · exact .inl (List.mem_singleton.mp hb)
    · rw [List.length_map, (pick_perm _ _).length_eq, Array.length_toList, len]
  · have ht : w.params.followText "set-order" = false := Bool.eq_false_iff.mpr ht
    rw [ht] at gd ⊢
    by_cases hdr : (!t.plain && decide (es.size > 1)) = true
    · rw [hdr, if_pos (by decide)]
      refine wpAny_bind (draw_order es.size (List.range es.size) s (List.length_range) fun ord d hp => ?_)
      have ol : ord.length = es.size := by rw [hp.length_eq, List.length_range]
      refine wpAny_bind (wpAny_newTuple ?_ (by rw [List.length_map]; omega))
      refine fin (.ref s.heap.objs.size) _ (s.heap.objs.size + 1) (by simp [Heap.size_push]) (Heap.get?_push_of_some _ ho) (fun b o e => Heap.get?_push_of_some _ e) (by omega) rfl fun h' eh => ?_
      subst eh
      have hpe : (ord.map fun j => es.getD j (0, .none)).Perm es.toList := by
        have e : es.toList = (List.range es.size).map fun j => es.getD j (0, .none) := by
          refine List.ext_getElem? fun i => ?_
          rw [Array.getElem?_toList, List.getElem?_map]
          by_cases hi : i < es.size
          · rw [Array.getElem?_eq_getElem hi, List.getElem?_range hi]
            simp [Array.getD, hi]
          · rw [Array.getElem?_eq_none (by omega), List.getElem?_eq_none (by rw [List.length_range]; omega)]
            rfl
        rw [e]
        exact hp.map _
      have v := vals_set hf hpe
      rw [List.map_map] at v
      refine ⟨ord.map fun j => (es.getD j (0, .none)).2, [s.heap.objs.size + 1, a, s.heap.objs.size], _, ?_, fun A' hA => walk_drawn (it := s.heap.objs.size + 1) (T := s.heap.objs.size) hA (Nat.ne_of_lt (Nat.lt_succ_of_lt lta)) (Nat.ne_of_lt (Nat.lt_succ_self _)) hp hd fit, ⟨?_, Heap.get?_push_of_some _ (Heap.get?_push_of_some _ ho), Heap.get?_push_of_some _ (Heap.get?_push_size _ rfl)⟩, ?_, v⟩
      · intro b hb
        rcases List.mem_cons.mp hb with rfl | hb
        · exact .inr (by omega)
        · rcases List.mem_cons.mp hb with rfl | hb
          · exact .inl rfl
          · rw [List.mem_singleton.mp hb]
            exact .inr (Nat.le_refl _)
      · have := Heap.get?_push_size (h := s.heap.push (plO ord)) (o := sitO (.ref s.heap.objs.size) 0 a es.size ep) rfl
        rw [Heap.size_push] at this
        exact this
      · rw [List.length_map, ol, len]
    · have hdr := Bool.eq_false_iff.mpr hdr
      rw [hdr, if_neg (by simp)]
      refine wpAny_bind (wpAny_pure ?_)
      refine fin (rawInt 0) s s.heap.objs.size rfl ho (fun _ _ e => e) (Nat.le_refl _) rfl fun h' eh => ?_
      subst eh
      refine ⟨es.toList.map (·.2), [s.heap.objs.size, a], _, ?_, fun A' hA => walk_place hA (Nat.ne_of_lt lta) ht hd fit gd hdr, ⟨Nat.zero_le _, Heap.get?_push_size _ rfl, Heap.get?_push_of_some _ ho⟩, ?_, vals_set hf (List.Perm.refl _)⟩
      · intro b hb
        rcases List.mem_cons.mp hb with rfl | hb
        · exact .inr (Nat.le_refl _)
        · exact .inl (List.mem_singleton.mp hb)
      · rw [List.length_map, Array.length_toList, len]
theorem wp_ite_pos {α : Type} {M : Model} {c : Bool} {X Y : Sem α} {Q : α → Shared → Prop} (h : c = true) (q : wpAny M A X Q E s) : wpAny M A (if c = true then X else Y) Q E s := by
  rw [if_pos h]; exact q
theorem hint_set {Q : Bool → Shared → Prop} (ty : s.TypeIs (.ref a) "set") (q : Q false s) : wpAny (model prog w) A (Builtin.List.listLengthHint (.ref a)) Q E s := by
  have k1 : typeLookup (.type "set") (Str.ofString "__len__") = pure (some (.builtin "set.__len__")) := by kernel_rfl
  have k2 : splitId "set.__len__" = some ("set", "__len__") := by kernel_rfl
  have k3 : isSubtype (.type "set") (.type "set") = pure true := PySem.F.called_set.sub
  unfold Builtin.List.listLengthHint
  refine wpAny_bind (wpAny_specialOf ty k1 ?_)
  dsimp only
  rw [k2]
  refine wpAny_bind (wpAny_isInstance ty k3 ?_)
  rw [if_neg (by decide)]
  refine wp_ite_pos (by kernel_rfl) (wpAny_bind (wpAny_typeOf ty ?_))
  exact wpAny_pure q
theorem ne_list : (Value.type "set" == Value.type "list") = false := by decide
theorem ne_tup : (Value.type "set" == Value.type "tuple") = false := by decide
theorem extend_set {S : Addr} {res : Value} {c₀ : Nat} {R : Result → Shared → Prop} (G : SetG prog w s.heap a ks) (hh : A.handled = none) (hb : ks.length ≤ sizeLine) (hS : S ≠ a) (eS : s.heap.get? S = some { cls := .type "list", data := .seq #[] c₀ })
    (q : ∀ (g : Heap) (tk : Nat) (d : Drawn) (xs : Array Value) (c : Nat), (∀ b o, b ≠ S → s.heap.get? b = some o → g.get? b = some o) → g.get? S = some { cls := .type "list", data := .seq xs c } → (∃ ks', ks'.Perm ks ∧ Paired (IsK prog w) xs.toList ks') → R (.ok (.ret res)) { s with heap := g, toks := tk, drawn := d }) :
    wpAny (model prog w) A.in1 (Builtin.List.listExtendWith (.ref S) (.ref a) res) (fun fin s' => match fin with
      | .done f => R (.ok f) s'
      | .again c' => c'.quiet = true ∧ codeAny (model prog w) A c' R s') (fun e s' => R (.error e) s') s := by
  have ty : s.TypeIs (.ref a) "set" := by
    obtain ⟨o, es, ep, t, ho, hex, _⟩ := G
    exact ⟨o, ho, hex.1⟩
  unfold Builtin.List.listExtendWith
  refine wpAny_bind (wpAny_typeOf ty ?_)
  have sm : Builtin.List.listSameRef (.ref S) (.ref a) = false := by
    unfold Builtin.List.listSameRef
    simpa using hS
  rw [sm, ne_list, ne_tup, if_neg (by decide)]
  refine wpAny_bind (iter_set G hb fun it h1 d vs fp St le kp hf W st len pk => ?_)
  refine wpAny_bind (wpAny_holding (hint_set (s := { s with heap := h1, drawn := d }) ?_ ?_))
  · obtain ⟨o, e, c⟩ := ty
    exact ⟨o, kp _ _ e, c⟩
  have lS : S < s.heap.objs.size := Heap.lt_size eS
  have nS : S ∉ fp := fun hm => by
    rcases hf S hm with z | z
    · exact hS z
    · exact absurd lS (Nat.not_lt.mpr z)
  have hA : A.in1.handled = none := by simpa using hh
  have loop : ∀ (s2 : Shared) (c : Nat), St 0 s2.heap → s2.heap.get? S = some { cls := .type "list", data := .seq #[] c } → (∀ b o, b ≠ S → h1.get? b = some o → s2.heap.get? b = some o) → s2 = { s with heap := s2.heap, drawn := d } →
      codeAny (model prog w) A (.builtin "list.extend.loop" ⟨[.ref S, .ref it, res], []⟩) R s2 := by
    intro s2 c st2 e2 k2 es2
    refine codeAny_extend_loopS (W A.in1 hA).toS hb S nS res ks.length 0 s2 #[] c (by omega) (Nat.zero_le _) st2 e2 (ItemsOf.nil _) fun s' xs c' mv eS' hx => ?_
    have ex : s' = { s with heap := s'.heap, toks := s'.toks, drawn := d } := by
      have h1 := mv.gens
      have h2 := mv.drawn
      have h3 := mv.os
      rw [es2] at h1 h2 h3
      obtain ⟨a1, a2, a3, a4, a5⟩ := s'
      simp only at h1 h2 h3
      subst h1 h2 h3
      rfl
    have vx : xs.toList = vs := by
      refine List.ext_getElem? fun j => ?_
      obtain ⟨sz, at_⟩ := hx
      rw [Array.getElem?_toList]
      by_cases hj : j < xs.size
      · have := at_ j xs[j] (Array.getElem?_eq_getElem hj)
        rw [Array.getElem?_eq_getElem hj, this]
      · rw [Array.getElem?_eq_none (by omega), List.getElem?_eq_none (by omega)]
    rw [ex]
    refine q s'.heap s'.toks d xs c' (fun b o nb e => mv.heap b o ?_ (k2 b o nb (kp b o e))) eS' (by rw [vx]; exact pk)
    intro hm
    rcases List.mem_cons.mp hm with z | z
    · exact nb z
    · have := List.mem_singleton.mp z
      have l2 : b < s.heap.objs.size := Heap.lt_size e
      rw [this] at l2
      exact absurd l2 (Nat.not_lt.mpr le)
  refine wp_ite_pos (by kernel_rfl) (wpAny_bind (wpAny_rule ?_))
  unfold Builtin.List.listTouch
  have u1 := get?_update_seq (c := "list") (kp _ _ eS) (fun x => x.push Value.none)
  have u2 := get?_update_seq (c := "list") u1 (fun x => x.pop)
  refine wpAny_bind (wpAny_bind (listUpdate_at (kp _ _ eS) rfl (listUpdate_at u1 rfl ?_ (by simp [sizeLine_eq]) (by simp)) (by simp) (by simp [sizeLine_eq])))
  obtain ⟨c2, u3⟩ : ∃ c2, ((h1.update S (Obj.mapSeq fun x => x.push Value.none)).update S (Obj.mapSeq fun x => x.pop)).get? S = some { cls := .type "list", data := .seq #[] c2 } := ⟨_, u2⟩
  have k2 : ∀ b o, b ≠ S → h1.get? b = some o → ((h1.update S (Obj.mapSeq fun x => x.push Value.none)).update S (Obj.mapSeq fun x => x.pop)).get? b = some o := fun b o nb e => by
    rw [Heap.get?_update_ne _ _ _ _ nb, Heap.get?_update_ne _ _ _ _ nb]
    exact e
  refine wpAny_pure ⟨plainId_quiet PySem.F.plain_extend_loop _, loop _ c2 ((W A.in1 hA).frame 0 _ _ st fun b hb o e => k2 b o (fun z => nS (by rw [← z]; exact hb)) e) u3 k2 rfl⟩
def ColSet (P : Program) (w : World) (s : Shared) (ks : List Key) (q : Result) (s' : Shared) : Prop :=
  ∃ (g : Heap) (tk c : Nat) (d : Drawn) (xs : Array Value), q = .ok (.ret (.ref s.heap.objs.size)) ∧ s' = { s with heap := g, toks := tk, drawn := d } ∧ (∀ b o, s.heap.get? b = some o → g.get? b = some o) ∧ g.get? s.heap.objs.size = some { cls := .type "list", dict := none, data := .seq xs c, slots := #[] } ∧ (∃ ks', ks'.Perm ks ∧ Paired (IsK P w) xs.toList ks')
theorem collect_set {R : List Value → Shared → Prop} (G : SetG prog w s.heap a ks) (hh : A.handled = none) (hb : ks.length ≤ sizeLine)
    (h : ∀ (g : Heap) (tk : Nat) (d : Drawn) (xs : Array Value), (∀ b o, s.heap.get? b = some o → g.get? b = some o) → s.heap.objs.size < g.objs.size → (∃ ks', ks'.Perm ks ∧ Paired (IsK prog w) xs.toList ks') → R xs.toList { s with heap := g, toks := tk, drawn := d }) : wpAny (model prog w) A (collect (.ref a)) R E s := by
  have lt1 : a < s.heap.objs.size := by
    obtain ⟨o, es, ep, t, ho, _⟩ := G
    exact Heap.lt_size ho
  unfold collect
  refine wpAny_bind (wpAny_runValue (codeAny_builtin entry_proto_collect' ?_)); rw [Around.under_plainId PySem.F.plain_proto_collect _]
  refine wpAny_bind (m := newList []) (wpAny_newObj_type (wpAny_pure ⟨plainId_quiet PySem.F.plain_list_iadd _, codeAny_builtin entry_list_iadd' ?_⟩)); rw [Around.under_plainId PySem.F.plain_list_iadd _]
  have own : (s.heap.push { cls := .type "list", data := .seq ([] : List Value).toArray }).get? s.heap.objs.size = some { cls := .type "list", data := .seq #[] } := Heap.get?_push_size _ rfl
  have run := extend_set (A := A) (s := { s with heap := s.heap.push { cls := .type "list", data := .seq ([] : List Value).toArray } }) (R := ColSet prog w s ks) (setG_keep G fun o e => Heap.get?_push_of_some _ e) hh hb (Nat.ne_of_gt lt1) (res := .ref s.heap.objs.size) own
    (fun g tk d xs c hk hS hx => ⟨g, tk, c, d, xs, rfl, rfl, fun b o e => hk b o (Nat.ne_of_lt (Heap.lt_size e)) (Heap.get?_push_of_some _ e), hS, hx⟩)
  refine wpAny_mono run (fun fin s' y => ?_) (fun _ _ y => by obtain ⟨_, _, _, _, _, e, _⟩ := y; cases e)
  cases fin with
  | done f =>
    obtain ⟨g, tk, c, d, xs, e, rfl, hk, hS, hx⟩ := y
    cases e
    exact wpAny_bind (m := load s.heap.objs.size) (wpAny_load hS (wpAny_pure (h g tk d xs hk (Heap.lt_size hS) hx)))
  | again c1 =>
    refine ⟨y.1, codeAny_mono y.2 fun q s2 z => ?_⟩
    obtain ⟨g, tk, c, d, xs, rfl, rfl, hk, hS, hx⟩ := z
    exact wpAny_bind (m := load s.heap.objs.size) (wpAny_load hS (wpAny_pure (h g tk d xs hk (Heap.lt_size hS) hx)))
end
end L2

namespace L2
open PySem PySem.Spec PyProof.Rows
theorem Inv.drawnAs {X : Cx} {pins : List (Addr × Obj)} {σ : St} {H : Hp} {s : Shared} (I : Inv X pins σ H s) (d : Drawn) : Inv X pins σ H { s with drawn := d } :=
  I.call (h' := s.heap) (g' := s.gens) (t' := s.toks) (d' := d) (ch := []) Un.refl I.hok I.bare (fun _ z => nomatch z)
theorem paired_strs {P : Program} {w : World} : ∀ {vs : List Value} {ks : List Key}, Paired (IsK P w) vs ks → (∀ k ∈ ks, ∃ z, k = Sum.inr z) → ∃ zs : List Str, ks = zs.map Sum.inr ∧ StrsAre vs zs
  | _, _, .nil, _ => ⟨[], rfl, .nil⟩
  | _, _, .cons f r, h => by
    obtain ⟨z, rfl⟩ := h _ (.head _)
    obtain ⟨zs, rfl, q⟩ := paired_strs r fun k hk => h k (.tail _ hk)
    obtain ⟨t, rfl⟩ := kV_rel f
    exact ⟨z :: zs, rfl, .cons z t q⟩
theorem paired_ints {P : Program} {w : World} : ∀ {vs : List Value} {ks : List Key}, Paired (IsK P w) vs ks → (∀ k ∈ ks, ∃ z, k = Sum.inl z) → ∃ ns : List Int, ks = ns.map Sum.inl ∧ IntsAre vs ns
  | _, _, .nil, _ => ⟨[], rfl, .nil⟩
  | _, _, .cons f r, h => by
    obtain ⟨z, rfl⟩ := h _ (.head _)
    obtain ⟨ns, rfl, q⟩ := paired_ints r fun k hk => h k (.tail _ hk)
    obtain ⟨t, rfl⟩ := kV_rel f
    exact ⟨z :: ns, rfl, .cons z t q⟩
theorem perm_inr {xs ys : List Str} (h : (xs.map (Sum.inr : Str → Key)).Perm (ys.map Sum.inr)) : xs.Perm ys := by
  have := h.filterMap Sum.getRight?
  rw [List.filterMap_map, List.filterMap_map] at this
  simpa [Function.comp_def] using this
theorem perm_inl {xs ys : List Int} (h : (xs.map (Sum.inl : Int → Key)).Perm (ys.map Sum.inl)) : xs.Perm ys := by
  have := h.filterMap Sum.getLeft?
  rw [List.filterMap_map, List.filterMap_map] at this
  simpa [Function.comp_def] using this
section
variable {X : Cx}
/-- sorted(s) of a set of texts -/
def rSortSS (P : Program) (w : World) : List V → Hp → VK → Prop := fun xs H Q => ∃ (d : Addr) (zs : List Str), xs = [.ref d] ∧ H d = some (keySet P w d (zs.map Sum.inr)) ∧ zs.length < 64 ∧ ∀ p, H p = none → Q (.ref p) (upd H p (.lst ((srtS zs).map V.str)))
theorem call_sortSS (hc : X.calm = true) : CallR X (.builtin "sorted") (rSortSS X.prog X.w) := by
  intro pins s σ H xs us Q I rx h
  obtain ⟨d, zs, rfl, hd, h64, q⟩ := h
  obtain ⟨u, rfl, ru⟩ := vals1 rx
  cases ru
  have G : SetG X.prog X.w s.heap d (zs.map Sum.inr) := (I.hok d _ hd).1
  have hh : X.A.in1.handled = none := by simpa using I.ok.hd hc
  refine Calls.call_function_entry kind_sorted plain_sorted entry_sorted (args_sorted1 _) ?_
  unfold Builtin.«sorted»
  refine wpAny_bind (m := checkCount "sorted" 1 1 _) (wpAny_pure ?_)
  refine wpAny_bind (collect_set (A := X.A.in1) G hh (small_le (by rw [List.length_map]; omega)) fun g tk dr acc hk hsz hacc => ?_)
  obtain ⟨ks', pk, pr⟩ := hacc
  obtain ⟨zs', rfl, hS⟩ := paired_strs pr fun k hk => by
    obtain ⟨z, _, rfl⟩ := List.mem_map.mp (pk.mem_iff.mp hk)
    exact ⟨z, rfl⟩
  have pz := perm_inr pk
  have al : acc.toList.length = zs.length := by
    have e1 := Paired.length pr
    rw [List.length_map] at e1
    rw [e1, pz.length_eq]
  refine wpAny_bind (wpAny_newList ?_ (by exact small_le (by omega)))
  have hoL : (g.push (seqObj "list" acc.toList.toArray 0)).get? g.objs.size = some (seqObj "list" acc.toList.toArray 0) := Heap.get?_push_size _ rfl
  refine wpAny_bind (wpAny_holding (wpAny_call_entry slot_list_sort ⟨_, hoL, rfl⟩ entry_list_sort (list_sort_treeK strKind_oneLt hoL hS.keysOf (fun v1 v2 rest e => keyKind_strs (by rw [← e]; exact hS)) (by omega) fun st' b1 b2 => ⟨_, rfl, ?_⟩) (args_list_sort _)))
  refine wpAny_pure ⟨_, rfl, ?_⟩
  obtain ⟨ss, a1, a2, a3⟩ := sorted_out_str hS b1 b2
  have ess := srtS_of (a2.trans pz) a3
  subst ess
  obtain ⟨e2, he2⟩ := sortedHeap_at (vs := acc.toList) (out := (arrOf st').map (·.2)) hoL
  have hz : s.heap.objs.size ≤ g.objs.size := Nat.le_of_lt hsz
  refine ⟨.ref g.objs.size, _, (I.drawnAs dr).laid (t' := tk) (o := .lst ((srtS zs).map V.str)) (fun b o e => ?_) hz ?_, rfl, q _ (I.hok.fresh hz)⟩
  · have e' := hk b o e
    have hlt := Heap.lt_size e'
    rw [sortedHeap_old (Nat.ne_of_lt hlt) (by rw [size_push']; exact Nat.lt_succ_of_lt hlt)]
    exact Heap.get?_push_of_some _ e'
  · refine ⟨?_, ((arrOf st').map (·.2)).toList, e2, vals_strs a1, by rw [Array.toArray_toList]; exact he2⟩
    rw [List.length_map, (srtS_perm zs).length_eq]
    exact small_le (by omega)
/-- sorted(s) of a set of ints -/
def rSortSI (P : Program) (w : World) : List V → Hp → VK → Prop := fun xs H Q => ∃ (d : Addr) (ns : List Int), xs = [.ref d] ∧ H d = some (keySet P w d (ns.map Sum.inl)) ∧ ns.length < 64 ∧ ∀ p, H p = none → Q (.ref p) (upd H p (.lst ((srtI ns).map V.int)))
theorem call_sortSI (hc : X.calm = true) : CallR X (.builtin "sorted") (rSortSI X.prog X.w) := by
  intro pins s σ H xs us Q I rx h
  obtain ⟨d, ns, rfl, hd, h64, q⟩ := h
  obtain ⟨u, rfl, ru⟩ := vals1 rx
  cases ru
  have G : SetG X.prog X.w s.heap d (ns.map Sum.inl) := (I.hok d _ hd).1
  have hh : X.A.in1.handled = none := by simpa using I.ok.hd hc
  refine Calls.call_function_entry kind_sorted plain_sorted entry_sorted (args_sorted1 _) ?_
  unfold Builtin.«sorted»
  refine wpAny_bind (m := checkCount "sorted" 1 1 _) (wpAny_pure ?_)
  refine wpAny_bind (collect_set (A := X.A.in1) G hh (small_le (by rw [List.length_map]; omega)) fun g tk dr acc hk hsz hacc => ?_)
  obtain ⟨ks', pk, pr⟩ := hacc
  obtain ⟨ns', rfl, hS⟩ := paired_ints pr fun k hk => by
    obtain ⟨z, _, rfl⟩ := List.mem_map.mp (pk.mem_iff.mp hk)
    exact ⟨z, rfl⟩
  have pz := perm_inl pk
  have al : acc.toList.length = ns.length := by
    have e1 := Paired.length pr
    rw [List.length_map] at e1
    rw [e1, pz.length_eq]
  refine wpAny_bind (wpAny_newList ?_ (by exact small_le (by omega)))
  have hoL : (g.push (seqObj "list" acc.toList.toArray 0)).get? g.objs.size = some (seqObj "list" acc.toList.toArray 0) := Heap.get?_push_size _ rfl
  refine wpAny_bind (wpAny_holding (wpAny_call_entry slot_list_sort ⟨_, hoL, rfl⟩ entry_list_sort (list_sort_tree hoL hS (by omega) fun out ms a1 a2 a3 => ⟨_, rfl, ?_⟩) (args_list_sort _)))
  refine wpAny_pure ⟨_, rfl, ?_⟩
  have ess := srtI_of (a2.trans pz) a3
  subst ess
  obtain ⟨e2, he2⟩ := sortedHeap_at (vs := acc.toList) (out := out) hoL
  have hz : s.heap.objs.size ≤ g.objs.size := Nat.le_of_lt hsz
  refine ⟨.ref g.objs.size, _, (I.drawnAs dr).laid (t' := tk) (o := .lst ((srtI ns).map V.int)) (fun b o e => ?_) hz ?_, rfl, q _ (I.hok.fresh hz)⟩
  · have e' := hk b o e
    have hlt := Heap.lt_size e'
    rw [sortedHeap_old (Nat.ne_of_lt hlt) (by rw [size_push']; exact Nat.lt_succ_of_lt hlt)]
    exact Heap.get?_push_of_some _ e'
  · refine ⟨?_, out.toList, e2, vals_ints a1, by rw [Array.toArray_toList]; exact he2⟩
    rw [List.length_map, (srtI_perm ns).length_eq]
    exact small_le (by omega)
end
/-! ### the distinct ones of a list -/
def uniS (zs : List Str) : List Str := (ddK [] (zs.map Sum.inr)).filterMap Sum.getRight?
def uniI (ns : List Int) : List Int := (ddK [] (ns.map Sum.inl)).filterMap Sum.getLeft?
theorem ddK_inr (zs : List Str) : ddK [] (zs.map Sum.inr) = (uniS zs).map Sum.inr := by
  have h : ∀ k ∈ ddK [] (zs.map (Sum.inr : Str → Key)), ∃ z, k = Sum.inr z := fun k hk => by
    rcases (ddK_mem _ _ _).mp hk with q | q
    · exact nomatch q
    · obtain ⟨z, _, rfl⟩ := List.mem_map.mp q
      exact ⟨z, rfl⟩
  unfold uniS
  generalize ddK [] (zs.map (Sum.inr : Str → Key)) = l at h ⊢
  induction l with
  | nil => rfl
  | cons k l ih =>
    obtain ⟨z, rfl⟩ := h k (.head _)
    rw [List.filterMap_cons]
    show Sum.inr z :: l = Sum.inr z :: _
    rw [← ih fun k hk => h k (.tail _ hk)]
theorem ddK_inl (ns : List Int) : ddK [] (ns.map Sum.inl) = (uniI ns).map Sum.inl := by
  have h : ∀ k ∈ ddK [] (ns.map (Sum.inl : Int → Key)), ∃ z, k = Sum.inl z := fun k hk => by
    rcases (ddK_mem _ _ _).mp hk with q | q
    · exact nomatch q
    · obtain ⟨z, _, rfl⟩ := List.mem_map.mp q
      exact ⟨z, rfl⟩
  unfold uniI
  generalize ddK [] (ns.map (Sum.inl : Int → Key)) = l at h ⊢
  induction l with
  | nil => rfl
  | cons k l ih =>
    obtain ⟨z, rfl⟩ := h k (.head _)
    rw [List.filterMap_cons]
    show Sum.inl z :: l = Sum.inl z :: _
    rw [← ih fun k hk => h k (.tail _ hk)]
theorem uniS_mem {zs : List Str} {z : Str} : z ∈ uniS zs ↔ z ∈ zs := by
  have h := ddK_mem (zs.map Sum.inr) [] (Sum.inr z : Key)
  rw [ddK_inr, List.mem_map, List.mem_map] at h
  constructor
  · intro q
    rcases h.mp ⟨z, q, rfl⟩ with e | ⟨y, hy, e⟩
    · exact nomatch e
    · cases e; exact hy
  · intro q
    obtain ⟨y, hy, e⟩ := h.mpr (.inr ⟨z, q, rfl⟩)
    cases e; exact hy
theorem uniI_mem {ns : List Int} {z : Int} : z ∈ uniI ns ↔ z ∈ ns := by
  have h := ddK_mem (ns.map Sum.inl) [] (Sum.inl z : Key)
  rw [ddK_inl, List.mem_map, List.mem_map] at h
  constructor
  · intro q
    rcases h.mp ⟨z, q, rfl⟩ with e | ⟨y, hy, e⟩
    · exact nomatch e
    · cases e; exact hy
  · intro q
    obtain ⟨y, hy, e⟩ := h.mpr (.inr ⟨z, q, rfl⟩)
    cases e; exact hy
theorem uniS_nd (zs : List Str) : (uniS zs).Nodup := by
  have h := ddK_nd (zs.map (Sum.inr : Str → Key)) [] List.nodup_nil
  rw [ddK_inr] at h
  exact List.Pairwise.of_map Sum.inr (fun a b hab e => hab (by rw [e])) h
theorem uniI_nd (ns : List Int) : (uniI ns).Nodup := by
  have h := ddK_nd (ns.map (Sum.inl : Int → Key)) [] List.nodup_nil
  rw [ddK_inl] at h
  exact List.Pairwise.of_map Sum.inl (fun a b hab e => hab (by rw [e])) h
theorem uniS_len (zs : List Str) : (uniS zs).length ≤ zs.length := by
  have h := ddK_len (zs.map (Sum.inr : Str → Key)) []
  rw [ddK_inr, List.length_map, List.length_map, List.length_nil] at h
  omega
theorem uniI_len (ns : List Int) : (uniI ns).length ≤ ns.length := by
  have h := ddK_len (ns.map (Sum.inl : Int → Key)) []
  rw [ddK_inl, List.length_map, List.length_map, List.length_nil] at h
  omega
section
variable {X : Cx}
theorem call_setT (hc : X.calm = true) : CallR X (.type "set") (fun xs H Q => ∃ (p : Addr) (zs : List Str), xs = [.ref p] ∧ SqL X.K H p (zs.map V.str) ∧ zs.length < 4000 ∧ ∀ a, H a = none → Q (.ref a) (upd H a (keySet X.prog X.w a ((uniS zs).map Sum.inr)))) := by
  intro pins s σ H xs us Q I r h
  obtain ⟨p, zs, rfl, hq, hz, q⟩ := h
  refine call_setK hc pins s σ H _ us Q I r ⟨p, zs.map Sum.inr, rfl, ?_, by rw [List.length_map]; exact hz, fun a na => ?_⟩
  · rw [List.map_map]; exact hq
  · rw [ddK_inr]; exact q a na
theorem call_setN (hc : X.calm = true) : CallR X (.type "set") (fun xs H Q => ∃ (p : Addr) (ns : List Int), xs = [.ref p] ∧ SqL X.K H p (ns.map V.int) ∧ ns.length < 4000 ∧ ∀ a, H a = none → Q (.ref a) (upd H a (keySet X.prog X.w a ((uniI ns).map Sum.inl)))) := by
  intro pins s σ H xs us Q I r h
  obtain ⟨p, ns, rfl, hq, hz, q⟩ := h
  refine call_setK hc pins s σ H _ us Q I r ⟨p, ns.map Sum.inl, rfl, ?_, by rw [List.length_map]; exact hz, fun a na => ?_⟩
  · rw [List.map_map]; exact hq
  · rw [ddK_inl]; exact q a na
end
end L2

namespace L2
open PySem PySem.Spec PyProof.Rows
section
variable {X : Cx} {pins : List (Addr × Obj)} {σ : St} {H : Hp} {s : Shared}
/-- d.values(), the dict frozen or not -/
def rViewR (w : Addr → Addr → HO) : V → List V → Hp → VK → Prop := fun x vs H Q => ∃ d kvs, x = .ref d ∧ vs = [] ∧ Rd H d (.dK kvs) ∧ ∀ a, H a = none → Q (.ref a) (upd H a (w a d))
def tVals (to : TE) : TE := fun σ H Q => to σ H fun x H1 => ∃ d kvs, x = .ref d ∧ Rd H1 d (.dK kvs) ∧ ∀ a, H1 a = none → Q (.ref a) (upd H1 a (vView a d))
/-! ### the values of a dict, walked -/
def Itv (d : Addr) (kvs : List (Key × V)) (o : Obj) : It := ⟨fun i H => i < kvs.length ∧ H d = some (.frz o (.dK kvs)), fun i H x H' => H' = H ∧ ∃ p, kvs[i]? = some p ∧ x = p.2, fun i H => kvs.length ≤ i ∧ H d = some (.frz o (.dK kvs))⟩
def iVals (tl : TE) : TI := fun σ H R => tl σ H fun x H1 => ∃ (v d : Addr) (o : Obj) (kvs : List (Key × V)), x = .ref v ∧ H1 v = some (vView v d) ∧ H1 d = some (.frz o (.dK kvs)) ∧ R (Itv d kvs o) H1
/-- sorted(d.values()) -/
def rSortV : List V → Hp → VK → Prop := fun xs H Q => ∃ (v d : Addr) (kvs : List (Key × V)) (ns : List Int), xs = [.ref v] ∧ H v = some (vView v d) ∧ H d = some (.dK kvs) ∧ kvs.map (·.2) = ns.map V.int ∧ ns.length < 64 ∧ ∀ p, H p = none → Q (.ref p) (upd H p (.lst ((srtI ns).map V.int)))
end
end L2

namespace L2
open PySem PySem.Spec PyProof.Rows
/-! ### bunches of a merging -/
abbrev Bn := List Str × Int
def bnD (b : Bn) : PyData := .tuple [.tuple (b.1.map PyData.str), .int b.2]
def papD (bs : List Bn) : PyData := .list (bs.map bnD)
def lvls (room : Int) (ps qs : Ps) : List Int := srtI (uniI ((keysM ps qs).map fun z => min (sumM ps qs z) (cutT room ps qs)))
def marksAt (ps qs : Ps) (v : Int) : List Str := (srtS (keysM ps qs)).filter fun z => decide (v ≤ sumM ps qs z)
def bunI (ps qs : Ps) (l : List Int) (i : Nat) : Bn := (marksAt ps qs (l.getD i 0), l.getD i 0 - (0 :: l).getD i 0)
def bunL (ps qs : Ps) (l : List Int) (n : Nat) : List Bn := (List.range n).map (bunI ps qs l)
def bunsT (a b : Ty) : List Bn := if cutT a.room a.cs b.cs = 0 then [] else bunL a.cs b.cs (lvls a.room a.cs b.cs) (lvls a.room a.cs b.cs).length
def BnW (b : Bn) : Prop := (∀ z ∈ b.1, z ∈ words) ∧ b.1.length ≤ 40
theorem layAll : ∀ {ds : List PyData} {n : Nat}, (∀ d ∈ ds, d.canLay0 = true ∧ d.depth ≤ n) → PyData.canLayAll0 ds = true ∧ PyData.depthAll ds ≤ n
  | [], n, _ => ⟨by simp [PyData.canLayAll0], by simp [PyData.depthAll]⟩
  | d :: ds, n, h => by
    obtain ⟨h1, h2⟩ := h d (.head _)
    obtain ⟨h3, h4⟩ := layAll (n := n) fun e he => h e (.tail _ he)
    refine ⟨by simp [PyData.canLayAll0, h1, h3], ?_⟩
    simp only [PyData.depthAll]
    omega
/-- bunches laid in the heap -/
inductive BnsAt (H : Hp) : List V → List Bn → Prop
  | nil : BnsAt H [] []
  | cons {a c : Addr} {xs : List V} {b : Bn} {bs : List Bn} (h : H a = some (.tup [.ref c, .int b.2])) (e : H c = some (.tup (b.1.map V.str))) (r : BnsAt H xs bs) : BnsAt H (.ref a :: xs) (b :: bs)
theorem BnsAt.mono {H H' : Hp} (g : Same H H') : ∀ {xs : List V} {bs : List Bn}, BnsAt H xs bs → BnsAt H' xs bs
  | _, _, .nil => .nil
  | _, _, .cons h e r => .cons (g _ _ h) (g _ _ e) (r.mono g)
theorem BnsAt.append {H : Hp} : ∀ {xs ys : List V} {bs cs : List Bn}, BnsAt H xs bs → BnsAt H ys cs → BnsAt H (xs ++ ys) (bs ++ cs)
  | _, _, _, _, .nil, s => s
  | _, _, _, _, .cons h e r, s => .cons h e (r.append s)
theorem BnsAt.length {H : Hp} : ∀ {xs : List V} {bs : List Bn}, BnsAt H xs bs → xs.length = bs.length
  | _, _, .nil => rfl
  | _, _, .cons _ _ r => congrArg (· + 1) r.length
theorem strs_dvs {H : Hp} : ∀ zs : List Str, DVs H (zs.map V.str) (zs.map PyData.str)
  | [] => .nil
  | z :: zs => .cons (.str z) (strs_dvs zs)
theorem BnsAt.dvs {H : Hp} : ∀ {xs : List V} {bs : List Bn}, BnsAt H xs bs → DVs H xs (bs.map bnD)
  | _, _, .nil => .nil
  | _, _, .cons (b := b) h e r => .cons (.tup h (.cons (.tup e (strs_dvs b.1)) (.cons (.int _) .nil))) r.dvs
theorem BnsAt.get {H : Hp} : ∀ {xs : List V} {bs : List Bn}, BnsAt H xs bs → ∀ {i : Nat} {x : V}, xs[i]? = some x → ∃ (a c : Addr) (b : Bn), x = .ref a ∧ bs[i]? = some b ∧ H a = some (.tup [.ref c, .int b.2]) ∧ H c = some (.tup (b.1.map V.str))
  | _, _, .nil, i, x, hx => by simp at hx
  | _, _, .cons (a := a) (c := c) (b := b) h e r, 0, x, hx => by
    have : V.ref a = x := by simpa using hx
    subst this
    exact ⟨a, c, b, rfl, rfl, h, e⟩
  | _, _, .cons h e r, i + 1, x, hx => by
    obtain ⟨a, c, b, h1, h2, h3, h4⟩ := r.get (i := i) (x := x) (by simpa using hx)
    exact ⟨a, c, b, h1, by simpa using h2, h3, h4⟩
/-- a paper at p -/
def PapAt (H : Hp) (p : Addr) (bs : List Bn) : Prop := ∃ xs, H p = some (.lst xs) ∧ BnsAt H xs bs
theorem PapAt.mono {H H' : Hp} {p : Addr} {bs : List Bn} (h : PapAt H p bs) (g : Same H H') : PapAt H' p bs := by
  obtain ⟨xs, e, r⟩ := h
  exact ⟨xs, g _ _ e, r.mono g⟩
theorem PapAt.dv {H : Hp} {p : Addr} {bs : List Bn} (h : PapAt H p bs) : DV H (.ref p) (papD bs) := by
  obtain ⟨xs, e, r⟩ := h
  exact .lst e r.dvs
end L2

namespace L2
open PySem PySem.Spec PyProof.Rows
section
variable {prog : Program} {w : World} {A : Around} {E : Value → Shared → Prop} {s : Shared}
/-- set(t) of a tuple of ints and texts -/
theorem init_keysT {l : Addr} {its : List Value} {ks : List Key} {R : Value → Shared → Prop} (hh : A.handled = none) (hl : s.heap.IsTuple l its.toArray) (hv : Vals (ks.map kV) its) (hb : its.length + 1 < scanBound)
    (h : ∀ (h' : Heap) (tk : Nat), SetG prog w h' s.heap.objs.size (ddK [] ks) → (∀ b o, b < s.heap.objs.size → s.heap.get? b = some o → h'.get? b = some o) → R .none { s with heap := h', toks := tk }) :
    codeAny (model prog w) A (.call (.builtin "set.__init__") ⟨[.ref s.heap.objs.size, .ref l], []⟩) (wants R E) { s with heap := s.heap.push (bareSetG w) } := by
  have own : (s.heap.push (bareSetG w)).get? s.heap.objs.size = some (bareSetG w) := Heap.get?_push_size _ rfl
  have ty : Shared.TypeIs { s with heap := s.heap.push (bareSetG w) } (.ref s.heap.objs.size) "set" := ⟨_, own, rfl⟩
  refine codeAny_call_builtin PySem.F.called_set.init.plain PySem.F.entry_set_init (check_set_init_1 ty ?_)
  obtain ⟨⟨c0, d0, dt0, sl0⟩, ho, hc, nl, hd⟩ := hl
  simp only at hc hd
  subst hc hd
  have ho1 : (s.heap.push (bareSetG w)).get? l = some { cls := .type "tuple", dict := d0, data := .seq its.toArray nl, slots := sl0 } := Heap.get?_push_of_some _ ho
  have hl1 : (s.heap.push (bareSetG w)).IsTuple l its.toArray := ⟨_, ho1, rfl, nl, rfl⟩
  have f1 := PySem.F.sub_tuple_set
  have f2 := PySem.F.sub_tuple_frozenset
  have f3 : (Value.type "tuple" == Value.type "dict") = false := by decide
  unfold Builtin.«set.__init__» noKeywords Builtin.Frozenset.updateFrom
  generalize hP : pyIter = PI
  wp_walk
  subst hP
  refine wpAny_pyIter_tuple hl1 (wpAny_bind (wpAny_runValue ?_))
  have lt0 : l < s.heap.objs.size := Heap.lt_size ho
  have hz : ks.length = its.length := by
    have := hv.length
    rw [List.length_map] at this
    exact this
  have ne0 : l ≠ (s.heap.push (bareSetG w)).objs.size := by rw [Heap.size_push]; exact Nat.ne_of_lt (Nat.lt_succ_of_lt lt0)
  have nin : s.heap.objs.size ∉ [(s.heap.push (bareSetG w)).objs.size, l] := by
    rw [Heap.size_push]
    simp only [List.mem_cons, List.not_mem_nil, or_false, not_or]
    exact ⟨Nat.ne_of_lt (Nat.lt_succ_self _), Nat.ne_of_gt lt0⟩
  have hh3 : A.in1.in1.handled = none := by simp [hh]
  refine upd_loopK (Walks.tuple hh3 _ l ne0 its.toArray) s.heap.objs.size nin ks (by rw [List.size_toArray]; exact hz) (fun i v e => ?_) (by rw [List.size_toArray]; exact hb) (its.toArray.size - 0) 0 _ (by omega) (Nat.zero_le _) ?st ?_ ?_
  case st => exact ⟨⟨_, Heap.get?_push_size _ rfl, rfl, rfl⟩, hl1.push _⟩
  · have e' : its[i]? = some v := by simpa using e
    have hi : i < ks.length := by
      rw [hz]
      exact (List.getElem?_eq_some_iff.mp e').1
    obtain ⟨u, hu, ru⟩ := hv.get (i := i) (x := kV ks[i]) (by rw [List.getElem?_map, List.getElem?_eq_getElem hi]; rfl)
    rw [e'] at hu
    cases hu
    exact ⟨ks[i], List.getElem?_eq_getElem hi, kV_is2 ru⟩
  · have g2 : ((s.heap.push (bareSetG w)).push { cls := .type "tuple_iterator", data := .fields #[.ref l, .int 0 0] }).get? s.heap.objs.size = some (bareSetG w) := Heap.get?_push_of_some _ own
    exact setG_bare g2
  · intro h' tk kp so
    refine wpAny_pure (wpAny_pure (h h' tk so fun b o hb2 e => kp b o ?_ (Heap.get?_push_of_some _ (Heap.get?_push_of_some _ e))))
    simp only [List.mem_cons, List.not_mem_nil, or_false, not_or]
    exact ⟨Nat.ne_of_lt hb2, by rw [Heap.size_push]; exact Nat.ne_of_lt (Nat.lt_succ_of_lt hb2)⟩
theorem call_set_keysT {l : Addr} {its : List Value} {ks : List Key} {Q : Value → Shared → Prop} (hh : A.handled = none) (hl : s.heap.IsTuple l its.toArray) (hv : Vals (ks.map kV) its) (hb : its.length + 1 < scanBound)
    (h : ∀ (h' : Heap) (tk : Nat), SetG prog w h' s.heap.objs.size (ddK [] ks) → (∀ b o, b < s.heap.objs.size → s.heap.get? b = some o → h'.get? b = some o) → Q (.ref s.heap.objs.size) { s with heap := h', toks := tk }) :
    wpAny (model prog w) A (call (.type "set") [.ref l]) Q E s := by
  obtain ⟨c, tl, hmro⟩ := PySem.F.called_set.mro
  have k1 := PySem.F.called_set.made
  have k2 := PySem.F.called_set.sub
  have k3 := PySem.F.called_set.notType
  have k4 := PySem.F.called_set.canCreate
  have k5 := PySem.F.typeCall_set_1 (.ref l)
  refine wpAny_call (codeAny_of_tree ?_)
  show wpAny _ _ (callAny (.type "set") _) _ _ _
  refine wpAny_pure ⟨Code.quiet_builtin _ (by decide +kernel), codeAny_builtin PySem.F.entry_type_call ?_⟩
  rw [Around.under_plain (weight_type_call_type "set" [.ref l] []) rfl]
  repeat (any_goals (first | assumption | wp_step))
  refine codeAny_mono (code_set_newG (.ref l) (E := E) (Q₁ := fun obj s1 => obj = .ref s.heap.objs.size ∧ s1 = { s with heap := s.heap.push (bareSetG w) }) ⟨rfl, rfl⟩) fun r s1 hr => ?_
  cases r with
  | error e => exact hr
  | ok fl =>
    cases fl with
    | ret obj =>
      obtain ⟨rfl, rfl⟩ := hr
      have own : (s.heap.push (bareSetG w)).get? s.heap.objs.size = some (bareSetG w) := Heap.get?_push_size _ rfl
      have ty : Shared.TypeIs { s with heap := s.heap.push (bareSetG w) } (.ref s.heap.objs.size) "set" := ⟨_, own, rfl⟩
      have k6 := PySem.F.called_set.init.lookup
      have k7 := PySem.F.called_set.init.bind (.ref s.heap.objs.size)
      repeat (any_goals (first | assumption | wp_step))
      refine codeAny_mono (init_keysT (R := fun r s2 => r = .none ∧ ∃ h' tk, s2 = { s with heap := h', toks := tk } ∧ SetG prog w h' s.heap.objs.size (ddK [] ks) ∧ (∀ b o, b < s.heap.objs.size → s.heap.get? b = some o → h'.get? b = some o)) (E := E) (by simp [hh]) hl hv hb fun h' tk so kp => ⟨rfl, h', tk, rfl, so, kp⟩) fun r2 s2 hr2 => ?_
      cases r2 with
      | error e => exact hr2
      | ok fl2 =>
        cases fl2 with
        | ret r =>
          obtain ⟨rfl, h', tk, rfl, so, kp⟩ := hr2
          repeat (any_goals (first | assumption | wp_step))
          exact h _ _ so kp
        | _ => exact hr2.elim
    | _ => exact hr.elim
end
theorem vals_of_get : ∀ {xs : List V} {us : List Value}, xs.length = us.length → (∀ (i : Nat) x u, xs[i]? = some x → us[i]? = some u → RelV x u) → Vals xs us
  | [], [], _, _ => .nil
  | x :: xs, u :: us, h, f => .cons (f 0 x u rfl rfl) (vals_of_get (by simpa using h) fun i y v hy hv => f (i + 1) y v (by simpa using hy) (by simpa using hv))
  | [], _ :: _, h, _ => by simp at h
  | _ :: _, [], h, _ => by simp at h
/-- a range object from 0 on -/
def rngO (a : Addr) (n : Int) : HO := .ext fun h => ∃ t u v, IsRange h a 0 n 1 t u v
section
variable {X : Cx}
theorem call_setKT (hc : X.calm = true) : CallR X (.type "set") (fun xs H Q => ∃ (p : Addr) (ks : List Key), xs = [.ref p] ∧ SqT X.K H p (ks.map kV) ∧ ks.length < 4000 ∧ ∀ a, H a = none → Q (.ref a) (upd H a (keySet X.prog X.w a (ddK [] ks)))) := by
  intro pins s σ H xs us Q I r h
  obtain ⟨p, ks, rfl, hq, hz, q⟩ := h
  obtain ⟨u, rfl, ru⟩ := vals1 r
  cases ru
  obtain ⟨its, rv, pl, _⟩ := I.tuple hq
  have hl := rv.length
  rw [List.length_map] at hl
  refine call_set_keysT (I.ok.hd hc) pl rv (by unfold scanBound; omega) fun h' tk so kp => ?_
  refine ⟨.ref s.heap.objs.size, _, I.laid (t' := tk) (fun b o e => kp b o (Heap.lt_size e) e) (Nat.le_refl _) (show ObjOk X.prog X.w _ h' _ (keySet X.prog X.w s.heap.objs.size (ddK [] ks)) from ?_), rfl, q _ (I.hok.fresh (Nat.le_refl _))⟩
  refine ⟨so, ?_, fun h1 h2 a k => ?_⟩
  · obtain ⟨o, _, _, _, ho, _⟩ := so
    exact ⟨o, ho⟩
  · exact setG_keep a k
theorem call_setNT (hc : X.calm = true) : CallR X (.type "set") (fun xs H Q => ∃ (p : Addr) (ns : List Int), xs = [.ref p] ∧ SqT X.K H p (ns.map V.int) ∧ ns.length < 4000 ∧ ∀ a, H a = none → Q (.ref a) (upd H a (keySet X.prog X.w a ((uniI ns).map Sum.inl)))) := by
  intro pins s σ H xs us Q I r h
  obtain ⟨p, ns, rfl, hq, hz, q⟩ := h
  refine call_setKT hc pins s σ H _ us Q I r ⟨p, ns.map Sum.inl, rfl, ?_, by rw [List.length_map]; exact hz, fun a na => ?_⟩
  · rw [List.map_map]; exact hq
  · rw [ddK_inl]; exact q a na
/-- range(n), kept as a thing -/
theorem call_rng : CallR X (.type "range") (fun xs H Q => ∃ n : Int, xs = [.int n] ∧ ∀ a, H a = none → Q (.ref a) (upd H a (rngO a n))) := by
  intro pins s σ H xs us Q I r h
  obtain ⟨n, rfl, q⟩ := h
  obtain ⟨u, rfl, ru⟩ := vals1 r
  obtain ⟨t, rfl⟩ := ru
  refine call_range_1 ⟨.ref s.heap.objs.size, _, I.laid (t' := s.toks + 1 + 1) (fun b o e => Heap.get?_push_of_some _ e) (Nat.le_refl _) (show ObjOk X.prog X.w _ _ _ (rngO s.heap.objs.size n) from ?_), rfl, q _ (I.hok.fresh (Nat.le_refl _))⟩
  refine ⟨⟨_, _, _, Heap.get?_push_size _ rfl⟩, ⟨_, Heap.get?_push_size _ rfl⟩, ?_⟩
  rintro h1 h2 ⟨t, u, v, e1⟩ k
  exact ⟨t, u, v, k _ e1⟩
theorem call_listR (hc : X.calm = true) : CallR X (.type "list") (fun xs H Q => ∃ (p : Addr) (n : Nat), xs = [.ref p] ∧ H p = some (rngO p n) ∧ n ≤ 1000 ∧ ∀ l, H l = none → Q (.ref l) (upd H l (.lst ((List.range n).map fun i : Nat => V.int (i : Int))))) := by
  intro pins s σ H xs us Q I r h
  obtain ⟨p, n, rfl, hq, hn, q⟩ := h
  obtain ⟨u, rfl, ru⟩ := vals1 r
  cases ru
  have hob : ObjOk X.prog X.w H s.heap p (rngO p n) := I.hok p _ hq
  obtain ⟨⟨t, u, v, hr⟩, _, _⟩ := hob
  refine call_list_range (n := n) (I.ok.hd hc) hr (small_one (by omega) (by omega) (by omega) (by omega)) (by rw [rangeSize_nat]; omega) (by omega) fun h' tk acc' c' kp e hacc => ?_
  have hv : Vals ((List.range n).map fun i : Nat => V.int (i : Int)) acc'.toList := by
    refine vals_of_get (by rw [List.length_map, List.length_range, Array.length_toList, hacc.1]) fun i x u hx hu => ?_
    rw [List.getElem?_map] at hx
    have hi : i < n := by
      have := (List.getElem?_eq_some_iff.mp hu).1
      rw [Array.length_toList, hacc.1] at this
      exact this
    rw [List.getElem?_range hi] at hx
    cases hx
    obtain ⟨t, rfl⟩ := hacc.2 i u (by simpa using hu)
    exact ⟨t, by rw [Int.zero_add, Int.mul_one]⟩
  refine ⟨.ref s.heap.objs.size, _, I.laid (t' := tk) kp (Nat.le_refl _) (show ObjOk X.prog X.w _ h' _ (.lst _) from ⟨?_, acc'.toList, c', hv, by simpa using e⟩), rfl, q _ (I.hok.fresh (Nat.le_refl _))⟩
  rw [List.length_map, List.length_range]
  exact small_le (by omega)
/-- t + u of two tracked tuples, whichever is empty -/
def rCatG : R2 := fun x y H Q => ∃ a b xs ys, x = .ref a ∧ y = .ref b ∧ H a = some (.tup xs) ∧ H b = some (.tup ys) ∧ xs.length + ys.length ≤ 1000000 ∧ ∀ (c : Addr) (H' : Hp), Same H H' → H' c = some (.tup (xs ++ ys)) → Q (.ref c) H'
theorem op_catG : OpR X (binaryOp .Add) rCatG := by
  intro pins s σ H x y v u Q I rx ry h
  obtain ⟨a, b, xs, ys, rfl, rfl, ha, hb, hz, q⟩ := h
  by_cases hx : xs = []
  · subst hx
    cases rx
    cases ry
    obtain ⟨its, r1, p1, _⟩ := I.tuple (SqT.of ha)
    obtain ⟨its2, r2, p2, _⟩ := I.tuple (SqT.of hb)
    obtain ⟨⟨cls, dd, data, sl⟩, ho, hc, n, hd⟩ := id p1
    obtain ⟨⟨cls2, dd2, data2, sl2⟩, ho2, hc2, n2, hd2⟩ := id p2
    simp only at hc hd hc2 hd2
    subst hc hd hc2 hd2
    have e0 : its = [] := r1.nil_iff.mpr rfl
    exact concat_meets ⟨_, ho, rfl⟩ ⟨_, ho2, rfl⟩ noFill_tuple_add seq_tuple_add PySem.F.slot_tuple_add PySem.F.entry_tuple_add (PySem.F.args_tuple_add_2 _ _)
      (tuple_addW0 a b its.toArray its2.toArray n n2 dd dd2 sl sl2 (by rw [e0]; rfl)) ⟨ho, ho2, .ref b, H, I, rfl, q b H (Same.refl _) hb⟩
  · refine op_catT pins s σ H _ _ v u Q I rx ry ⟨a, b, xs, ys, rfl, rfl, SqT.of ha, SqT.of hb, hx, small_le hz, fun e => ?_, fun _ p np => q p _ (same_laid np _) upd_same⟩
    refine q a H (Same.refl _) ?_
    rw [e, List.append_nil]
    exact ha
/-- x is True, x is not False, of a truth -/
theorem op_isT : OpR X (compareOp .Is) (fun x y H Q => ∃ k : Bool, x = .bl k ∧ y = .bl true ∧ Q (.bl k) H) := by
  intro pins s σ H x y v u Q I rx ry h
  obtain ⟨k, rfl, rfl, q⟩ := h
  cases rx
  cases ry
  exact wpAny_is_plain (by cases k <;> rfl) (fin_bl I q (by cases k <;> rfl))
end
end L2

namespace L2
open PySem PySem.Spec PyProof.Rows
/-- tuples of plain values, laid one by one -/
inductive TpsAt (H : Hp) : List V → List (List V) → Prop
  | nil : TpsAt H [] []
  | cons {a : Addr} {xs row : List V} {rows : List (List V)} (h : H a = some (.tup row)) (r : TpsAt H xs rows) : TpsAt H (.ref a :: xs) (row :: rows)
theorem TpsAt.mono {H H' : Hp} (g : Same H H') : ∀ {xs : List V} {bs : List (List V)}, TpsAt H xs bs → TpsAt H' xs bs
  | _, _, .nil => .nil
  | _, _, .cons h r => .cons (g _ _ h) (r.mono g)
theorem TpsAt.append {H : Hp} : ∀ {xs ys : List V} {bs cs : List (List V)}, TpsAt H xs bs → TpsAt H ys cs → TpsAt H (xs ++ ys) (bs ++ cs)
  | _, _, _, _, .nil, s => s
  | _, _, _, _, .cons h r, s => .cons h (r.append s)
theorem TpsAt.length {H : Hp} : ∀ {xs : List V} {bs : List (List V)}, TpsAt H xs bs → xs.length = bs.length
  | _, _, .nil => rfl
  | _, _, .cons _ r => congrArg (· + 1) r.length
theorem TpsAt.get {H : Hp} : ∀ {xs : List V} {bs : List (List V)}, TpsAt H xs bs → ∀ {i : Nat} {x : V}, xs[i]? = some x → ∃ (a : Addr) (b : List V), x = .ref a ∧ bs[i]? = some b ∧ H a = some (.tup b)
  | _, _, .nil, i, x, hx => by simp at hx
  | _, _, .cons (a := a) (row := b) h r, 0, x, hx => by
    have : V.ref a = x := by simpa using hx
    subst this
    exact ⟨a, b, rfl, rfl, h⟩
  | _, _, .cons h r, i + 1, x, hx => by
    obtain ⟨a, b, h1, h2, h3⟩ := r.get (i := i) (x := x) (by simpa using hx)
    exact ⟨a, b, h1, by simpa using h2, h3⟩
theorem TpsAt.getM {α : Type} {H : Hp} {xs : List V} {ks : List α} {f : α → List V} (h : TpsAt H xs (ks.map f)) {i : Nat} {x : V} (hx : xs[i]? = some x) : ∃ (a : Addr) (k : α), x = .ref a ∧ ks[i]? = some k ∧ k ∈ ks ∧ H a = some (.tup (f k)) := by
  obtain ⟨a, b, h1, h2, h3⟩ := h.get hx
  rw [List.getElem?_map] at h2
  obtain ⟨k, hk, rfl⟩ := Option.map_eq_some_iff.mp h2
  exact ⟨a, k, h1, hk, List.mem_of_getElem? hk, h3⟩
theorem TpsAt.dvs {α : Type} {H : Hp} {f : α → List V} {g : α → List PyData} (hg : ∀ k, DVs H (f k) (g k)) : ∀ {ks : List α} {xs : List V}, TpsAt H xs (ks.map f) → DVs H xs (ks.map fun k => .tuple (g k))
  | [], xs, h => by cases h; exact .nil
  | k :: ks, xs, h => by
    rw [List.map_cons] at h
    cases h with
    | cons h r => exact .cons (.tup h (hg k)) (TpsAt.dvs hg r)
theorem PenAt.tps {H : Hp} {a : Addr} (h : PenAt H a) : ∀ {xs : List V} {rows : List (List V)}, TpsAt H xs rows → TpsAt (hide a H) xs rows
  | _, _, .nil => .nil
  | _, _, .cons e r => .cons (h.tup e) (h.tps r)
theorem TpsAt.unhide {H : Hp} {a : Addr} {xs : List V} {rows : List (List V)} (h : TpsAt (hide a H) xs rows) : TpsAt H xs rows := h.mono hide_sub
/-! ### comprehensions over such rows -/
section
variable {α : Type} {K : PySem.W.Frag} {a : Addr} {xs : List V} {ks : List α} {k : Nat} {g : TG} {tt : TT} {te : TE} {σ : St} {H : Hp} {Q : VK}
theorem filter_step (p : α → Bool) {i : Nat} {t : α} (ht : ks[i]? = some t) : (ks.take (i + 1)).filter p = (ks.take i).filter p ++ (if p t = true then [t] else []) := by
  rw [take_one ht, List.filter_append]
  congr 1
  by_cases c : p t = true
  · rw [if_pos c]; exact List.filter_cons_of_pos c
  · rw [if_neg c]; exact List.filter_cons_of_neg c
theorem comp_rT (p : α → Bool) (f : α → V) (vs : α → List V) (e : H a = some (.tup xs)) (pa : TpsAt H xs (ks.map vs)) (hl : ks.length ≤ 100000)
    (hs : ∀ (t : α) (c : Addr) (ys : List V) (C : List V → Hp → Prop), t ∈ ks → H c = some (.tup (vs t)) → (p t = true → C (ys ++ [f t]) H) → (p t = false → C ys H) → g (.ref c) (List.replicate k none ++ σ) H fun σ2 H2 => Wk σ2 (List.replicate k none ++ σ) ∧ tt σ2 H2 fun ok H3 =>
      if ok = true then te σ2 H3 fun y H4 => C (ys ++ [y]) H4 else C ys H3)
    (hd : ∀ q, H q = none → Q (.ref q) (upd H q (.lst ((ks.filter p).map f)))) : CompR (Itt K a) H k g tt te σ Q := by
  have xl := pa.length
  rw [List.length_map] at xl
  refine comp_tup (xs := xs) (fun i ys H' => H' = H ∧ ys = ((ks.take i).filter p).map f) ⟨rfl, rfl⟩ (fun i ys H' _ h => by rw [h.1]; exact SqT.of e) ?_ ?_
  · rintro i x ys _ C hx ⟨rfl, rfl⟩ hC
    obtain ⟨c, t, rfl, ht, hm, ec⟩ := pa.getM hx
    have hle := List.length_filter_le p (ks.take i)
    have hle2 : (ks.take i).length ≤ ks.length := by rw [List.length_take]; omega
    refine ⟨small_lt (by rw [List.length_map]; omega), hs t c _ C hm ec (fun q => hC _ _ ⟨rfl, ?_⟩) (fun q => hC _ _ ⟨rfl, ?_⟩)⟩
    · rw [filter_step p ht, if_pos q, List.map_append]; rfl
    · rw [filter_step p ht, if_neg (by rw [q]; exact Bool.false_ne_true), List.append_nil]
  · rintro ys _ ⟨rfl, rfl⟩
    rw [xl, List.take_length]
    have hle := List.length_filter_le p ks
    exact ⟨small_le (by rw [List.length_map]; omega), hd⟩
theorem comp_rL (p : α → Bool) (f : α → V) (vs : α → List V) (e : H a = some (.lst xs)) (pa : TpsAt H xs (ks.map vs)) (hl : ks.length ≤ 100000)
    (hs : ∀ (t : α) (c : Addr) (ys : List V) (C : List V → Hp → Prop), t ∈ ks → H c = some (.tup (vs t)) → (p t = true → C (ys ++ [f t]) H) → (p t = false → C ys H) → g (.ref c) (List.replicate k none ++ σ) H fun σ2 H2 => Wk σ2 (List.replicate k none ++ σ) ∧ tt σ2 H2 fun ok H3 =>
      if ok = true then te σ2 H3 fun y H4 => C (ys ++ [y]) H4 else C ys H3)
    (hd : ∀ q, H q = none → Q (.ref q) (upd H q (.lst ((ks.filter p).map f)))) : CompR (Itl K a) H k g tt te σ Q := by
  have xl := pa.length
  rw [List.length_map] at xl
  refine comp_list (xs := xs) (fun i ys H' => H' = H ∧ ys = ((ks.take i).filter p).map f) ⟨rfl, rfl⟩ (fun i ys H' _ h => by rw [h.1]; exact SqL.of e) ?_ ?_
  · rintro i x ys _ C hx ⟨rfl, rfl⟩ hC
    obtain ⟨c, t, rfl, ht, hm, ec⟩ := pa.getM hx
    have hle := List.length_filter_le p (ks.take i)
    have hle2 : (ks.take i).length ≤ ks.length := by rw [List.length_take]; omega
    refine ⟨small_lt (by rw [List.length_map]; omega), hs t c _ C hm ec (fun q => hC _ _ ⟨rfl, ?_⟩) (fun q => hC _ _ ⟨rfl, ?_⟩)⟩
    · rw [filter_step p ht, if_pos q, List.map_append]; rfl
    · rw [filter_step p ht, if_neg (by rw [q]; exact Bool.false_ne_true), List.append_nil]
  · rintro ys _ ⟨rfl, rfl⟩
    rw [xl, List.take_length]
    have hle := List.length_filter_le p ks
    exact ⟨small_le (by rw [List.length_map]; omega), hd⟩
/-- each element a new tuple of plain values -/
theorem comp_rTn (p : α → Bool) (f vs : α → List V) (e : H a = some (.tup xs)) (pa : TpsAt H xs (ks.map vs)) (hl : ks.length ≤ 100000)
    (hs : ∀ (t : α) (c : Addr) (ys : List V) (H1 : Hp) (C : List V → Hp → Prop), t ∈ ks → Same H H1 → H1 c = some (.tup (vs t)) → (p t = true → ∀ q, H1 q = none → C (ys ++ [.ref q]) (upd H1 q (.tup (f t)))) → (p t = false → C ys H1) →
      g (.ref c) (List.replicate k none ++ σ) H1 fun σ2 H2 => Wk σ2 (List.replicate k none ++ σ) ∧ tt σ2 H2 fun ok H3 => if ok = true then te σ2 H3 fun y H4 => C (ys ++ [y]) H4 else C ys H3)
    (hd : ∀ ys H', Same H H' → TpsAt H' ys ((ks.filter p).map f) → ∀ q, H' q = none → Q (.ref q) (upd H' q (.lst ys))) : CompR (Itt K a) H k g tt te σ Q := by
  have xl := pa.length
  rw [List.length_map] at xl
  refine comp_tup (xs := xs) (fun i ys H' => Same H H' ∧ TpsAt H' ys (((ks.take i).filter p).map f)) ⟨Same.refl _, .nil⟩ (fun i ys H' _ h => SqT.of (h.1 _ _ e)) ?_ ?_
  · rintro i x ys H1 C hx ⟨s1, t1⟩ hC
    obtain ⟨c, t, rfl, ht, hm, ec⟩ := pa.getM hx
    have yl := t1.length
    rw [List.length_map] at yl
    have hle := List.length_filter_le p (ks.take i)
    have hle2 : (ks.take i).length ≤ ks.length := by rw [List.length_take]; omega
    refine ⟨small_lt (by omega), hs t c ys H1 C hm s1 (s1 _ _ ec) (fun q r nr => hC _ _ ⟨s1.trans (same_laid nr _), ?_⟩) (fun q => hC _ _ ⟨s1, ?_⟩)⟩
    · rw [filter_step p ht, if_pos q, List.map_append]
      exact (t1.mono (same_laid nr _)).append (.cons upd_same .nil)
    · rw [filter_step p ht, if_neg (by rw [q]; exact Bool.false_ne_true), List.append_nil]
      exact t1
  · rintro ys H1 ⟨s1, t1⟩
    rw [xl, List.take_length] at t1
    have yl := t1.length
    rw [List.length_map] at yl
    have hle := List.length_filter_le p ks
    exact ⟨small_le (by omega), hd ys H1 s1 t1⟩
theorem comp_rLn (p : α → Bool) (f vs : α → List V) (e : H a = some (.lst xs)) (pa : TpsAt H xs (ks.map vs)) (hl : ks.length ≤ 100000)
    (hs : ∀ (t : α) (c : Addr) (ys : List V) (H1 : Hp) (C : List V → Hp → Prop), t ∈ ks → Same H H1 → H1 c = some (.tup (vs t)) → (p t = true → ∀ H2 q, Same H1 H2 → H2 q = some (.tup (f t)) → C (ys ++ [.ref q]) H2) → (p t = false → C ys H1) →
      g (.ref c) (List.replicate k none ++ σ) H1 fun σ2 H2 => Wk σ2 (List.replicate k none ++ σ) ∧ tt σ2 H2 fun ok H3 => if ok = true then te σ2 H3 fun y H4 => C (ys ++ [y]) H4 else C ys H3)
    (hd : ∀ ys H', Same H H' → TpsAt H' ys ((ks.filter p).map f) → ∀ q, H' q = none → Q (.ref q) (upd H' q (.lst ys))) : CompR (Itl K a) H k g tt te σ Q := by
  have xl := pa.length
  rw [List.length_map] at xl
  refine comp_list (xs := xs) (fun i ys H' => Same H H' ∧ TpsAt H' ys (((ks.take i).filter p).map f)) ⟨Same.refl _, .nil⟩ (fun i ys H' _ h => SqL.of (h.1 _ _ e)) ?_ ?_
  · rintro i x ys H1 C hx ⟨s1, t1⟩ hC
    obtain ⟨c, t, rfl, ht, hm, ec⟩ := pa.getM hx
    have yl := t1.length
    rw [List.length_map] at yl
    have hle := List.length_filter_le p (ks.take i)
    have hle2 : (ks.take i).length ≤ ks.length := by rw [List.length_take]; omega
    refine ⟨small_lt (by omega), hs t c ys H1 C hm s1 (s1 _ _ ec) (fun q H2 r s2 er => hC _ _ ⟨s1.trans s2, ?_⟩) (fun q => hC _ _ ⟨s1, ?_⟩)⟩
    · rw [filter_step p ht, if_pos q, List.map_append]
      exact (t1.mono s2).append (.cons er .nil)
    · rw [filter_step p ht, if_neg (by rw [q]; exact Bool.false_ne_true), List.append_nil]
      exact t1
  · rintro ys H1 ⟨s1, t1⟩
    rw [xl, List.take_length] at t1
    have yl := t1.length
    rw [List.length_map] at yl
    have hle := List.length_filter_le p ks
    exact ⟨small_le (by omega), hd ys H1 s1 t1⟩
end
/-! ### nets and cells -/
structure Kn where
  mark : Str
  row : Int
  col : Int
def Kn.vs (k : Kn) : List V := [.str k.mark, .int k.row, .int k.col]
def Kn.D (k : Kn) : PyData := .tuple [.str k.mark, .int k.row, .int k.col]
def NetAt (H : Hp) (a : Addr) (ks : List Kn) : Prop := ∃ xs, H a = some (.tup xs) ∧ TpsAt H xs (ks.map Kn.vs)
theorem NetAt.mono {H H' : Hp} {a : Addr} {ks : List Kn} (h : NetAt H a ks) (g : Same H H') : NetAt H' a ks := by
  obtain ⟨xs, e, r⟩ := h
  exact ⟨xs, g _ _ e, r.mono g⟩
theorem PenAt.net {H : Hp} {p a : Addr} {ks : List Kn} (h : PenAt H p) (n : NetAt H a ks) : NetAt (hide p H) a ks := by
  obtain ⟨xs, e, r⟩ := n
  exact ⟨xs, h.tup e, h.tps r⟩
theorem NetAt.dv {H : Hp} {a : Addr} {ks : List Kn} (h : NetAt H a ks) : DV H (.ref a) (.tuple (ks.map Kn.D)) := by
  obtain ⟨xs, e, r⟩ := h
  exact .tup e (r.dvs (g := fun k : Kn => [PyData.str k.mark, .int k.row, .int k.col]) fun k => .cons (.str _) (.cons (.int _) (.cons (.int _) .nil)))
/-- of one to eight small letters -/
structure Mrk (z : Str) : Prop where
  lo : 1 ≤ z.cps.size
  hi : z.cps.size ≤ 8
  ab : ∀ c ∈ z.cps.toList, 97 ≤ c ∧ c ≤ 122
theorem Mrk.ok {z : Str} (h : Mrk z) : PyData.strOk z = true := strOk_of fun c hc => by
  have := (h.ab c hc).2
  omega
structure NetOk (ks : List Kn) : Prop where
  mw : ∀ k ∈ ks, Mrk k.mark
  row : ∀ k ∈ ks, 0 ≤ k.row ∧ k.row ≤ 30
  col : ∀ k ∈ ks, 0 ≤ k.col ∧ k.col ≤ 30
  len : ks.length ≤ 60
  nd : (ks.map Kn.mark).Nodup
  rise : (ks.map Kn.mark).Pairwise (fun a b => leS a b = true)
theorem kn_lay {k : Kn} (h : PyData.strOk k.mark = true) : k.D.canLay0 = true ∧ k.D.depth ≤ 1 := by
  simp [Kn.D, PyData.canLay0, PyData.canLayAll0, PyData.depth, PyData.depthAll, h]
theorem net_lay {ks : List Kn} (h : ∀ k ∈ ks, PyData.strOk k.mark = true) : (PyData.tuple (ks.map Kn.D)).canLay0 = true ∧ (PyData.tuple (ks.map Kn.D)).depth ≤ 2 := by
  obtain ⟨a, b⟩ := layAll (ds := ks.map Kn.D) (n := 1) fun d hd => by
    obtain ⟨k, hk, rfl⟩ := List.mem_map.mp hd
    exact kn_lay (h k hk)
  simp only [PyData.canLay0, PyData.depth]
  exact ⟨a, by omega⟩
def CelAt (H : Hp) (c : Addr) (rs cs : List Int) : Prop := ∃ a b, H c = some (.tup [.ref a, .ref b]) ∧ H a = some (.tup (rs.map V.int)) ∧ H b = some (.tup (cs.map V.int))
theorem CelAt.mono {H H' : Hp} {c : Addr} {rs cs : List Int} (h : CelAt H c rs cs) (g : Same H H') : CelAt H' c rs cs := by
  obtain ⟨a, b, e, f, i⟩ := h
  exact ⟨a, b, g _ _ e, g _ _ f, g _ _ i⟩
theorem PenAt.cel {H : Hp} {p c : Addr} {rs cs : List Int} (h : PenAt H p) (n : CelAt H c rs cs) : CelAt (hide p H) c rs cs := by
  obtain ⟨a, b, e, f, i⟩ := n
  exact ⟨a, b, h.tup e, h.tup f, h.tup i⟩
def celD (rs cs : List Int) : PyData := .tuple [.tuple (rs.map PyData.int), .tuple (cs.map PyData.int)]
theorem CelAt.dv {H : Hp} {c : Addr} {rs cs : List Int} (h : CelAt H c rs cs) : DV H (.ref c) (celD rs cs) := by
  obtain ⟨a, b, e, f, i⟩ := h
  exact .tup e (.cons (.tup f (dvs_ints rs)) (.cons (.tup i (dvs_ints cs)) .nil))
theorem cel_lay (rs cs : List Int) : (celD rs cs).canLay0 = true ∧ (celD rs cs).depth ≤ 2 := by
  have h1 := lay_ints rs
  have h2 := lay_ints cs
  simp only [PyData.canLay0, PyData.depth] at h1 h2
  simp only [celD, PyData.canLay0, PyData.canLayAll0, PyData.depth, PyData.depthAll, h1.1, h2.1]
  exact ⟨rfl, by omega⟩
/-! ### rising lists -/
def Asc (ns : List Int) : Prop := ns.Pairwise (· < ·)
def uni (ns : List Int) : List Int := srtI (uniI ns)
theorem asc_uni (ns : List Int) : Asc (uni ns) := by
  have p := srtI_perm (uniI ns)
  have nd : (uni ns).Nodup := p.nodup_iff.mpr (uniI_nd ns)
  have pw : (uni ns).Pairwise (· ≤ ·) := srtI_pw _
  refine (pw.and nd).imp fun {a b} h => ?_
  have := h.2
  omega
theorem uni_mem {ns : List Int} {x : Int} : x ∈ uni ns ↔ x ∈ ns := by
  unfold uni
  rw [(srtI_perm _).mem_iff]
  exact uniI_mem
theorem uni_len (ns : List Int) : (uni ns).length ≤ ns.length := by
  unfold uni
  rw [(srtI_perm _).length_eq]
  exact uniI_len ns
theorem asc_eq : ∀ {a b : List Int}, Asc a → Asc b → (∀ x, x ∈ a ↔ x ∈ b) → a = b
  | [], [], _, _, _ => rfl
  | [], y :: b, _, _, h => nomatch (h y).mpr (.head _)
  | x :: a, [], _, _, h => nomatch (h x).mp (.head _)
  | x :: a, y :: b, ha, hb, h => by
    obtain ⟨ha1, ha2⟩ := List.pairwise_cons.mp ha
    obtain ⟨hb1, hb2⟩ := List.pairwise_cons.mp hb
    have e : x = y := by
      rcases List.mem_cons.mp ((h x).mp (.head _)) with e | m1
      · exact e
      rcases List.mem_cons.mp ((h y).mpr (.head _)) with e | m2
      · exact e.symm
      have := hb1 x m1
      have := ha1 y m2
      omega
    subst e
    congr 1
    refine asc_eq ha2 hb2 fun z => ⟨fun m => ?_, fun m => ?_⟩
    · rcases List.mem_cons.mp ((h z).mp (.tail _ m)) with e | m1
      · subst e
        have := ha1 _ m
        omega
      · exact m1
    · rcases List.mem_cons.mp ((h z).mpr (.tail _ m)) with e | m1
      · subst e
        have := hb1 _ m
        omega
      · exact m1
theorem inV_ints (x : Int) (ns : List Int) : inV (.int x) (ns.map V.int) = decide (x ∈ ns) := by
  unfold inV
  induction ns with
  | nil => rfl
  | cons n ns ih =>
    rw [List.map_cons, List.any_cons, ih]
    show (eqV (.int n) (.int x) || _) = _
    by_cases e : n = x
    · subst e
      have : eqV (.int n) (.int n) = true := by simp [eqV]
      rw [this]
      simp
    · have : eqV (.int n) (.int x) = false := by simp [eqV, e]
      rw [this, Bool.false_or]
      congr 1
      apply propext
      constructor
      · exact fun m => .tail _ m
      · intro m
        rcases List.mem_cons.mp m with q | q
        · exact absurd q.symm e
        · exact q
theorem flat_ints (ns : List Int) : (ns.map V.int).all flatV = true := by
  induction ns with
  | nil => rfl
  | cons n ns ih => rw [List.map_cons, List.all_cons, ih]; rfl
theorem op_in_seqK (K : PySem.W.Frag) {X : Cx} (h : X.K = K) : OpR X (compareOp .In) (rIn K false) := h ▸ op_in_seq
theorem op_notIn_seqK (K : PySem.W.Frag) {X : Cx} (h : X.K = K) : OpR X (compareOp .NotIn) (rIn K true) := h ▸ op_notIn_seq
end L2

namespace L2
open PySem PySem.Spec PyProof.Rows PySem.Builtin PySem.Builtin.Str
/-- of small letters -/
def Ltr (z : Str) : Prop := ∀ c ∈ z.cps.toList, 97 ≤ c ∧ c ≤ 122
def abc : Str := "abcdefghijklmnopqrstuvwxyz"
theorem abc_ltr : ∀ c ∈ abc.cps.toList, 97 ≤ c ∧ c ≤ 122 := by decide +kernel
theorem abc_len : abc.cps.toList.length = 26 := by decide +kernel
theorem abc_at {i : Int} (h0 : 0 ≤ i) (h1 : i < 26) : ∃ c, atI abc.cps.toList i = some c ∧ 97 ≤ c ∧ c ≤ 122 := by
  obtain ⟨c, e, m⟩ := atI_in (xs := abc.cps.toList) h0 (by rw [abc_len]; exact h1)
  exact ⟨c, e, abc_ltr c m⟩
theorem Ltr.app {z y : Str} (h : Ltr z) (g : Ltr y) : Ltr (z ++ y) := fun c hc => by
  have e : (z ++ y).cps = z.cps ++ y.cps := rfl
  rw [e, Array.toList_append, List.mem_append] at hc
  exact hc.elim (h c) (g c)
theorem Ltr.one {c : Nat} (h : 97 ≤ c ∧ c ≤ 122) : Ltr ⟨#[c]⟩ := fun d hd => by
  have : d = c := by simpa using hd
  rw [this]; exact h
theorem Ltr.slice {z : Str} (h : Ltr z) (l u : Option Int) : Ltr (Txt.slice z l u) := fun c hc => by
  unfold Txt.slice at hc
  split at hc
  · exact h c hc
  · obtain ⟨i, _, hi⟩ := List.mem_filterMap.mp hc
    exact h c (Array.mem_def.mp (Array.mem_of_getElem? hi))
theorem Ltr.ok {z : Str} (h : Ltr z) : PyData.strOk z = true := strOk_of fun c hc => by
  have := (h c hc).2
  omega
theorem idx_le {i j : Int} {n : Nat} (h0 : 0 ≤ i) (h1 : i ≤ j) : (strSliceIndices (some i) (some j) 1 n).length ≤ (j - i).toNat := by
  unfold strSliceIndices sliceRange
  have a1 : ¬ i < 0 := by omega
  have a2 : ¬ j < 0 := by omega
  simp only [show (1 : Int) > 0 by decide, if_true, List.length_map, List.length_range, a1, a2, if_false, Int.ediv_one]
  split <;> omega
theorem slice_size {z : Str} {i j : Int} (h0 : 0 ≤ i) (h1 : i ≤ j) : (Txt.slice z (some i) (some j)).cps.size ≤ (j - i).toNat := by
  have q := idx_le (n := z.length) h0 h1
  unfold Txt.slice
  split
  · rename_i c
    have c2 : (strSliceIndices (some i) (some j) 1 z.length).length = z.length := by simpa using c
    have : z.length = z.cps.size := rfl
    omega
  · show (List.filterMap _ (strSliceIndices (some i) (some j) 1 z.length)).toArray.size ≤ _
    rw [List.size_toArray]
    exact Nat.le_trans (List.length_filterMap_le _ _) q
theorem slice_to {z : Str} {j : Int} (h0 : 0 ≤ j) (h1 : j ≤ (z.cps.size : Int)) : (Txt.slice z none (some j)).cps.size = j.toNat := by
  have q := (fact_slice_ns z j).1 h0 h1
  have e : (Txt.slice z none (some j)).length = (Txt.slice z none (some j)).cps.size := rfl
  omega
theorem app_size (z y : Str) : (z ++ y).cps.size = z.cps.size + y.cps.size := by
  show (z.cps ++ y.cps).size = _
  exact Array.size_append ..
theorem mrk_of {z : Str} (h : Ltr z) (h1 : 1 ≤ z.cps.size) (h8 : z.cps.size ≤ 8) : Mrk z := ⟨h1, h8, h⟩
theorem join_cs (cs : List Nat) : (Txt.join "" (cs.map fun c => (⟨#[c]⟩ : Str))).cps.toList = cs := by
  show (Builtin.Str.glued "" _).cps.toList = cs
  rw [StrLaws.glued_eq_join]
  induction cs with
  | nil => rfl
  | cons c cs ih =>
    cases cs with
    | nil => rfl
    | cons d cs =>
      have e : Str.join "" ((c :: d :: cs).map fun c => (⟨#[c]⟩ : Str)) = (⟨#[c]⟩ : Str) ++ "" ++ Str.join "" ((d :: cs).map fun c => (⟨#[c]⟩ : Str)) := rfl
      rw [e]
      show ((#[c] ++ (Str.ofString "").cps) ++ (Str.join "" ((d :: cs).map fun c => (⟨#[c]⟩ : Str))).cps).toList = _
      rw [Array.toList_append, ih]
      rfl
/-! ### a list of one's own that is filled beside a pen -/
theorem PenAt.put {H : Hp} {a l : Addr} {o : HO} (h : PenAt H a) (n : l ≠ a) : PenAt (upd H l o) a := by
  obtain ⟨p, q, r, e⟩ := h
  exact ⟨p, q, r, by rw [upd_ne (Ne.symm n)]; exact e⟩
theorem grw_none {H H' : Hp} {a l : Addr} (g : Grw a H H') (n : H' l = none) : hide a H l = none := by
  cases e : hide a H l with
  | none => rfl
  | some o =>
    have := (hide_some (g _ _ e)).2
    rw [n] at this
    cases this
theorem grw_put {H H' : Hp} {a l : Addr} {o : HO} (g : Grw a H H') (n : hide a H l = none) : Grw a H (upd H' l o) := fun b u e => by
  have hb : b ≠ l := fun q => by rw [q, n] at e; cases e
  have e2 := g b u e
  obtain ⟨h1, h2⟩ := hide_some e2
  rw [hide_ne h1, upd_ne hb]
  exact h2
theorem TpsAt.updL {H : Hp} {l : Addr} {ys : List V} {o : HO} (e : H l = some (.lst ys)) : ∀ {xs : List V} {rows : List (List V)}, TpsAt H xs rows → TpsAt (upd H l o) xs rows
  | _, _, .nil => .nil
  | _, _, .cons (a := a) h r => .cons (by
    have ne : a ≠ l := fun q => by rw [q, e] at h; cases h
    rw [upd_ne ne]; exact h) (r.updL e)
theorem NetAt.updL {H : Hp} {l n : Addr} {ys : List V} {o : HO} {ks : List Kn} (h : NetAt H n ks) (e : H l = some (.lst ys)) : NetAt (upd H l o) n ks := by
  obtain ⟨xs, en, tn⟩ := h
  have ne : n ≠ l := fun q => by rw [q, e] at en; cases en
  exact ⟨xs, by rw [upd_ne ne]; exact en, tn.updL e⟩
theorem hide_put {H : Hp} {a l : Addr} {o : HO} (n : l ≠ a) : hide a (upd H l o) l = some o := by rw [hide_ne n]; exact upd_same
theorem srtS_mrk {zs : List Str} (h : ∀ z ∈ zs, Mrk z) : (∀ z ∈ srtS (uniS zs), Mrk z) ∧ (srtS (uniS zs)).Nodup ∧ (srtS (uniS zs)).Pairwise (fun a b => leS a b = true) ∧ (srtS (uniS zs)).length ≤ zs.length := by
  have p := srtS_perm (uniS zs)
  refine ⟨fun z hz => h z (uniS_mem.mp (p.mem_iff.mp hz)), p.nodup_iff.mpr (uniS_nd zs), srtS_pw _, ?_⟩
  rw [p.length_eq]
  exact uniS_len zs
theorem step_name {i : Nat} {v : V} {σ : St} {H : Hp} {Q : St → Hp → Prop} (h : Q (σ.set i (some v)) H) : gName i v σ H Q := h
/-- a stream's things at r -/
def StAt (H : Hp) (r : Addr) (ts : List Th) : Prop := ∃ xs, H r = some (.lst xs) ∧ TpsAt H xs (ts.map Th.vs)
theorem StAt.mono {H H' : Hp} {r : Addr} {ts : List Th} (h : StAt H r ts) (g : Same H H') : StAt H' r ts := by
  obtain ⟨xs, e, t⟩ := h
  exact ⟨xs, g _ _ e, t.mono g⟩
theorem StAt.dv {H : Hp} {r : Addr} {ts : List Th} (h : StAt H r ts) : DV H (.ref r) (.list (ts.map Th.D)) := by
  obtain ⟨xs, e, t⟩ := h
  exact .lst e (t.dvs (g := fun t : Th => [PyData.int t.day, .str t.word, .int t.num, .int t.many]) fun k => .cons (.int _) (.cons (.str _) (.cons (.int _) (.cons (.int _) .nil))))
theorem StAt.unhide {H : Hp} {a r : Addr} {ts : List Th} (h : StAt (hide a H) r ts) : StAt H r ts := h.mono hide_sub
theorem NetAt.unhide {H : Hp} {a r : Addr} {ks : List Kn} (h : NetAt (hide a H) r ks) : NetAt H r ks := h.mono hide_sub
theorem CelAt.unhide {H : Hp} {a r : Addr} {rs cs : List Int} (h : CelAt (hide a H) r rs cs) : CelAt H r rs cs := h.mono hide_sub
theorem eqv_tup_nil (ds : List PyData) : PyData.eqv (.tuple ds) (.tuple []) = ds.isEmpty := by cases ds <;> rfl
/-- the cells that a stream meets -/
def metP (ts : List Th) (k : Kn) : Bool := decide (k.mark ∈ ts.map Th.word)
def metR (ks : List Kn) (ts : List Th) : List Int := uni ((ks.filter (metP ts)).map Kn.row)
def metC (ks : List Kn) (ts : List Th) : List Int := uni ((ks.filter (metP ts)).map Kn.col)
theorem met_len (f : Kn → Int) (ks : List Kn) (p : Kn → Bool) : (uni ((ks.filter p).map f)).length ≤ ks.length := by
  have h1 := uni_len ((ks.filter p).map f)
  rw [List.length_map] at h1
  have h2 := List.length_filter_le p ks
  omega
theorem metu_len (f : Kn → Int) (ks : List Kn) (p : Kn → Bool) : (uniI ((ks.filter p).map f)).length ≤ ks.length := by
  have h1 := uniI_len ((ks.filter p).map f)
  rw [List.length_map] at h1
  have h2 := List.length_filter_le p ks
  omega
theorem eqvAll_ints : ∀ a b : List Int, PyData.eqvAll (a.map .int) (b.map .int) = decide (a = b)
  | [], [] => rfl
  | [], _ :: _ => rfl
  | _ :: _, [] => rfl
  | x :: a, y :: b => by
    show (PyData.eqv (.int x) (.int y) && PyData.eqvAll (a.map .int) (b.map .int)) = _
    rw [eqvAll_ints a b]
    show ((x == y) && _) = _
    by_cases e : x = y
    · subst e
      by_cases e2 : a = b
      · subst e2; simp
      · simp [e2]
    · simp [e]
theorem cel_eqv (rs cs rs' cs' : List Int) : PyData.eqv (celD rs cs) (celD rs' cs') = (decide (rs = rs') && decide (cs = cs')) := by
  show (PyData.eqvAll (rs.map .int) (rs'.map .int) && (PyData.eqvAll (cs.map .int) (cs'.map .int) && true)) = _
  rw [eqvAll_ints, eqvAll_ints, Bool.and_true]
structure CelOk (rs cs : List Int) : Prop where
  r : Asc rs
  c : Asc cs
  rl : rs.length ≤ 62
  cl : cs.length ≤ 62
theorem Asc.sub {a b : List Int} (h : Asc b) (s : a.Sublist b) : Asc a := List.Pairwise.sublist s h
theorem pi_listK (K : PySem.W.Frag) {X : Cx} {tg l : Expr} {tl : TE} (h : X.K = K) (hl : PE X l tl) : PI X tg l (iList K tl) := h ▸ pi_list hl
theorem CelAt.updL {H : Hp} {l n : Addr} {ys : List V} {o : HO} {rs cs : List Int} (h : CelAt H n rs cs) (e : H l = some (.lst ys)) : CelAt (upd H l o) n rs cs := by
  obtain ⟨a, b, e1, e2, e3⟩ := h
  have f : ∀ {x : Addr} {zs : List V}, H x = some (.tup zs) → upd H l o x = some (.tup zs) := fun {x zs} q => by
    have ne : x ≠ l := fun z => by rw [z, e] at q; cases q
    rw [upd_ne ne]; exact q
  exact ⟨a, b, f e1, f e2, f e3⟩
/-- a pen of one's own, used and left: all else stays -/
theorem same_pen {H H1 H2 : Hp} {p : Addr} (s : Same H H1) (n : H p = none) (g : Grw p H1 H2) : Same H H2 := fun b o e => by
  have ne : b ≠ p := fun q => by rw [q, n] at e; cases e
  exact (hide_some (g b o (by rw [hide_ne ne]; exact s _ _ e))).2
inductive CelsAt (H : Hp) : List V → List (List Int × List Int) → Prop
  | nil : CelsAt H [] []
  | cons {a : Addr} {xs : List V} {c : List Int × List Int} {cs : List (List Int × List Int)} (h : CelAt H a c.1 c.2) (r : CelsAt H xs cs) : CelsAt H (.ref a :: xs) (c :: cs)
theorem CelsAt.mono {H H' : Hp} (g : Same H H') : ∀ {xs : List V} {cs : List (List Int × List Int)}, CelsAt H xs cs → CelsAt H' xs cs
  | _, _, .nil => .nil
  | _, _, .cons h r => .cons (h.mono g) (r.mono g)
theorem CelsAt.append {H : Hp} : ∀ {xs ys : List V} {bs cs : List (List Int × List Int)}, CelsAt H xs bs → CelsAt H ys cs → CelsAt H (xs ++ ys) (bs ++ cs)
  | _, _, _, _, .nil, s => s
  | _, _, _, _, .cons h r, s => .cons h (r.append s)
theorem CelsAt.length {H : Hp} : ∀ {xs : List V} {bs : List (List Int × List Int)}, CelsAt H xs bs → xs.length = bs.length
  | _, _, .nil => rfl
  | _, _, .cons _ r => congrArg (· + 1) r.length
theorem CelsAt.get {H : Hp} : ∀ {xs : List V} {bs : List (List Int × List Int)}, CelsAt H xs bs → ∀ {i : Nat} {x : V}, xs[i]? = some x → ∃ (a : Addr) (b : List Int × List Int), x = .ref a ∧ b ∈ bs ∧ CelAt H a b.1 b.2
  | _, _, .nil, i, x, hx => by simp at hx
  | _, _, .cons (a := a) (c := b) h r, 0, x, hx => by
    have : V.ref a = x := by simpa using hx
    subst this
    exact ⟨a, b, rfl, .head _, h⟩
  | _, _, .cons h r, i + 1, x, hx => by
    obtain ⟨a, b, h1, h2, h3⟩ := r.get (i := i) (x := x) (by simpa using hx)
    exact ⟨a, b, h1, .tail _ h2, h3⟩
theorem CelsAt.updL {H : Hp} {l : Addr} {ys : List V} {o : HO} (e : H l = some (.lst ys)) : ∀ {xs : List V} {cs : List (List Int × List Int)}, CelsAt H xs cs → CelsAt (upd H l o) xs cs
  | _, _, .nil => .nil
  | _, _, .cons h r => .cons (h.updL e) (r.updL e)
theorem CelsAt.atI {H : Hp} {xs : List V} {cs : List (List Int × List Int)} (h : CelsAt H xs cs) {i : Int} (h0 : 0 ≤ i) (h1 : i < cs.length) : ∃ (a : Addr) (b : List Int × List Int), L2.atI xs i = some (.ref a) ∧ b ∈ cs ∧ CelAt H a b.1 b.2 := by
  obtain ⟨v, hv, mv⟩ := atI_in (xs := xs) h0 (by rw [h.length]; exact h1)
  obtain ⟨j, hj⟩ := List.mem_iff_getElem?.mp mv
  obtain ⟨a, b, rfl, q1, q2⟩ := h.get hj
  exact ⟨a, b, hv, q1, q2⟩
end L2

namespace K37
open PySem L2

def top (i : Nat) : Stmt := PySem.Challenge.pw_sumshare_k37_open_marks.main.body.getD i (.Pass ⟨0, 0, 0, 0⟩)
abbrev s_put_together : Stmt := top 1
theorem sc_put_together : FnScope ["numbers"] ["numbers"] (defScope s_put_together) := ⟨rfl, rfl, rfl, by decide +kernel, rfl, by decide +kernel, by decide +kernel⟩
abbrev s_cells_by : Stmt := top 2
theorem sc_cells_by : FnScope ["places"] ["places"] (defScope s_cells_by) := ⟨rfl, rfl, rfl, by decide +kernel, rfl, by decide +kernel, by decide +kernel⟩
theorem nd_cells_by_5_25 : (["row", "column", "places"] : List Str).Nodup := by decide +kernel
theorem nd_cells_by_5_72 : (["row", "column", "places"] : List Str).Nodup := by decide +kernel
abbrev s_open_knots : Stmt := top 3
theorem sc_open_knots : FnScope ["net", "cells", "rows", "columns"] ["net", "cells"] (defScope s_open_knots) := ⟨rfl, rfl, rfl, by decide +kernel, rfl, by decide +kernel, by decide +kernel⟩
theorem nd_open_knots_8_11 : (["mark", "row", "column", "net", "cells", "rows", "columns"] : List Str).Nodup := by decide +kernel
abbrev s_open_marks : Stmt := top 4
theorem sc_open_marks : FnScope ["net", "cells"] ["net", "cells"] (defScope s_open_marks) := ⟨rfl, rfl, rfl, by decide +kernel, rfl, by decide +kernel, by decide +kernel⟩
theorem nd_open_marks_10_11 : (["mark", "row", "column", "net", "cells"] : List Str).Nodup := by decide +kernel
abbrev s_may_be : Stmt := top 5
theorem sc_may_be : FnScope ["net", "cells"] ["net", "cells"] (defScope s_may_be) := ⟨rfl, rfl, rfl, by decide +kernel, rfl, by decide +kernel, by decide +kernel⟩
theorem nd_may_be_12_20 : (["mark", "row", "column", "net", "cells"] : List Str).Nodup := by decide +kernel
abbrev s_l_pen : Stmt := top 7
theorem sc_l_pen : FnScope ["_law_script", "_law_k", "_law_cell"] ["_law_script", "_law_k"] (defScope s_l_pen) := ⟨rfl, rfl, rfl, by decide +kernel, rfl, by decide +kernel, by decide +kernel⟩
abbrev s_l_draw : Stmt := top 8
theorem sc_l_draw : FnScope ["_law_pen_here", "_law_size", "_law_drawn", "_law_number"] ["_law_pen_here", "_law_size"] (defScope s_l_draw) := ⟨rfl, rfl, rfl, by decide +kernel, rfl, by decide +kernel, by decide +kernel⟩
abbrev s_l_names : Stmt := top 9
theorem sc_l_names : FnScope ["_law_pen_here", "_law_many", "_law_letters", "_law_way", "_law_base", "_law_size", "_law_at", "_law_names_here", "_law_k", "_law_word"] ["_law_pen_here", "_law_many"] (defScope s_l_names) := ⟨rfl, rfl, rfl, by decide +kernel, rfl, by decide +kernel, by decide +kernel⟩
theorem nd_l_names_35_24 : (["_law_k", "_law_pen_here", "_law_many", "_law_letters", "_law_way", "_law_base", "_law_size", "_law_at", "_law_names_here", "#8", "_law_word"] : List Str).Nodup := by decide +kernel
abbrev s_l_net : Stmt := top 10
theorem sc_l_net : FnScope ["_law_pen_here", "_law_many", "_law_wide", "_law_first", "_law_net_here", "_law_name"] ["_law_pen_here"] (defScope s_l_net) := ⟨rfl, rfl, rfl, by decide +kernel, rfl, by decide +kernel, by decide +kernel⟩
abbrev s_l_stream : Stmt := top 11
theorem sc_l_stream : FnScope ["_law_pen_here", "_law_net_here", "_law_most", "_law_stream_here", "_law_k", "_law_mark", "_law_number", "_law_many"] ["_law_pen_here", "_law_net_here", "_law_most"] (defScope s_l_stream) := ⟨rfl, rfl, rfl, by decide +kernel, rfl, by decide +kernel, by decide +kernel⟩
abbrev s_l_met : Stmt := top 12
theorem sc_l_met : FnScope ["_law_net_here", "_law_stream_here", "_law_marks", "_law_rows", "_law_columns"] ["_law_net_here", "_law_stream_here"] (defScope s_l_met) := ⟨rfl, rfl, rfl, by decide +kernel, rfl, by decide +kernel, by decide +kernel⟩
theorem nd_l_met_68_17 : (["_law_thing", "_law_net_here", "_law_stream_here", "_law_marks", "_law_rows", "_law_columns"] : List Str).Nodup := by decide +kernel
theorem nd_l_met_69_16 : (["_law_known", "_law_net_here", "_law_stream_here", "_law_marks", "_law_rows", "_law_columns"] : List Str).Nodup := by decide +kernel
theorem nd_l_met_70_19 : (["_law_known", "_law_net_here", "_law_stream_here", "_law_marks", "_law_rows", "_law_columns"] : List Str).Nodup := by decide +kernel
abbrev s_l_some : Stmt := top 13
theorem sc_l_some : FnScope ["_law_pen_here", "_law_numbers", "_law_found"] ["_law_pen_here", "_law_numbers"] (defScope s_l_some) := ⟨rfl, rfl, rfl, by decide +kernel, rfl, by decide +kernel, by decide +kernel⟩
theorem nd_l_some_73_17 : (["_law_number", "_law_pen_here", "_law_numbers", "_law_found"] : List Str).Nodup := by decide +kernel
abbrev s_l_cells : Stmt := top 14
theorem sc_l_cells : FnScope ["_law_pen_here", "_law_net_here", "_law_way", "_law_cells_here", "_law_more", "_law_wide"] ["_law_pen_here", "_law_net_here"] (defScope s_l_cells) := ⟨rfl, rfl, rfl, by decide +kernel, rfl, by decide +kernel, by decide +kernel⟩
theorem nd_l_cells_79_50 : (["_law_known", "_law_pen_here", "_law_net_here", "_law_way", "_law_cells_here", "_law_more", "_law_wide"] : List Str).Nodup := by decide +kernel
theorem nd_l_cells_86_52 : (["_law_known", "_law_pen_here", "_law_net_here", "_law_way", "_law_cells_here", "_law_more", "_law_wide"] : List Str).Nodup := by decide +kernel
theorem nd_l_cells_86_127 : (["_law_known", "_law_pen_here", "_law_net_here", "_law_way", "_law_cells_here", "_law_more", "_law_wide"] : List Str).Nodup := by decide +kernel
abbrev s_l_open : Stmt := top 15
theorem sc_l_open : FnScope ["_law_net_here", "_law_cells_here"] ["_law_net_here", "_law_cells_here"] (defScope s_l_open) := ⟨rfl, rfl, rfl, by decide +kernel, rfl, by decide +kernel, by decide +kernel⟩
theorem nd_l_open_92_11 : (["_law_known", "_law_net_here", "_law_cells_here"] : List Str).Nodup := by decide +kernel
abbrev s_l_may : Stmt := top 16
theorem sc_l_may : FnScope ["_law_net_here", "_law_cells_here", "_law_some_here", "_law_lone"] ["_law_net_here", "_law_cells_here"] (defScope s_l_may) := ⟨rfl, rfl, rfl, by decide +kernel, rfl, by decide +kernel, by decide +kernel⟩
theorem nd_l_may_95_16 : (["_law_row", "_law_net_here", "_law_cells_here", "_law_some_here", "_law_lone"] : List Str).Nodup := by decide +kernel
theorem nd_l_may_95_80 : (["_law_known", "_law_row", "_law_net_here", "_law_cells_here", "_law_some_here", "_law_lone"] : List Str).Nodup := by decide +kernel
theorem nd_l_may_96_23 : (["_law_column", "_law_net_here", "_law_cells_here", "_law_some_here", "_law_lone"] : List Str).Nodup := by decide +kernel
theorem nd_l_may_96_96 : (["_law_known", "_law_column", "_law_net_here", "_law_cells_here", "_law_some_here", "_law_lone"] : List Str).Nodup := by decide +kernel
abbrev s_l_told : Stmt := top 17
theorem sc_l_told : FnScope ["_law_net_here", "_law_cells_here", "_law_due", "_law_found", "_law_told_here"] ["_law_net_here", "_law_cells_here"] (defScope s_l_told) := ⟨rfl, rfl, rfl, by decide +kernel, rfl, by decide +kernel, by decide +kernel⟩
theorem nd_l_told_98_15 : (["_law_known", "_law_net_here", "_law_cells_here", "_law_due", "_law_found", "_law_told_here"] : List Str).Nodup := by decide +kernel
abbrev s_law : Stmt := top 18
theorem sc_law : FnScope ["_law_script", "_law_net_here", "_law_some_here", "_law_cells_here"] ["_law_script"] (defScope s_law) := ⟨rfl, rfl, rfl, by decide +kernel, rfl, by decide +kernel, by decide +kernel⟩
theorem nd_law_109_21 : (["_law_k", "_law_script", "_law_net_here", "_law_some_here", "_law_cells_here"] : List Str).Nodup := by decide +kernel
/-- a draw: a number below the size; the pen has turned -/
def spDraw : Sp := fun vs H Q _ => ∃ (a : Addr) (n : Int), vs = [.ref a, .int n] ∧ PenAt H a ∧ 0 < n ∧ n < 1000000000000000000000000000000000000000000000000000000000000 ∧
  ∀ (d : Int) (H' : Hp), 0 ≤ d → d < n → PenAt H' a → Grw a H H' → Q (.int d) H'
def spPen (K : PySem.W.Frag) : Sp := fun vs H Q _ => ∃ (a : Addr) (ns : List Int) (k : Int), vs = [.ref a, .int k] ∧ SqL K H a (ns.map V.int) ∧ 0 ≤ k ∧
  ∀ (p : Addr) (H' : Hp), H p = none → Same H H' → PenAt H' p → Q (.ref p) H'
def spWord : Sp := fun vs H Q _ => ∃ (x : V) (k : Int), vs = [x, .int k] ∧ ∀ (z : Str) (H' : Hp), z ∈ words → Same H H' → Q (.str z) H'
def spMany : Sp := fun vs H Q _ => ∃ (a : Addr), vs = [.ref a] ∧ PenAt H a ∧ ∀ (m : Int) (H' : Hp), 1 ≤ m → m ≤ 1000000000 → PenAt H' a → Grw a H H' → Q (.int m) H'
def spThing : Sp := fun vs H Q _ => ∃ (a : Addr) (n k : Int), vs = [.ref a, .int n, .int k] ∧ PenAt H a ∧ 0 < n ∧ n < 1073741824 ∧ 0 ≤ k ∧ k < 30 ∧
  ∀ (r : Addr) (t : Th) (H' : Hp), t.Ok → hide a H' r = some (.tup t.vs) → PenAt H' a → Grw a H H' → Q (.ref r) H'
def spStream : Sp := fun vs H Q _ => ∃ (a : Addr) (n k l : Int), vs = [.ref a, .int n, .int k, .int l] ∧ PenAt H a ∧ 0 < n ∧ n < 1073741824 ∧ 0 ≤ k ∧ k < 30 ∧ 0 ≤ l ∧ l < 1000 ∧
  ∀ (r : Addr) (ts : List Th) (H' : Hp), (∀ t ∈ ts, t.Ok) → (ts.length : Int) ≤ l → DV (hide a H') (.ref r) (.list (ts.map Th.D)) → PenAt H' a → Grw a H H' → Q (.ref r) H'
section
variable {P : Program} {w : World} {K : PySem.W.Frag} {mg : Str → Option Value} {base : Heap} {f : Addr} {fd : FuncData}
theorem ok_draw (F : Fun K "_law_draw" "_law_draw" s_l_draw f fd) : FnOk P w K mg base CX0 1 f fd ["_law_pen_here", "_law_size"] spDraw := by
  refine F.ok sc_l_draw (fun vs H Q E h => ?_) (fun cdv A outer s H vs Q E hr h => ?_)
  · obtain ⟨a, n, rfl, _⟩ := h
    rfl
  obtain ⟨a, n, rfl, ⟨p, q, r, e⟩, h0, h1, hq⟩ := h
  refine ⟨_, (@pss_cons _ _ _ _ _ (ps_asg (@pe_op _ _ _ _ _ _ _ _ op_add (@pe_ix _ _ _ _ _ _ _ ix_list (pv 0) pe_int (fun _ _ => rfl)) pe_int) (pg_sub (pv 0) pe_int set_list))
  (@pss_cons _ _ _ _ _ (@ps_if _ _ _ _ _ _ _ _ (@pt_cmpR _ _ _ _ _ _ _ _ op_gt (@pe_ix _ _ _ _ _ _ _ ix_list (pv 0) pe_int (fun _ _ => rfl)) pe_int (nomark _)) (@pss_cons _ _ _ _ _ (@ps_set _ _ 2 _ _ _ _ sc_l_draw.nd rfl (Or.inl rfl) (@pe_op _ _ _ _ _ _ _ _ op_mod (@pe_ix _ _ _ _ _ _ _ ix_list (pv 0) pe_int (fun _ _ => rfl)) (pv 1)) (by rfl) (by first | exact .inl rfl | exact .inr rfl))
  (@pss_cons _ _ _ _ _ (ps_asg (@pe_op _ _ _ _ _ _ _ _ op_fdivB (@pe_ix _ _ _ _ _ _ _ ix_list (pv 0) pe_int (fun _ _ => rfl)) (pv 1)) (pg_sub (pv 0) pe_int set_list))
  (@pss_one _ _ _ (@ps_ret _ _ _ _ (pv 2))))) pss_nil)
  (@pss_cons _ _ _ _ _ (@ps_set _ _ 3 _ _ _ _ sc_l_draw.nd rfl (Or.inl rfl) (@pe_op _ _ _ _ _ _ _ _ op_mod (@pe_op _ _ _ _ _ _ _ _ op_mul (@pe_op _ _ _ _ _ _ _ _ op_add (@pe_op _ _ _ _ _ _ _ _ op_add (@pe_ix _ _ _ _ _ _ _ ix_list (pv 0) pe_int (fun _ _ => rfl)) (@pe_op _ _ _ _ _ _ _ _ op_mul pe_int (@pe_ix _ _ _ _ _ _ _ ix_list (pv 0) pe_int (fun _ _ => rfl)))) pe_int) pe_int) pe_int) (by rfl) (by first | exact .inl rfl | exact .inr rfl))
  (@pss_cons _ _ _ _ _ (@ps_set _ _ 3 _ _ _ _ sc_l_draw.nd rfl (Or.inl rfl) (@pe_op _ _ _ _ _ _ _ _ op_mod (@pe_op _ _ _ _ _ _ _ _ op_mul (pv 3) (@pe_op _ _ _ _ _ _ _ _ op_add (@pe_op _ _ _ _ _ _ _ _ op_add (@pe_op _ _ _ _ _ _ _ _ op_mod (pv 3) pe_int) (@pe_ix _ _ _ _ _ _ _ ix_list (pv 0) pe_int (fun _ _ => rfl))) pe_int)) pe_int) (by rfl) (by first | exact .inl rfl | exact .inr rfl))
  (@pss_one _ _ _ (@ps_ret _ _ _ _ (@pe_op _ _ _ _ _ _ _ _ op_mod (@pe_op _ _ _ _ _ _ _ _ op_fdiv (@pe_op _ _ _ _ _ _ _ _ op_mod (@pe_op _ _ _ _ _ _ _ _ op_mul (pv 3) (@pe_op _ _ _ _ _ _ _ _ op_add (@pe_op _ _ _ _ _ _ _ _ op_mod (pv 3) pe_int) pe_int)) pe_int) pe_int) (pv 1)))))))), ?_⟩
  refine ⟨_, rfl, a, _, 2, _, rfl, rfl, SqL.of e, at3_2 _ _ _, _, _, rfl, rfl, _, rfl, a, _, 2, _, rfl, rfl, e, rfl, ?_⟩
  have e1 : upd H a (.lst [.int p, .int q, .int (r + 1)]) a = some (.lst [.int p, .int q, .int (r + 1)]) := upd_same
  refine ⟨_, rfl, a, _, 0, _, rfl, rfl, SqL.of e1, at3_0 _ _ _, _, _, rfl, rfl, _, rfl, ?_⟩
  refine ite2 (fun c => ?_) (fun c => ?_)
  · refine ⟨_, rfl, a, _, 0, _, rfl, rfl, SqL.of e1, at3_0 _ _ _, _, rfl, _, _, rfl, rfl, h0, ?_⟩
    refine ⟨_, rfl, a, _, 0, _, rfl, rfl, SqL.of e1, at3_0 _ _ _, _, rfl, _, _, rfl, rfl, ⟨h0, h1⟩, _, rfl, a, _, 0, _, rfl, rfl, e1, rfl, ?_⟩
    refine ⟨_, rfl, ?_⟩
    refine hq (p % n) _ (Int.emod_nonneg _ (by omega)) (Int.emod_lt_of_pos _ h0) ⟨_, _, _, upd_same⟩ ?_
    rw [upd_upd]
    exact grw_upd
  · refine ⟨_, rfl, a, _, 1, _, rfl, rfl, SqL.of e1, at3_1 _ _ _, _, rfl, a, _, 2, _, rfl, rfl, SqL.of e1, at3_2 _ _ _, _, _, rfl, rfl, mulL rfl rfl, _, _, rfl, rfl, _, _, rfl, rfl, _, _, rfl, rfl, mulR rfl rfl, _, _, rfl, rfl, posI rfl, ?_⟩
    refine ⟨_, rfl, _, rfl, _, _, rfl, rfl, posI rfl, _, rfl, a, _, 2, _, rfl, rfl, SqL.of e1, at3_2 _ _ _, _, _, rfl, rfl, _, _, rfl, rfl, _, _, rfl, rfl, mulM _ _ _ rfl rfl, _, _, rfl, rfl, posI rfl, ?_⟩
    refine ⟨_, rfl, _, rfl, _, _, rfl, rfl, posI rfl, _, _, rfl, rfl, _, _, rfl, rfl, mulM _ _ _ rfl rfl, _, _, rfl, rfl, posI rfl, _, _, rfl, rfl, cdivI rfl rfl, _, rfl, _, _, rfl, rfl, h0, ?_⟩
    exact hq _ _ (Int.emod_nonneg _ (by omega)) (Int.emod_lt_of_pos _ h0) ⟨_, _, _, e1⟩ grw_upd
theorem ok_pen (F : Fun K "_law_pen" "_law_pen" s_l_pen f fd) (z_len : mg "len" = none) : FnOk P w K mg base CX0 1 f fd ["_law_script", "_law_k"] (spPen K) := by
  refine F.ok sc_l_pen (fun vs H Q E h => ?_) (fun cdv A outer s H vs Q E hr h => ?_)
  · obtain ⟨a, ns, k, rfl, _⟩ := h
    rfl
  obtain ⟨a, ns, k, rfl, hS, h0, hq⟩ := h
  have hl : (ns.map V.int).length = ns.length := List.length_map _
  refine ⟨_, (@pss_cons _ _ _ _ _ (@ps_set _ _ 2 _ _ _ _ sc_l_pen.nd rfl (Or.inl rfl) (@pe_op _ _ _ _ _ _ _ _ op_add (@pe_op _ _ _ _ _ _ _ _ op_mul pe_int (pv 1)) pe_int) (by rfl) (by first | exact .inl rfl | exact .inr rfl))
  (@pss_cons _ _ _ _ _ (@ps_if _ _ _ _ _ _ _ _ (@pt_cmpR _ _ _ _ _ _ _ _ op_lt (pv 1) (pe_callB call_len_seq rfl z_len PySem.boot_len (@pa_cons _ _ _ _ _ (pv 0) pa_nil (by rfl))) (nomark _)) (@pss_one _ _ _ (@ps_set _ _ 2 _ _ _ _ sc_l_pen.nd rfl (Or.inl rfl) (@pe_ix _ _ _ _ _ _ _ ix_list (pv 0) (pv 1) (fun _ _ => rfl)) (by rfl) (by first | exact .inl rfl | exact .inr rfl))) (@pss_one _ _ _ (@ps_if _ _ _ _ _ _ _ _ (@pt_cmpR _ _ _ _ _ _ _ _ op_gt (pe_callB call_len_seq rfl z_len PySem.boot_len (@pa_cons _ _ _ _ _ (pv 0) pa_nil (by rfl))) pe_int (nomark _)) (@pss_one _ _ _ (@ps_set _ _ 2 _ _ _ _ sc_l_pen.nd rfl (Or.inl rfl) (@pe_op _ _ _ _ _ _ _ _ op_add (@pe_ix _ _ _ _ _ _ _ ix_list (pv 0) (@pe_op _ _ _ _ _ _ _ _ op_mod (pv 1) (pe_callB call_len_seq rfl z_len PySem.boot_len (@pa_cons _ _ _ _ _ (pv 0) pa_nil (by rfl)))) (fun _ _ => rfl)) (@pe_op _ _ _ _ _ _ _ _ op_mul pe_int (pv 1))) (by rfl) (by first | exact .inl rfl | exact .inr rfl))) pss_nil)))
  (@pss_cons _ _ _ _ _ (@ps_if _ _ _ _ _ _ _ _ (@pt_cmpR _ _ _ _ _ _ _ _ op_ge (pv 2) (@pe_op _ _ _ _ _ _ _ _ op_pow pe_int pe_int) (nomark _)) (@pss_one _ _ _ (@ps_ret _ _ _ _ (@pe_lst _ _ _ _ (@pa_cons _ _ _ _ _ (@pe_op _ _ _ _ _ _ _ _ op_sub (pv 2) (@pe_op _ _ _ _ _ _ _ _ op_pow pe_int pe_int)) (@pa_cons _ _ _ _ _ (@pe_op _ _ _ _ _ _ _ _ op_mod (pv 2) pe_int) (@pa_cons _ _ _ _ _ pe_int pa_nil (by rfl)) (by rfl)) (by rfl))))) pss_nil)
  (@pss_one _ _ _ (@ps_ret _ _ _ _ (@pe_lst _ _ _ _ (@pa_cons _ _ _ _ _ pe_int (@pa_cons _ _ _ _ _ (@pe_op _ _ _ _ _ _ _ _ op_add (@pe_op _ _ _ _ _ _ _ _ op_mod (pv 2) pe_int) (@pe_op _ _ _ _ _ _ _ _ op_mul pe_int (pv 1))) (@pa_cons _ _ _ _ _ pe_int pa_nil (by rfl)) (by rfl)) (by rfl)))))))), ?_⟩
  refine ⟨_, rfl, _, _, rfl, rfl, mulL rfl rfl, _, _, rfl, rfl, ?_⟩
  refine ⟨_, rfl, _, rfl, a, _, rfl, .inl hS, _, _, rfl, rfl, _, rfl, ?_⟩
  have atn : ∀ i : Int, 0 ≤ i → i < ns.length → ∃ v : Int, atI (ns.map V.int) i = some (.int v) := fun i h1 h2 => by
    obtain ⟨v, hv, hm⟩ := atI_in (xs := ns.map V.int) h1 (by rw [hl]; exact h2)
    obtain ⟨n, _, rfl⟩ := List.mem_map.mp hm
    exact ⟨n, hv⟩
  have fin : ∀ x y z : Int, ∀ p, H p = none → Q (.ref p) (upd H p (.lst [.int x, .int y, .int z])) := fun x y z p hp => hq p _ hp (same_laid hp _) ⟨x, y, z, upd_same⟩
  refine ite2 (fun c => ?_) (fun c => ?_)
  · have c := of_decide_eq_true c
    rw [hl] at c
    obtain ⟨v, hv⟩ := atn k h0 c
    refine ⟨_, rfl, _, rfl, a, _, _, _, rfl, rfl, hS, hv, ?_⟩
    refine ⟨_, rfl, _, _, rfl, rfl, powI rfl rfl rfl, _, _, rfl, rfl, _, rfl, ?_⟩
    refine ite2 (fun c => ?_) (fun c => ?_)
    · refine ⟨_, rfl, _, _, rfl, rfl, powI rfl rfl rfl, _, _, rfl, rfl, _, rfl, _, _, rfl, rfl, posI rfl, leN rfl, fin _ _ _⟩
    · refine ⟨_, rfl, _, _, rfl, rfl, posI rfl, _, rfl, _, _, rfl, rfl, mulL rfl rfl, _, _, rfl, rfl, leN rfl, fin _ _ _⟩
  · refine ⟨_, rfl, a, _, rfl, .inl hS, _, _, rfl, rfl, _, rfl, ?_⟩
    refine ite2 (fun c => ?_) (fun c => ?_)
    · have c := of_decide_eq_true c
      rw [hl] at c
      have hm := Int.emod_nonneg k (show (ns.length : Int) ≠ 0 by omega)
      have hm2 := Int.emod_lt_of_pos k c
      obtain ⟨v, hv⟩ := atn (k % (ns.length : Int)) hm hm2
      refine ⟨_, rfl, _, rfl, _, rfl, a, _, rfl, .inl hS, _, _, rfl, rfl, by rw [hl]; exact c, a, _, _, _, rfl, rfl, hS, by rw [hl]; exact hv, _, rfl, _, _, rfl, rfl, mulL rfl rfl, _, _, rfl, rfl, ?_⟩
      refine ⟨_, rfl, _, _, rfl, rfl, powI rfl rfl rfl, _, _, rfl, rfl, _, rfl, ?_⟩
      refine ite2 (fun c => ?_) (fun c => ?_)
      · refine ⟨_, rfl, _, _, rfl, rfl, powI rfl rfl rfl, _, _, rfl, rfl, _, rfl, _, _, rfl, rfl, posI rfl, leN rfl, fin _ _ _⟩
      · refine ⟨_, rfl, _, _, rfl, rfl, posI rfl, _, rfl, _, _, rfl, rfl, mulL rfl rfl, _, _, rfl, rfl, leN rfl, fin _ _ _⟩
    · refine ⟨_, rfl, _, _, rfl, rfl, powI rfl rfl rfl, _, _, rfl, rfl, _, rfl, ?_⟩
      refine ite2 (fun c => ?_) (fun c => ?_)
      · refine ⟨_, rfl, _, _, rfl, rfl, powI rfl rfl rfl, _, _, rfl, rfl, _, rfl, _, _, rfl, rfl, posI rfl, leN rfl, fin _ _ _⟩
      · refine ⟨_, rfl, _, _, rfl, rfl, posI rfl, _, rfl, _, _, rfl, rfl, mulL rfl rfl, _, _, rfl, rfl, leN rfl, fin _ _ _⟩
end
end K37

namespace K37
open PySem L2
def spPut (K : PySem.W.Frag) : Sp := fun vs H Q _ => ∃ (p : Addr) (ns : List Int), vs = [.ref p] ∧ (SqL K H p (ns.map V.int) ∨ SqT K H p (ns.map V.int)) ∧ ns.length < 1000 ∧ (uniI ns).length < 64 ∧ ∀ (a : Addr) (H' : Hp), Same H H' → H' a = some (.tup ((uni ns).map V.int)) → Q (.ref a) H'
def prV (p : Int × Int) : List V := [.int p.1, .int p.2]
def spBy : Sp := fun vs H Q _ => ∃ (l : Addr) (xs : List V) (ps : List (Int × Int)), vs = [.ref l] ∧ H l = some (.lst xs) ∧ TpsAt H xs (ps.map prV) ∧ ps.length < 1000 ∧ (uniI (ps.map (·.1))).length < 64 ∧ (uniI (ps.map (·.2))).length < 64 ∧ ∀ (a : Addr) (H' : Hp), Same H H' → CelAt H' a (uni (ps.map (·.1))) (uni (ps.map (·.2))) → Q (.ref a) H'
section
variable {P : Program} {w : World} {K : PySem.W.Frag} {mg : Str → Option Value} {base : Heap} {f : Addr} {fd : FuncData}
theorem ok_put (z_set : mg "set" = none) (z_sorted : mg "sorted" = none) (z_tuple : mg "tuple" = none) (F : Fun K "put_together" "put_together" s_put_together f fd) : FnOk P w K mg base CX0 1 f fd ["numbers"] (spPut K) := by
  refine F.ok sc_put_together (fun vs H Q E h => ?_) (fun cdv A outer s H vs Q E hr h => ?_)
  · obtain ⟨p, ns, rfl, _⟩ := h
    rfl
  obtain ⟨p, ns, rfl, hs, hl, h64, hq⟩ := h
  refine ⟨_, (@pss_one _ _ _ (@ps_ret _ _ _ _ (pe_callTy call_tuple_of rfl z_tuple PyProof.Rows.boot_tuple (@pa_cons _ _ _ _ _ (pe_callB (call_sortSI rfl) rfl z_sorted PyProof.Rows.boot_sorted (@pa_cons _ _ _ _ _ (pe_callTy ((call_setN rfl).or (call_setNT rfl)) rfl z_set PyProof.Rows.boot_set (@pa_cons _ _ _ _ _ (pv 0) pa_nil (by rfl))) pa_nil (by rfl))) pa_nil (by rfl))))), ?_⟩
  have fin : ∀ d, H d = none → ∃ (d' : Addr) (ms : List Int), [V.ref d] = [.ref d'] ∧ (upd H d (keySet P w d ((uniI ns).map Sum.inl))) d' = some (keySet P w d' (ms.map Sum.inl)) ∧ ms.length < 64 ∧ ∀ q, upd H d (keySet P w d ((uniI ns).map Sum.inl)) q = none → ∃ p ys, [V.ref q] = [.ref p] ∧ ((SqL K (upd (upd H d (keySet P w d ((uniI ns).map Sum.inl))) q (.lst ((srtI ms).map V.int))) p ys ∧ ∀ l, (upd (upd H d (keySet P w d ((uniI ns).map Sum.inl))) q (.lst ((srtI ms).map V.int))) l = none → Q (.ref l) (upd (upd (upd H d (keySet P w d ((uniI ns).map Sum.inl))) q (.lst ((srtI ms).map V.int))) l (.tup ys))) ∨ (SqT K (upd (upd H d (keySet P w d ((uniI ns).map Sum.inl))) q (.lst ((srtI ms).map V.int))) p ys ∧ Q (.ref p) (upd (upd H d (keySet P w d ((uniI ns).map Sum.inl))) q (.lst ((srtI ms).map V.int))))) := fun d nd =>
    ⟨d, uniI ns, rfl, upd_same, h64, fun q nq => ⟨q, _, rfl, .inl ⟨SqL.of upd_same, fun l nl => hq l _ ((same_laid nd _).trans ((same_laid nq _).trans (same_laid nl _))) upd_same⟩⟩⟩
  rcases hs with hs | hs
  · exact ⟨_, rfl, .inl ⟨p, ns, rfl, hs, by omega, fin⟩⟩
  · exact ⟨_, rfl, .inr ⟨p, ns, rfl, hs, by omega, fin⟩⟩
theorem ok_by (h_put_together : Has P w K mg base "put_together" 1 ["numbers"] (spPut K)) (F : Fun K "cells_by" "cells_by" s_cells_by f fd) : FnOk P w K mg base CX0 2 f fd ["places"] spBy := by
  refine F.ok sc_cells_by (fun vs H Q E h => ?_) (fun cdv A outer s H vs Q E hr h => ?_)
  · obtain ⟨l, xs, ps, rfl, _⟩ := h
    rfl
  obtain ⟨l, xs, ps, rfl, el, tl, hl, u1, u2, hq⟩ := h
  refine ⟨_, (@pss_one _ _ _ (@ps_ret _ _ _ _ (@pe_tup _ _ _ _ _ (@pa_cons _ _ _ _ _ (pe_callH h_put_together hr (@pa_cons _ _ _ _ _ (pe_comp (own := ["row", "column"]) (CompOk.of rfl rfl (by rfl) (by rfl) (by rfl)) (pi_list (pv 0))
    (fun _ _ _ _ _ => (pg_tupK K 2 rfl rfl (pgs_cons (pg_name (i := 0) nd_cells_by_5_25 rfl (Or.inl rfl) (Or.inr rfl)) (pgs_cons (pg_name (i := 1) nd_cells_by_5_25 rfl (Or.inl rfl) (Or.inr rfl)) pgs_nil)))) (fun _ _ _ _ _ => pts_nil)
    (fun _ _ _ _ _ => (pv 0))) pa_nil (by rfl))) (@pa_cons _ _ _ _ _ (pe_callH h_put_together hr (@pa_cons _ _ _ _ _ (pe_comp (own := ["row", "column"]) (CompOk.of rfl rfl (by rfl) (by rfl) (by rfl)) (pi_list (pv 0))
    (fun _ _ _ _ _ => (pg_tupK K 2 rfl rfl (pgs_cons (pg_name (i := 0) nd_cells_by_5_72 rfl (Or.inl rfl) (Or.inr rfl)) (pgs_cons (pg_name (i := 1) nd_cells_by_5_72 rfl (Or.inl rfl) (Or.inr rfl)) pgs_nil)))) (fun _ _ _ _ _ => pts_nil)
    (fun _ _ _ _ _ => (pv 1))) pa_nil (by rfl))) pa_nil (by rfl)) (by rfl))))), ?_⟩
  refine ⟨_, rfl, l, rfl, ⟨_, SqL.of el⟩, ?_⟩
  refine comp_rL (fun _ => true) (fun p => .int p.1) prV el tl (by omega) ?_ ?_
  · rintro t c ys C mt ec h1 _
    exact ⟨c, _, rfl, SqT.of ec, rfl, _, _, rfl, _, _, rfl, rfl, Wk.refl _, _, rfl, h1 rfl⟩
  have gg : Same H H := fun _ _ h => h
  rw [filter_all, show (ps.map fun p => V.int p.1) = (ps.map (·.1)).map V.int by rw [List.map_map]; rfl]
  intro q1 n_q1
  generalize hz : upd _ q1 _ = H1
  have gz := laid_same hz n_q1
  have e_q1 := laid_at hz
  clear hz
  have gg := gg.trans gz
  have el := gz _ _ el
  have tl := tl.mono gz
  refine ⟨q1, _, rfl, .inl (SqL.of e_q1), by rw [List.length_map]; omega, u1, fun a H2 g2 ea => ?_⟩
  have el := g2 _ _ el
  have tl := tl.mono g2
  have gg := gg.trans g2
  refine ⟨_, rfl, l, rfl, ⟨_, SqL.of el⟩, ?_⟩
  refine comp_rL (fun _ => true) (fun p => .int p.2) prV el tl (by omega) ?_ ?_
  · rintro t c ys C mt ec h1 _
    exact ⟨c, _, rfl, SqT.of ec, rfl, _, _, rfl, _, _, rfl, rfl, Wk.refl _, _, rfl, h1 rfl⟩
  rw [filter_all, show (ps.map fun p => V.int p.2) = (ps.map (·.2)).map V.int by rw [List.map_map]; rfl]
  intro q2 n_q2
  generalize hz : upd _ q2 _ = H3
  have gz := laid_same hz n_q2
  have e_q2 := laid_at hz
  clear hz
  have gg := gg.trans gz
  have ea := gz _ _ ea
  refine ⟨q2, _, rfl, .inl (SqL.of e_q2), by rw [List.length_map]; omega, u2, fun b H4 g4 eb => ?_⟩
  have ea := g4 _ _ ea
  have gg := gg.trans g4
  refine ⟨leN rfl, fun r nr => hq r _ (gg.trans (same_laid nr _)) ⟨a, b, upd_same, same_laid nr _ _ _ ea, same_laid nr _ _ _ eb⟩⟩
def openK (rs cs : List Int) (k : Kn) : Bool := decide (k.row ∈ rs) && decide (k.col ∈ cs)
def spKnots : Sp := fun vs H Q _ => ∃ (n c : Addr) (ks : List Kn) (rs cs : List Int), vs = [.ref n, .ref c] ∧ NetAt H n ks ∧ CelAt H c rs cs ∧ ks.length ≤ 100 ∧ ∀ (l : Addr) (xs : List V) (H' : Hp), Same H H' → H' l = some (.lst xs) → TpsAt H' xs ((ks.filter (openK rs cs)).map Kn.vs) → Q (.ref l) H'
def spOpen : Sp := fun vs H Q _ => ∃ (n c : Addr) (ks : List Kn) (rs cs : List Int), vs = [.ref n, .ref c] ∧ NetAt H n ks ∧ CelAt H c rs cs ∧ ks.length ≤ 60 ∧ ∀ (l : Addr) (H' : Hp), Same H H' → H l = none → H' l = some (.lst ((ks.filter (openK rs cs)).map fun k => .str k.mark)) → Q (.ref l) H'
def mayB (ks : List Kn) (rs cs : List Int) : Bool := PyData.eqv (celD (uni ((ks.filter (openK rs cs)).map Kn.row)) (uni ((ks.filter (openK rs cs)).map Kn.col))) (celD rs cs)
def spMay : Sp := fun vs H Q _ => ∃ (n c : Addr) (ks : List Kn) (rs cs : List Int), vs = [.ref n, .ref c] ∧ NetAt H n ks ∧ CelAt H c rs cs ∧ ks.length ≤ 60 ∧ ∀ (H' : Hp), Same H H' → Q (.bl (mayB ks rs cs)) H'
theorem ok_knots (F : Fun K "open_knots" "open_knots" s_open_knots f fd) : FnOk P w K mg base CX0 1 f fd ["net", "cells"] spKnots := by
  refine F.ok sc_open_knots (fun vs H Q E h => ?_) (fun cdv A outer s H vs Q E hr h => ?_)
  · obtain ⟨n, c, ks, rs, cs, rfl, _⟩ := h
    rfl
  obtain ⟨n, c, ks, rs, cs, rfl, ⟨xs, en, tn⟩, ⟨a, b, ec, ea, eb⟩, hl, hq⟩ := h
  refine ⟨_, (@pss_cons _ _ _ _ _ (ps_asg (pv 1) (pg_tup rfl (pgs_cons (pg_name (i := 2) sc_open_knots.nd rfl (Or.inr rfl)) (pgs_cons (pg_name (i := 3) sc_open_knots.nd rfl (Or.inr rfl)) pgs_nil))))
  (@pss_one _ _ _ (@ps_ret _ _ _ _ (pe_comp (own := ["mark", "row", "column"]) (CompOk.of rfl rfl (by rfl) (by rfl) (by rfl)) (pi_tup (pv 0))
    (fun _ _ _ _ _ => (pg_tupK K 3 rfl rfl (pgs_cons (pg_name (i := 0) nd_open_knots_8_11 rfl (Or.inl rfl) (Or.inr rfl)) (pgs_cons (pg_name (i := 1) nd_open_knots_8_11 rfl (Or.inl rfl) (Or.inr rfl)) (pgs_cons (pg_name (i := 2) nd_open_knots_8_11 rfl (Or.inl rfl) (Or.inr rfl)) pgs_nil))))) (fun _ _ _ _ _ => (pts_one (PW.pt (@pw_and _ _ _ _ _ _ _ (@pt_cmpR _ _ _ _ _ _ _ _ (op_in_seqK K rfl) (pv 1) (pv 5) (by with_unfolding_all rfl)) (@pw_and1 _ _ _ _ (@pt_cmpR _ _ _ _ _ _ _ _ (op_in_seqK K rfl) (pv 2) (pv 6) (by with_unfolding_all rfl)))))))
    (fun _ _ _ _ _ => (@pe_tup _ _ _ _ _ (@pa_cons _ _ _ _ _ (pv 0) (@pa_cons _ _ _ _ _ (pv 1) (@pa_cons _ _ _ _ _ (pv 2) pa_nil (by rfl)) (by rfl)) (by rfl)))))))), ?_⟩
  refine ⟨_, rfl, c, _, rfl, SqT.of ec, rfl, _, _, rfl, _, _, rfl, rfl, ?_⟩
  refine ⟨_, rfl, n, rfl, ⟨_, SqT.of en⟩, ?_⟩
  refine comp_rTn (openK rs cs) Kn.vs Kn.vs en tn (by omega) ?_ ?_
  · rintro t c1 ys H1 C mt s1 e1 y no
    refine ⟨c1, _, rfl, SqT.of e1, rfl, _, _, rfl, _, _, rfl, _, _, rfl, rfl, Wk.refl _, _, rfl, _, rfl, a, _, rfl, .inr (SqT.of (s1 _ _ ea)), rfl, flat_ints rs, ?_⟩
    refine ⟨_, rfl, ?_⟩
    rw [if_neg Bool.false_ne_true, inV_ints]
    refine ite2 (fun c1 => ?_) (fun c1 => ?_)
    · refine ⟨_, rfl, _, rfl, b, _, rfl, .inr (SqT.of (s1 _ _ eb)), rfl, flat_ints cs, _, rfl, ?_⟩
      rw [if_neg Bool.false_ne_true, inV_ints]
      refine ite2 (fun c2 => ?_) (fun c2 => ?_)
      · exact ⟨_, rfl, _, rfl, _, rfl, leN rfl, fun q nq => y (by show (_ && _) = true; rw [c1, c2]; rfl) q nq⟩
      · exact no (by show (_ && _) = false; rw [Bool.eq_false_iff.mpr c2, Bool.and_false])
    · exact iteF (no (by show (_ && _) = false; rw [Bool.eq_false_iff.mpr c1, Bool.false_and]))
  · intro ys H1 s1 t1 q nq
    exact hq q ys _ (s1.trans (same_laid nq _)) upd_same (t1.mono (same_laid nq _))
theorem ok_open (h_open_knots : Has P w K mg base "open_knots" 1 ["net", "cells"] spKnots) (F : Fun K "open_marks" "open_marks" s_open_marks f fd) : FnOk P w K mg base CX0 2 f fd ["net", "cells"] spOpen := by
  refine F.ok sc_open_marks (fun vs H Q E h => ?_) (fun cdv A outer s H vs Q E hr h => ?_)
  · obtain ⟨n, c, ks, rs, cs, rfl, _⟩ := h
    rfl
  obtain ⟨n, c, ks, rs, cs, rfl, hn, hc, hl, hq⟩ := h
  refine ⟨_, (@pss_one _ _ _ (@ps_ret _ _ _ _ (pe_comp (own := ["mark", "row", "column"]) (CompOk.of rfl rfl (by rfl) (by rfl) (by rfl)) (pi_list (pe_callH h_open_knots hr (@pa_cons _ _ _ _ _ (pv 0) (@pa_cons _ _ _ _ _ (pv 1) pa_nil (by rfl)) (by rfl))))
    (fun _ _ _ _ _ => (pg_tupK K 3 rfl rfl (pgs_cons (pg_name (i := 0) nd_open_marks_10_11 rfl (Or.inl rfl) (Or.inr rfl)) (pgs_cons (pg_name (i := 1) nd_open_marks_10_11 rfl (Or.inl rfl) (Or.inr rfl)) (pgs_cons (pg_name (i := 2) nd_open_marks_10_11 rfl (Or.inl rfl) (Or.inr rfl)) pgs_nil))))) (fun _ _ _ _ _ => pts_nil)
    (fun _ _ _ _ _ => (pv 0))))), ?_⟩
  refine ⟨_, rfl, _, rfl, n, c, ks, rs, cs, rfl, hn, hc, by omega, fun l xs H1 s1 e1 t1 => ⟨l, rfl, ⟨_, SqL.of e1⟩, ?_⟩⟩
  have hle := List.length_filter_le (openK rs cs) ks
  refine comp_rL (fun _ => true) (fun k => .str k.mark) Kn.vs e1 t1 (by omega) ?_ ?_
  · rintro t c1 ys C mt ec h1 _
    exact ⟨c1, _, rfl, SqT.of ec, rfl, _, _, rfl, _, _, rfl, _, _, rfl, rfl, Wk.refl _, _, rfl, h1 rfl⟩
  rw [filter_all]
  exact fun q nq => hq q _ (s1.trans (same_laid nq _)) (s1.free nq) upd_same
theorem ok_may (h_open_knots : Has P w K mg base "open_knots" 1 ["net", "cells"] spKnots) (h_cells_by : Has P w K mg base "cells_by" 2 ["places"] spBy) (F : Fun K "may_be" "may_be" s_may_be f fd) : FnOk P w K mg base CX0 3 f fd ["net", "cells"] spMay := by
  refine F.ok sc_may_be (fun vs H Q E h => ?_) (fun cdv A outer s H vs Q E hr h => ?_)
  · obtain ⟨n, c, ks, rs, cs, rfl, _⟩ := h
    rfl
  obtain ⟨n, c, ks, rs, cs, rfl, hn, hc, hl, hq⟩ := h
  refine ⟨_, (@pss_one _ _ _ (@ps_ret _ _ _ _ (@pe_cmpR _ _ _ _ _ _ _ _ (op_eqD hr.units) (pe_callH h_cells_by hr (@pa_cons _ _ _ _ _ (pe_comp (own := ["mark", "row", "column"]) (CompOk.of rfl rfl (by rfl) (by rfl) (by rfl)) (pi_list (pe_callH h_open_knots hr (@pa_cons _ _ _ _ _ (pv 0) (@pa_cons _ _ _ _ _ (pv 1) pa_nil (by rfl)) (by rfl))))
    (fun _ _ _ _ _ => (pg_tupK K 3 rfl rfl (pgs_cons (pg_name (i := 0) nd_may_be_12_20 rfl (Or.inl rfl) (Or.inr rfl)) (pgs_cons (pg_name (i := 1) nd_may_be_12_20 rfl (Or.inl rfl) (Or.inr rfl)) (pgs_cons (pg_name (i := 2) nd_may_be_12_20 rfl (Or.inl rfl) (Or.inr rfl)) pgs_nil))))) (fun _ _ _ _ _ => pts_nil)
    (fun _ _ _ _ _ => (@pe_tup _ _ _ _ _ (@pa_cons _ _ _ _ _ (pv 1) (@pa_cons _ _ _ _ _ (pv 2) pa_nil (by rfl)) (by rfl))))) pa_nil (by rfl))) (pv 1) (nomark _)))), ?_⟩
  refine ⟨_, rfl, _, rfl, n, c, ks, rs, cs, rfl, hn, hc, by omega, fun l xs H1 s1 e1 t1 => ⟨l, rfl, ⟨_, SqL.of e1⟩, ?_⟩⟩
  have hle := List.length_filter_le (openK rs cs) ks
  refine comp_rLn (fun _ => true) (fun k : Kn => prV (k.row, k.col)) Kn.vs e1 t1 (by omega) ?_ ?_
  · rintro t c1 ys H2 C mt s2 ec h1 _
    exact ⟨c1, _, rfl, SqT.of ec, rfl, _, _, rfl, _, _, rfl, _, _, rfl, rfl, Wk.refl _, _, rfl, _, rfl, leN rfl, fun q nq => h1 rfl _ q (same_laid nq _) upd_same⟩
  intro ys H2 s2 t2 q nq
  rw [filter_all] at t2
  have t3 : TpsAt (upd H2 q (.lst ys)) ys (((ks.filter (openK rs cs)).map fun k : Kn => (k.row, k.col)).map prV) := by
    rw [List.map_map]
    exact t2.mono (same_laid nq _)
  have m1 : ((ks.filter (openK rs cs)).map fun k : Kn => (k.row, k.col)).map (·.1) = (ks.filter (openK rs cs)).map Kn.row := by rw [List.map_map]; rfl
  have m2 : ((ks.filter (openK rs cs)).map fun k : Kn => (k.row, k.col)).map (·.2) = (ks.filter (openK rs cs)).map Kn.col := by rw [List.map_map]; rfl
  have b1 := uniI_len ((ks.filter (openK rs cs)).map Kn.row)
  have b2 := uniI_len ((ks.filter (openK rs cs)).map Kn.col)
  rw [List.length_map] at b1 b2
  refine ⟨q, ys, _, rfl, upd_same, t3, by rw [List.length_map]; omega, by rw [m1]; omega, by rw [m2]; omega, fun a H3 s3 ca => ?_⟩
  rw [m1, m2] at ca
  have s4 := s1.trans (s2.trans ((same_laid nq _).trans s3))
  exact ⟨_, rfl, _, _, ca.dv, (hc.mono s4).dv, shaped_of (cel_lay _ _) (by decide), shaped_of (cel_lay _ _) (by decide), hq _ s4⟩
end
end K37

namespace K37
open PySem L2
def spNames : Sp := fun vs H Q _ => ∃ (a : Addr) (n : Int), vs = [.ref a, .int n] ∧ PenAt H a ∧ 0 ≤ n ∧ n ≤ 60 ∧
  ∀ (r : Addr) (zs : List Str) (H' : Hp), (∀ z ∈ zs, Mrk z) → zs.Nodup → zs.Pairwise (fun a b => leS a b = true) → (zs.length : Int) ≤ n → hide a H r = none → hide a H' r = some (.lst (zs.map V.str)) → PenAt H' a → Grw a H H' → Q (.ref r) H'
section
variable {P : Program} {w : World} {K : PySem.W.Frag} {mg : Str → Option Value} {base : Heap} {f : Addr} {fd : FuncData}
theorem ok_names (h_l_draw : Has P w K mg base "_law_draw" 1 ["_law_pen_here", "_law_size"] spDraw) (z_range : mg "range" = none) (z_set : mg "set" = none) (z_sorted : mg "sorted" = none)
    (F : Fun K "_law_names" "_law_names" s_l_names f fd) : FnOk P w K mg base CX0 2 f fd ["_law_pen_here", "_law_many"] spNames := by
  refine F.ok sc_l_names (fun vs H Q E h => ?_) (fun cdv A outer s H vs Q E hr h => ?_)
  · obtain ⟨a, n, rfl, _⟩ := h
    rfl
  obtain ⟨a, n, rfl, hp, n0, n60, hq⟩ := h
  refine ⟨_, (@pss_cons _ _ _ _ _ (@ps_set _ _ 2 _ _ _ _ sc_l_names.nd rfl (Or.inr rfl) pe_str (by rfl) (by first | exact .inl rfl | exact .inr rfl))
  (@pss_cons _ _ _ _ _ (@ps_set _ _ 3 _ _ _ _ sc_l_names.nd rfl (Or.inl rfl) (pe_callH h_l_draw hr (@pa_cons _ _ _ _ _ (pv 0) (@pa_cons _ _ _ _ _ pe_int pa_nil (by rfl)) (by rfl))) (by rfl) (by first | exact .inl rfl | exact .inr rfl))
  (pss_forget 8 (@pss_cons _ _ _ _ _ (@ps_set _ _ 4 _ _ _ _ sc_l_names.nd rfl (Or.inl rfl) (pe_bm PySem.F.plainAttrs_str PySem.F.slot_str_join PySem.F.type_str_join mt_join pe_str (@pa_cons _ _ _ _ _ (pe_ren ["_law_pen_here", "_law_many", "_law_letters", "_law_way", "_law_base", "_law_size", "_law_at", "_law_names_here", "#8", "_law_word"] (pe_comp (own := ["_law_k"]) (CompOk.of rfl rfl (by rfl) (by rfl) (by rfl)) (pi_range1 rfl z_range (@pa_cons _ _ _ _ _ pe_int pa_nil (by rfl)))
    (fun _ _ _ _ _ => (pg_name (i := 0) nd_l_names_35_24 rfl (Or.inl rfl) (Or.inr rfl))) (fun _ _ _ _ _ => pts_nil)
    (fun _ _ _ _ _ => (@pe_ix _ _ _ _ _ _ _ ix_str (pv 3) (pe_callH h_l_draw hr (@pa_cons _ _ _ _ _ (pv 1) (@pa_cons _ _ _ _ _ pe_int pa_nil (by rfl)) (by rfl))) (fun _ _ => rfl))))) pa_nil (by rfl))) (by rfl) (by first | exact .inl rfl | exact .inr rfl))
  (@pss_cons _ _ _ _ _ (@ps_set _ _ 5 _ _ _ _ sc_l_names.nd rfl (Or.inl rfl) (@pe_op _ _ _ _ _ _ _ _ op_add pe_int (pe_callH h_l_draw hr (@pa_cons _ _ _ _ _ (pv 0) (@pa_cons _ _ _ _ _ pe_int pa_nil (by rfl)) (by rfl)))) (by rfl) (by first | exact .inl rfl | exact .inr rfl))
  (@pss_cons _ _ _ _ _ (@ps_set _ _ 6 _ _ _ _ sc_l_names.nd rfl (Or.inl rfl) (pe_callH h_l_draw hr (@pa_cons _ _ _ _ _ (pv 0) (@pa_cons _ _ _ _ _ (@pe_op _ _ _ _ _ _ _ _ op_sub (pv 5) pe_int) pa_nil (by rfl)) (by rfl))) (by rfl) (by first | exact .inl rfl | exact .inr rfl))
  (@pss_cons _ _ _ _ _ (@ps_set _ _ 7 _ _ _ _ sc_l_names.nd rfl (Or.inl rfl) (@pe_lst _ _ _ _ pa_nil) (by rfl) (by first | exact .inl rfl | exact .inr rfl))
  (@pss_cons _ _ _ _ _ (ps_for PassesOwn.never rfl (pi_range1 rfl z_range (@pa_cons _ _ _ _ _ (pv 1) pa_nil (by rfl))) (pg_name (i := 8) sc_l_names.nd rfl (Or.inl rfl))
  (@pss_cons _ _ _ _ _ (@ps_set _ _ 9 _ _ _ _ sc_l_names.nd rfl (Or.inl rfl) (@pe_op _ _ _ _ _ _ _ _ op_add_str (@pe_ix _ _ _ _ _ _ _ ix_str (pv 2) (@pe_op _ _ _ _ _ _ _ _ op_mod (@pe_op _ _ _ _ _ _ _ _ op_add (pv 8) (pv 5)) pe_int) (fun _ _ => rfl)) (@pe_ix _ _ _ _ _ _ _ ix_str (pv 2) (@pe_op _ _ _ _ _ _ _ _ op_mod (@pe_op _ _ _ _ _ _ _ _ op_add (@pe_op _ _ _ _ _ _ _ _ op_fdiv (pv 8) pe_int) (pv 6)) pe_int) (fun _ _ => rfl))) (by rfl) (by first | exact .inl rfl | exact .inr rfl))
  (@pss_cons _ _ _ _ _ (@ps_if _ _ _ _ _ _ _ _ (@pt_cmpR _ _ _ _ _ _ _ _ op_eq (pv 3) pe_int (nomark _)) (@pss_one _ _ _ (@ps_set _ _ 9 _ _ _ _ sc_l_names.nd rfl (Or.inl rfl) (@pe_op _ _ _ _ _ _ _ _ op_add_str (@pe_op _ _ _ _ _ _ _ _ op_add_str (pe_slice sl_str (pv 4) po_none (po_some (pv 6))) (pv 9)) (pe_slice sl_str (pv 4) (po_some (@pe_op _ _ _ _ _ _ _ _ op_add (pv 6) pe_int)) (po_some (pv 5)))) (by rfl) (by first | exact .inl rfl | exact .inr rfl))) pss_nil)
  (@pss_cons _ _ _ _ _ (@ps_if _ _ _ _ _ _ _ _ (@pt_cmpR _ _ _ _ _ _ _ _ op_eq (pv 3) pe_int (nomark _)) (@pss_one _ _ _ (@ps_set _ _ 9 _ _ _ _ sc_l_names.nd rfl (Or.inl rfl) (@pe_op _ _ _ _ _ _ _ _ op_add_str (pe_slice sl_str (pv 4) (po_some (pv 6)) (po_some (@pe_op _ _ _ _ _ _ _ _ op_add (pv 6) (pe_callH h_l_draw hr (@pa_cons _ _ _ _ _ (pv 0) (@pa_cons _ _ _ _ _ pe_int pa_nil (by rfl)) (by rfl)))))) (pv 9)) (by rfl) (by first | exact .inl rfl | exact .inr rfl))) pss_nil)
  (@pss_cons _ _ _ _ _ (@ps_if _ _ _ _ _ _ _ _ (PW.pt (@pw_and _ _ _ _ _ _ _ (@pt_cmpR _ _ _ _ _ _ _ _ op_eq (pv 3) pe_int (nomark _)) (@pw_and1 _ _ _ _ (@pt_cmpR _ _ _ _ _ _ _ _ op_lt (pv 8) pe_int (nomark _))))) (@pss_one _ _ _ (@ps_set _ _ 9 _ _ _ _ sc_l_names.nd rfl (Or.inl rfl) (pe_slice sl_str (pv 4) po_none (po_some (@pe_op _ _ _ _ _ _ _ _ op_add (pv 8) pe_int))) (by rfl) (by first | exact .inl rfl | exact .inr rfl))) pss_nil)
  (@pss_one _ _ _ (ps_expr (pe_bm PySem.F.plainAttrs_list PySem.F.slot_list_append PySem.F.type_list_append mt_append (pv 7) (@pa_cons _ _ _ _ _ (pv 9) pa_nil (by rfl))))))))))
  (@pss_one _ _ _ (@ps_ret _ _ _ _ (pe_callB (call_sortSS rfl) rfl z_sorted PyProof.Rows.boot_sorted (@pa_cons _ _ _ _ _ (pe_callTy (call_setT rfl) rfl z_set PyProof.Rows.boot_set (@pa_cons _ _ _ _ _ (pv 7) pa_nil (by rfl))) pa_nil (by rfl))))))))))))), ?_⟩
  have gg : Grw a H H := Same.refl _
  refine ⟨_, rfl, a, 3, rfl, hp, posI rfl, ltI rfl, fun way H1 w0 w1 hp g1 => ?_⟩
  have gg := gg.trans g1
  refine ⟨rfl, ⟨.inl rfl, .inl rfl, .inl rfl, .inl rfl, .inl rfl, .inl rfl, .inl rfl, .inl rfl, .inr rfl, .inl rfl, trivial⟩, 8, rfl, leI rfl, ltI rfl, ?_⟩
  refine comp_range (fun i ys H' => PenAt H' a ∧ Grw a H H' ∧ ∃ cs : List Nat, cs.length = i ∧ (∀ c ∈ cs, 97 ≤ c ∧ c ≤ 122) ∧ ys = (cs.map fun c => (⟨#[c]⟩ : Str)).map V.str) ⟨hp, gg, [], rfl, (fun _ h => nomatch h), rfl⟩ ?_ ?_
  · rintro i ys H2 C hi ⟨hp2, g2, cs, hl, hm, rfl⟩ hC
    refine ⟨small_lt (by rw [List.length_map, List.length_map]; omega), Wk.refl _, _, rfl, _, rfl, a, 26, rfl, hp2, posI rfl, ltI rfl, fun d2 H3 y0 y1 hp3 g3 => ?_⟩
    obtain ⟨ch, hch, mch⟩ := abc_at y0 y1
    refine ⟨abc, d2, ch, rfl, rfl, by decide +kernel, hch, hC _ _ ⟨hp3, g2.trans g3, cs ++ [ch], by rw [List.length_append, hl]; rfl, ?_, by rw [List.map_append, List.map_append]; rfl⟩⟩
    intro c hc
    rcases List.mem_append.mp hc with h | h
    · exact hm c h
    · rw [List.mem_singleton.mp h]; exact mch
  rintro ys H2 ⟨hp, gg, cs, hl, hm, rfl⟩
  refine ⟨small_le (by rw [List.length_map, List.length_map]; omega), ?_⟩
  intro p1 n_p1
  generalize hz : upd _ p1 _ = H3
  obtain ⟨hp, gz, ne_p1, e_p1⟩ := laid_pen hz n_p1 hp
  clear hz
  have gg := gg.trans gz
  have hsum : ((cs.map fun c => (⟨#[c]⟩ : Str)).map (·.length)).sum = cs.length := by
    rw [List.map_map]
    clear hl hm hq e_p1
    induction cs with
    | nil => rfl
    | cons c r ih =>
      rw [List.map_cons, List.sum_cons, ih, List.length_cons]
      show 1 + r.length = _
      omega
  refine ⟨"", p1, cs.map fun c => (⟨#[c]⟩ : Str), rfl, rfl, hSqL e_p1, ?_, ?_⟩
  · rw [hsum, List.length_map]
    have : ("" : Str).length = 0 := by decide +kernel
    rw [this]
    omega
  have jc := join_cs cs
  have bl : Ltr (Txt.join "" (cs.map fun c => (⟨#[c]⟩ : Str))) := fun c hc => hm c (by rw [jc] at hc; exact hc)
  have b8 : (Txt.join "" (cs.map fun c => (⟨#[c]⟩ : Str))).cps.size = 8 := by rw [← Array.length_toList, jc]; exact hl
  clear e_p1 jc
  generalize Txt.join "" (cs.map fun c => (⟨#[c]⟩ : Str)) = bs at bl b8 ⊢
  refine ⟨_, rfl, a, 7, rfl, hp, posI rfl, ltI rfl, fun d3 H4 x0 x1 hp g4 => ⟨_, _, rfl, rfl, ?_⟩⟩
  have gg := gg.trans g4
  have x1 : d3 < 7 := x1
  refine ⟨_, rfl, _, rfl, _, _, rfl, rfl, a, 2 + d3 - 1, rfl, hp, by omega, by omega, fun at1 H5 y0 y1 hp g5 => ⟨leN rfl, ?_⟩⟩
  have gg := gg.trans g5
  have y1 : at1 < 2 + d3 - 1 := y1
  have g0 := gg
  intro l n_l
  generalize hz : upd _ l _ = H6
  obtain ⟨hp, gz, ne_l, e_l⟩ := laid_pen hz n_l hp
  clear hz
  have gg := gg.trans gz
  have nl := grw_none g0 n_l
  have bz : bs.length ≤ sizeLine := small_le (by show bs.cps.size ≤ _; omega)
  refine ⟨_, rfl, n, rfl, by omega, by omega, ?_⟩
  refine for_range (fun i σ H' => ∃ (o8 o9 : Option V) (zs : List Str), σ = [some (.ref a), some (.int n), some (.str abc), some (.int way), some (.str bs), some (.int (2 + d3)), some (.int at1), some (.ref l), o8, o9] ∧ zs.length = i ∧ (∀ z ∈ zs, Mrk z) ∧ hide a H' l = some (.lst (zs.map V.str)) ∧ PenAt H' a ∧ Grw a H H') ⟨_, _, [], rfl, rfl, (fun _ h => nomatch h), e_l, hp, gg⟩ ?_ ?_
  · rintro i σ H7 hi ⟨o8, o9, zs, rfl, hz, hm, el, hp, gg⟩
    have hi2 : (i : Int) < n := by omega
    obtain ⟨c1, hc1, m1⟩ := abc_at (i := (0 + (i : Int) + (2 + d3)) % 26) (Int.emod_nonneg _ (by decide)) (Int.emod_lt_of_pos _ (by decide))
    obtain ⟨c2, hc2, m2⟩ := abc_at (i := ((0 + (i : Int)) / 26 + at1) % 26) (Int.emod_nonneg _ (by decide)) (Int.emod_lt_of_pos _ (by decide))
    refine ⟨_, rfl, _, rfl, _, rfl, _, _, rfl, rfl, _, _, rfl, rfl, posI rfl, abc, _, c1, rfl, rfl, by decide +kernel, hc1, _, rfl, _, rfl, _, _, rfl, rfl, cdivI rfl rfl, _, rfl, _, _, rfl, rfl, _, _, rfl, rfl, posI rfl, abc, _, c2, rfl, rfl, by decide +kernel, hc2, _, _, rfl, rfl, small_le (leN rfl), ?_⟩
    have wl : Ltr ((⟨#[c1]⟩ : Str) ++ (⟨#[c2]⟩ : Str)) := (Ltr.one m1).app (Ltr.one m2)
    have w2 : ((⟨#[c1]⟩ : Str) ++ (⟨#[c2]⟩ : Str)).cps.size = 2 := rfl
    generalize (⟨#[c1]⟩ : Str) ++ (⟨#[c2]⟩ : Str) = w at wl w2 ⊢
    refine step_name ?_
    dsimp only
    refine seq_post (fun σ' H' => ∃ wd : Str, σ' = [some (.ref a), some (.int n), some (.str abc), some (.int way), some (.str bs), some (.int (2 + d3)), some (.int at1), some (.ref l), some (.int (0 + i)), some (.str wd)] ∧ H' = H7 ∧ Ltr wd ∧ 1 ≤ wd.cps.size ∧ wd.cps.size ≤ 8 ∧ (way ≠ 0 → wd.cps.size = 2)) ?_ ?_
    · intro nx hn
      refine ⟨_, rfl, rfl, _, rfl, ite2 (fun c => ?_) (fun c => ?_)⟩
      · have c := V.int.inj (of_decide_eq_true c)
        have k1 := slice_to (z := bs) (j := at1) y0 (by omega)
        have k2 := slice_size (z := bs) (i := at1 + 2) (j := 2 + d3) (by omega) (by omega)
        refine ⟨_, rfl, _, rfl, _, rfl, bs, rfl, bz, _, rfl, _, _, rfl, rfl, small_le ?_, _, rfl, _, rfl, _, _, rfl, rfl, _, rfl, _, rfl, _, rfl, bs, rfl, bz, _, _, rfl, rfl, small_le ?_, ?_⟩
        · show (Txt.slice bs none (some at1)).cps.size + w.cps.size ≤ _
          omega
        · show (Txt.slice bs none (some at1) ++ w).cps.size + (Txt.slice bs (some (at1 + 2)) (some (2 + d3))).cps.size ≤ _
          rw [app_size]
          omega
        refine hn _ _ ⟨_, rfl, rfl, ((bl.slice _ _).app wl).app (bl.slice _ _), ?_, ?_, fun q => absurd c q⟩
        · rw [app_size, app_size]; omega
        · rw [app_size, app_size]; omega
      · exact hn _ _ ⟨w, rfl, rfl, wl, by omega, by omega, fun _ => w2⟩
    rintro σ' H' ⟨wd, rfl, rfl, wl, v1, v8, v2⟩
    refine seq_post (fun σ' H' => ∃ wd : Str, σ' = [some (.ref a), some (.int n), some (.str abc), some (.int way), some (.str bs), some (.int (2 + d3)), some (.int at1), some (.ref l), some (.int (0 + i)), some (.str wd)] ∧ Mrk wd ∧ hide a H' l = some (.lst (zs.map V.str)) ∧ PenAt H' a ∧ Grw a H H') ?_ ?_
    · intro nx hn
      refine ⟨_, rfl, rfl, _, rfl, ite2 (fun c => ?_) (fun c => ?_)⟩
      · have c := V.int.inj (of_decide_eq_true c)
        have v2 := v2 (by omega)
        refine ⟨_, rfl, _, rfl, _, rfl, _, rfl, _, rfl, a, 7, rfl, hp, posI rfl, ltI rfl, fun d4 H8 z0 z1 hp g8 => ⟨_, _, rfl, rfl, _, rfl, bs, rfl, bz, _, rfl, _, _, rfl, rfl, small_le ?_, ?_⟩⟩
        · have z1 : d4 < 7 := z1
          have k2 := slice_size (z := bs) (i := at1) (j := at1 + d4) y0 (by omega)
          show (Txt.slice bs (some at1) (some (at1 + d4))).cps.size + wd.cps.size ≤ _
          omega
        have z1 : d4 < 7 := z1
        have k2 := slice_size (z := bs) (i := at1) (j := at1 + d4) y0 (by omega)
        have gg := gg.trans g8
        have el := g8 _ _ el
        refine hn _ _ ⟨_, rfl, mrk_of ((bl.slice _ _).app wl) ?_ ?_, el, hp, gg⟩
        · rw [app_size]; omega
        · rw [app_size]; omega
      · exact hn _ _ ⟨wd, rfl, mrk_of wl v1 v8, el, hp, gg⟩
    clear v1 v8 v2 wl wd el hp gg H'
    rintro σ' H' ⟨wd, rfl, wm, el, hp, gg⟩
    refine seq_post (fun σ' H'' => ∃ wd : Str, σ' = [some (.ref a), some (.int n), some (.str abc), some (.int way), some (.str bs), some (.int (2 + d3)), some (.int at1), some (.ref l), some (.int (0 + i)), some (.str wd)] ∧ Mrk wd ∧ H'' = H') ?_ ?_
    · intro nx hn
      refine ⟨_, rfl, rfl, _, rfl, ite2 (fun c => ?_) (fun c => ?_)⟩
      · refine ⟨_, rfl, _, _, rfl, rfl, _, rfl, ite2 (fun c => ?_) (fun c => ?_)⟩
        · have c := of_decide_eq_true c
          have k1 := slice_to (z := bs) (j := 0 + (i : Int) + 1) (by omega) (by omega)
          exact ⟨_, rfl, _, rfl, _, _, rfl, rfl, _, rfl, bs, rfl, bz, hn _ _ ⟨_, rfl, mrk_of (bl.slice _ _) (by omega) (by omega), rfl⟩⟩
        · exact hn _ _ ⟨wd, rfl, wm, rfl⟩
      · exact iteF (hn _ _ ⟨wd, rfl, wm, rfl⟩)
    rintro σ' H'' ⟨wd, rfl, wm, rfl⟩
    have l1 := (hide_some el).1
    refine ⟨_, rfl, .inl ⟨rfl, _, hSqL el⟩, _, rfl, l, _, .str wd, rfl, rfl, (hide_some el).2, small_lt (by rw [List.length_map]; omega), ?_⟩
    refine ⟨_, _, zs ++ [wd], rfl, by rw [List.length_append, hz]; rfl, ?_, by rw [List.map_append]; exact hide_put l1, hp.put l1, grw_put gg nl⟩
    intro z hz
    rcases List.mem_append.mp hz with h | h
    · exact hm z h
    · rw [List.mem_singleton.mp h]; exact wm
  · rintro σ H7 ⟨o8, o9, zs, rfl, hz, hm, el, hp, gg⟩
    obtain ⟨q1, q2, q3, q4⟩ := srtS_mrk hm
    have u4 := uniS_len zs
    refine ⟨_, rfl, l, zs, rfl, hSqL el, by omega, ?_⟩
    intro d n_d
    generalize hz : upd _ d _ = H8
    obtain ⟨hp, gz, ne_d, e_d⟩ := laid_pen hz n_d hp
    clear hz
    have gg := gg.trans gz
    have el := gz _ _ el
    refine ⟨d, uniS zs, rfl, (hide_some e_d).2, by omega, ?_⟩
    have g0 := gg
    intro r n_r
    generalize hz : upd _ r _ = H9
    obtain ⟨hp, gz, ne_r, e_r⟩ := laid_pen hz n_r hp
    clear hz
    have gg := gg.trans gz
    exact hq r _ _ q1 q2 q3 (by omega) (grw_none g0 n_r) e_r hp gg
end
end K37

namespace K37
open PySem L2
def spNet : Sp := fun vs H Q _ => ∃ (a : Addr), vs = [.ref a] ∧ PenAt H a ∧ ∀ (n : Addr) (ks : List Kn) (H' : Hp), NetOk ks → NetAt (hide a H') n ks → PenAt H' a → Grw a H H' → Q (.ref n) H'
section
variable {P : Program} {w : World} {K : PySem.W.Frag} {mg : Str → Option Value} {base : Heap} {f : Addr} {fd : FuncData}
theorem ok_net (h_l_draw : Has P w K mg base "_law_draw" 1 ["_law_pen_here", "_law_size"] spDraw) (h_l_names : Has P w K mg base "_law_names" 2 ["_law_pen_here", "_law_many"] spNames) (z_tuple : mg "tuple" = none)
    (F : Fun K "_law_net" "_law_net" s_l_net f fd) : FnOk P w K mg base CX0 3 f fd ["_law_pen_here"] spNet := by
  refine F.ok sc_l_net (fun vs H Q E h => ?_) (fun cdv A outer s H vs Q E hr h => ?_)
  · obtain ⟨a, rfl, _⟩ := h
    rfl
  obtain ⟨a, rfl, hp, hq⟩ := h
  refine ⟨_, (@pss_cons _ _ _ _ _ (@ps_set _ _ 1 _ _ _ _ sc_l_net.nd rfl (Or.inl rfl) (pe_callH h_l_draw hr (@pa_cons _ _ _ _ _ (pv 0) (@pa_cons _ _ _ _ _ pe_int pa_nil (by rfl)) (by rfl))) (by rfl) (by first | exact .inl rfl | exact .inr rfl))
  (@pss_cons _ _ _ _ _ (@ps_if _ _ _ _ _ _ _ _ (@pt_cmpR _ _ _ _ _ _ _ _ op_eq (pe_callH h_l_draw hr (@pa_cons _ _ _ _ _ (pv 0) (@pa_cons _ _ _ _ _ pe_int pa_nil (by rfl)) (by rfl))) pe_int (nomark _)) (@pss_one _ _ _ (@ps_set _ _ 1 _ _ _ _ sc_l_net.nd rfl (Or.inl rfl) (@pe_op _ _ _ _ _ _ _ _ op_add pe_int (pe_callH h_l_draw hr (@pa_cons _ _ _ _ _ (pv 0) (@pa_cons _ _ _ _ _ pe_int pa_nil (by rfl)) (by rfl)))) (by rfl) (by first | exact .inl rfl | exact .inr rfl))) pss_nil)
  (@pss_cons _ _ _ _ _ (@ps_set _ _ 2 _ _ _ _ sc_l_net.nd rfl (Or.inl rfl) (@pe_ix _ _ _ _ _ _ _ ix_list (@pe_lst _ _ _ _ (@pa_cons _ _ _ _ _ pe_int (@pa_cons _ _ _ _ _ pe_int (@pa_cons _ _ _ _ _ pe_int (@pa_cons _ _ _ _ _ pe_int pa_nil (by rfl)) (by rfl)) (by rfl)) (by rfl))) (pe_callH h_l_draw hr (@pa_cons _ _ _ _ _ (pv 0) (@pa_cons _ _ _ _ _ pe_int pa_nil (by rfl)) (by rfl))) (fun _ _ => rfl)) (by rfl) (by first | exact .inl rfl | exact .inr rfl))
  (@pss_cons _ _ _ _ _ (@ps_set _ _ 3 _ _ _ _ sc_l_net.nd rfl (Or.inl rfl) (pe_callH h_l_draw hr (@pa_cons _ _ _ _ _ (pv 0) (@pa_cons _ _ _ _ _ pe_int pa_nil (by rfl)) (by rfl))) (by rfl) (by first | exact .inl rfl | exact .inr rfl))
  (@pss_cons _ _ _ _ _ (@ps_set _ _ 4 _ _ _ _ sc_l_net.nd rfl (Or.inl rfl) (@pe_lst _ _ _ _ pa_nil) (by rfl) (by first | exact .inl rfl | exact .inr rfl))
  (@pss_cons _ _ _ _ _ (ps_for PassesOwn.never rfl (pi_list (pe_callH h_l_names hr (@pa_cons _ _ _ _ _ (pv 0) (@pa_cons _ _ _ _ _ (pv 1) pa_nil (by rfl)) (by rfl)))) (pg_name (i := 5) sc_l_net.nd rfl (Or.inl rfl))
  (@pss_one _ _ _ (ps_expr (pe_bm PySem.F.plainAttrs_list PySem.F.slot_list_append PySem.F.type_list_append mt_append (pv 4) (@pa_cons _ _ _ _ _ (@pe_tup _ _ _ _ _ (@pa_cons _ _ _ _ _ (pv 5) (@pa_cons _ _ _ _ _ (@pe_op _ _ _ _ _ _ _ _ op_mod (@pe_op _ _ _ _ _ _ _ _ op_add (pv 3) (pe_callH h_l_draw hr (@pa_cons _ _ _ _ _ (pv 0) (@pa_cons _ _ _ _ _ (pv 2) pa_nil (by rfl)) (by rfl)))) pe_int) (@pa_cons _ _ _ _ _ (@pe_op _ _ _ _ _ _ _ _ op_mod (@pe_op _ _ _ _ _ _ _ _ op_add (@pe_op _ _ _ _ _ _ _ _ op_mul pe_int (pv 3)) (pe_callH h_l_draw hr (@pa_cons _ _ _ _ _ (pv 0) (@pa_cons _ _ _ _ _ (pv 2) pa_nil (by rfl)) (by rfl)))) pe_int) pa_nil (by rfl)) (by rfl)) (by rfl))) pa_nil (by rfl))))))
  (@pss_one _ _ _ (@ps_ret _ _ _ _ (pe_callTy call_tuple_of rfl z_tuple PyProof.Rows.boot_tuple (@pa_cons _ _ _ _ _ (pv 4) pa_nil (by rfl))))))))))), ?_⟩
  have gg : Grw a H H := Same.refl _
  refine ⟨_, rfl, a, 9, rfl, hp, posI rfl, ltI rfl, fun many H1 x0 x1 hp g1 => ?_⟩
  have gg := gg.trans g1
  have x1 : many < 9 := x1
  refine step_name ?_
  dsimp only
  refine seq_post (fun σ' H' => ∃ many : Int, σ' = [some (.ref a), some (.int many), none, none, none, none] ∧ 0 ≤ many ∧ many ≤ 60 ∧ PenAt H' a ∧ Grw a H H') ?_ ?_
  · intro nx hn
    refine ⟨_, rfl, a, 8, rfl, hp, posI rfl, ltI rfl, fun d H2 _ _ hp g2 => ⟨rfl, _, rfl, ?_⟩⟩
    have gg := gg.trans g2
    refine ite2 (fun c => ?_) (fun c => ?_)
    · refine ⟨_, rfl, a, 41, rfl, hp, posI rfl, ltI rfl, fun d3 H3 y0 y1 hp g3 => ⟨_, _, rfl, rfl, ?_⟩⟩
      have gg := gg.trans g3
      have y1 : d3 < 41 := y1
      exact hn _ _ ⟨_, rfl, by omega, by omega, hp, gg⟩
    · exact hn _ _ ⟨_, rfl, by omega, by omega, hp, gg⟩
  rintro σ H2 ⟨many, rfl, m0, m60, hp, gg⟩
  refine ⟨leN rfl, ?_⟩
  intro q n_q
  generalize hz : upd _ q _ = H3
  obtain ⟨hp, gz, ne_q, e_q⟩ := laid_pen hz n_q hp
  clear hz
  have gg := gg.trans gz
  refine ⟨_, rfl, a, 4, rfl, hp, posI rfl, ltI rfl, fun d4 H4 x0 x1 hp g4 => ?_⟩
  have gg := gg.trans g4
  have e_q := g4 _ _ e_q
  obtain ⟨u, hu, mu⟩ := pick e_q x0 x1
  refine ⟨q, _, _, u, rfl, rfl, hSqL e_q, hu, ?_⟩
  obtain ⟨wide, rfl, k0, k1⟩ : ∃ k : Int, u = .int k ∧ 0 < k ∧ k ≤ 31 := by
    simp only [List.mem_cons, List.not_mem_nil, or_false] at mu
    rcases mu with rfl | rfl | rfl | rfl
    · exact ⟨_, rfl, by decide, by decide⟩
    · exact ⟨_, rfl, by decide, by decide⟩
    · exact ⟨_, rfl, by decide, by decide⟩
    · exact ⟨_, rfl, by decide, by decide⟩
  refine ⟨_, rfl, a, 31, rfl, hp, posI rfl, ltI rfl, fun first H5 y0 y1 hp g5 => ⟨leN rfl, ?_⟩⟩
  have gg := gg.trans g5
  have y1 : first < 31 := y1
  have g0 := gg
  intro l n_l
  generalize hz : upd _ l _ = H6
  obtain ⟨hp, gz, ne_l, e_l⟩ := laid_pen hz n_l hp
  clear hz
  have gg := gg.trans gz
  have nl := grw_none g0 n_l
  refine ⟨_, rfl, _, rfl, a, many, rfl, hp, m0, m60, fun r zs H7 hm nd rise hz fr er hp g7 => ⟨r, rfl, ⟨_, hSqL er⟩, ?_⟩⟩
  have lr : r ≠ l := fun q => by rw [q, e_l] at fr; cases fr
  have gg := gg.trans g7
  have e_l := g7 _ _ e_l
  refine for_list (fun i σ H' => ∃ (o5 : Option V) (ks : List Kn) (xs : List V), σ = [some (.ref a), some (.int many), some (.int wide), some (.int first), some (.ref l), o5] ∧ ks.map Kn.mark = zs.take i ∧ (∀ k ∈ ks, (0 ≤ k.row ∧ k.row ≤ 30) ∧ 0 ≤ k.col ∧ k.col ≤ 30) ∧ hide a H' l = some (.lst xs) ∧ TpsAt (hide a H') xs (ks.map Kn.vs) ∧ hide a H' r = some (.lst (zs.map V.str)) ∧ PenAt H' a ∧ Grw a H H') ⟨_, [], [], rfl, rfl, (fun _ h => nomatch h), e_l, .nil, er, hp, gg⟩ (fun i σ H' _ ⟨_, _, _, _, _, _, _, _, er, _, _⟩ => hSqL er) ?_ ?_
  · rintro i x σ H8 hx ⟨o5, ks, xs, rfl, hk, hb, el, tl, er, hp, gg⟩
    rw [List.getElem?_map] at hx
    obtain ⟨z, hz1, rfl⟩ := Option.map_eq_some_iff.mp hx
    have kl : ks.length ≤ 60 := by
      have := congrArg List.length hk
      rw [List.length_map, List.length_take] at this
      omega
    have xl := tl.length
    rw [List.length_map] at xl
    refine ⟨_, rfl, .inl ⟨rfl, _, hSqL el⟩, _, rfl, _, rfl, _, rfl, _, rfl, a, wide, rfl, hp, k0, by omega, fun d1 H9 u0 u1 hp g9 => ⟨_, _, rfl, rfl, _, _, rfl, rfl, posI rfl, ?_⟩⟩
    have gg := gg.trans g9
    have el := g9 _ _ el
    have er := g9 _ _ er
    have tl := tl.mono g9
    refine ⟨_, rfl, _, _, rfl, rfl, mulL rfl rfl, _, rfl, _, rfl, a, wide, rfl, hp, k0, by omega, fun d2 H10 v0 v1 hp g10 => ⟨_, _, rfl, rfl, _, _, rfl, rfl, posI rfl, leN rfl, ?_⟩⟩
    have gg := gg.trans g10
    have el := g10 _ _ el
    have er := g10 _ _ er
    have tl := tl.mono g10
    intro t n_t
    generalize hz : upd _ t _ = H11
    obtain ⟨hp, gz, ne_t, e_t⟩ := laid_pen hz n_t hp
    clear hz
    have gg := gg.trans gz
    have el := gz _ _ el
    have er := gz _ _ er
    have tl := tl.mono gz
    have l1 := (hide_some el).1
    refine ⟨l, _, _, rfl, rfl, (hide_some el).2, small_lt (by omega), ?_⟩
    refine ⟨_, ks ++ [⟨z, (first + d1) % 31, (5 * first + d2) % 31⟩], xs ++ [.ref t], rfl, ?_, ?_, hide_put l1, ?_, ?_, hp.put l1, grw_put gg nl⟩
    · rw [List.map_append, hk, take_one hz1]; rfl
    · intro k hk
      rcases List.mem_append.mp hk with h | h
      · exact hb k h
      · rw [List.mem_singleton.mp h]
        have b1 := Int.emod_nonneg (first + d1) (show (31 : Int) ≠ 0 by decide)
        have b2 := Int.emod_lt_of_pos (first + d1) (show (0 : Int) < 31 by decide)
        have b3 := Int.emod_nonneg (5 * first + d2) (show (31 : Int) ≠ 0 by decide)
        have b4 := Int.emod_lt_of_pos (5 * first + d2) (show (0 : Int) < 31 by decide)
        exact ⟨⟨b1, by show (first + d1) % 31 ≤ 30; omega⟩, b3, by show (5 * first + d2) % 31 ≤ 30; omega⟩
    · rw [hide_upd l1, List.map_append]
      refine TpsAt.updL el (tl.append (.cons e_t .nil))
    · rw [hide_upd l1, upd_ne lr]
      exact er
  · rintro σ H8 ⟨o5, ks, xs, rfl, hk, hb, el, tl, er, hp, gg⟩
    rw [List.length_map, List.take_length] at hk
    refine ⟨_, rfl, l, xs, rfl, .inl ⟨hSqL el, ?_⟩⟩
    intro n n_n
    generalize hz : upd _ n _ = H9
    obtain ⟨hp, gz, ne_n, e_n⟩ := laid_pen hz n_n hp
    clear hz
    have gg := gg.trans gz
    refine hq n ks _ ⟨fun k hk2 => hm _ (by rw [← hk]; exact List.mem_map.mpr ⟨k, hk2, rfl⟩), fun k hk2 => (hb k hk2).1, fun k hk2 => (hb k hk2).2, ?_, by rw [hk]; exact nd, by rw [hk]; exact rise⟩ ⟨xs, e_n, tl.mono gz⟩ hp gg
    have := congrArg List.length hk
    rw [List.length_map] at this
    omega
end
end K37

namespace K37
open PySem L2
def spStr : Sp := fun vs H Q _ => ∃ (a n : Addr) (ks : List Kn) (m : Int), vs = [.ref a, .ref n, .int m] ∧ PenAt H a ∧ NetAt (hide a H) n ks ∧ NetOk ks ∧ 0 ≤ m ∧ m ≤ 1000 ∧
  ∀ (r : Addr) (ts : List Th) (H' : Hp), (∀ t ∈ ts, t.word ∈ ks.map Kn.mark) → (ts.length : Int) ≤ m → hide a H r = none → StAt (hide a H') r ts → PenAt H' a → Grw a H H' → Q (.ref r) H'
def spMet : Sp := fun vs H Q _ => ∃ (n r : Addr) (ks : List Kn) (ts : List Th), vs = [.ref n, .ref r] ∧ NetAt H n ks ∧ StAt H r ts ∧ ks.length ≤ 60 ∧ ts.length ≤ 1000 ∧ ∀ (c : Addr) (H' : Hp), Same H H' → CelAt H' c (metR ks ts) (metC ks ts) → Q (.ref c) H'
section
variable {P : Program} {w : World} {K : PySem.W.Frag} {mg : Str → Option Value} {base : Heap} {f : Addr} {fd : FuncData}
theorem ok_str (h_l_draw : Has P w K mg base "_law_draw" 1 ["_law_pen_here", "_law_size"] spDraw) (z_len : mg "len" = none) (z_int : mg "int" = none) (z_range : mg "range" = none)
    (F : Fun K "_law_stream" "_law_stream" s_l_stream f fd) : FnOk P w K mg base CX0 2 f fd ["_law_pen_here", "_law_net_here", "_law_most"] spStr := by
  refine F.ok sc_l_stream (fun vs H Q E h => ?_) (fun cdv A outer s H vs Q E hr h => ?_)
  · obtain ⟨a, n, ks, m, rfl, _⟩ := h
    rfl
  obtain ⟨a, n, ks, m, rfl, hp, k_n, nok, m0, m1, hq⟩ := h
  refine ⟨_, (@pss_cons _ _ _ _ _ (@ps_set _ _ 3 _ _ _ _ sc_l_stream.nd rfl (Or.inl rfl) (@pe_lst _ _ _ _ pa_nil) (by rfl) (by first | exact .inl rfl | exact .inr rfl))
  (@pss_cons _ _ _ _ _ (ps_for PassesOwn.never rfl (pi_range1 rfl z_range (@pa_cons _ _ _ _ _ (@pe_op _ _ _ _ _ _ _ _ op_mul (pe_callH h_l_draw hr (@pa_cons _ _ _ _ _ (pv 0) (@pa_cons _ _ _ _ _ (@pe_op _ _ _ _ _ _ _ _ op_add (pv 2) pe_int) pa_nil (by rfl)) (by rfl))) (pe_callTy call_int1 rfl z_int PyProof.Rows.boot_int (@pa_cons _ _ _ _ _ (@pe_cmpR _ _ _ _ _ _ _ _ (op_neD hr.units) (pv 1) (@pe_tup _ _ _ _ _ pa_nil) (nomark _)) pa_nil (by rfl)))) pa_nil (by rfl))) (pg_name (i := 4) sc_l_stream.nd rfl (Or.inl rfl))
  (@pss_cons _ _ _ _ _ (@ps_set _ _ 5 _ _ _ _ sc_l_stream.nd rfl (Or.inl rfl) (@pe_ix _ _ _ _ _ _ _ ix_tup (@pe_ix _ _ _ _ _ _ _ ix_tup (pv 1) (pe_callH h_l_draw hr (@pa_cons _ _ _ _ _ (pv 0) (@pa_cons _ _ _ _ _ (pe_callB call_len_seq rfl z_len PySem.boot_len (@pa_cons _ _ _ _ _ (pv 1) pa_nil (by rfl))) pa_nil (by rfl)) (by rfl))) (fun _ _ => rfl)) pe_int (fun _ _ => rfl)) (by rfl) (by first | exact .inl rfl | exact .inr rfl))
  (@pss_cons _ _ _ _ _ (@ps_set _ _ 6 _ _ _ _ sc_l_stream.nd rfl (Or.inl rfl) (@pe_op _ _ _ _ _ _ _ _ op_mul (pe_callH h_l_draw hr (@pa_cons _ _ _ _ _ (pv 0) (@pa_cons _ _ _ _ _ pe_int pa_nil (by rfl)) (by rfl))) (@pe_ix _ _ _ _ _ _ _ ix_list (@pe_lst _ _ _ _ (@pa_cons _ _ _ _ _ pe_int (@pa_cons _ _ _ _ _ pe_int (@pa_cons _ _ _ _ _ (@pe_op _ _ _ _ _ _ _ _ op_pow pe_int pe_int) pa_nil (by rfl)) (by rfl)) (by rfl))) (pe_callH h_l_draw hr (@pa_cons _ _ _ _ _ (pv 0) (@pa_cons _ _ _ _ _ pe_int pa_nil (by rfl)) (by rfl))) (fun _ _ => rfl))) (by rfl) (by first | exact .inl rfl | exact .inr rfl))
  (@pss_cons _ _ _ _ _ (@ps_set _ _ 7 _ _ _ _ sc_l_stream.nd rfl (Or.inl rfl) (@pe_op _ _ _ _ _ _ _ _ op_add pe_int (@pe_op _ _ _ _ _ _ _ _ op_mul (pe_callH h_l_draw hr (@pa_cons _ _ _ _ _ (pv 0) (@pa_cons _ _ _ _ _ pe_int pa_nil (by rfl)) (by rfl))) (@pe_ix _ _ _ _ _ _ _ ix_list (@pe_lst _ _ _ _ (@pa_cons _ _ _ _ _ pe_int (@pa_cons _ _ _ _ _ (@pe_op _ _ _ _ _ _ _ _ op_pow pe_int pe_int) pa_nil (by rfl)) (by rfl))) (pe_callH h_l_draw hr (@pa_cons _ _ _ _ _ (pv 0) (@pa_cons _ _ _ _ _ pe_int pa_nil (by rfl)) (by rfl))) (fun _ _ => rfl)))) (by rfl) (by first | exact .inl rfl | exact .inr rfl))
  (@pss_one _ _ _ (ps_expr (pe_bm PySem.F.plainAttrs_list PySem.F.slot_list_append PySem.F.type_list_append mt_append (pv 3) (@pa_cons _ _ _ _ _ (@pe_tup _ _ _ _ _ (@pa_cons _ _ _ _ _ (pe_callH h_l_draw hr (@pa_cons _ _ _ _ _ (pv 0) (@pa_cons _ _ _ _ _ pe_int pa_nil (by rfl)) (by rfl))) (@pa_cons _ _ _ _ _ (pv 5) (@pa_cons _ _ _ _ _ (pv 6) (@pa_cons _ _ _ _ _ (pv 7) pa_nil (by rfl)) (by rfl)) (by rfl)) (by rfl))) pa_nil (by rfl)))))))))
  (@pss_one _ _ _ (@ps_ret _ _ _ _ (pv 3))))), ?_⟩
  have gg : Grw a H H := Same.refl _
  refine ⟨leN rfl, ?_⟩
  intro l n_l
  generalize hz : upd _ l _ = H1
  obtain ⟨hp, gz, ne_l, e_l⟩ := laid_pen hz n_l hp
  clear hz
  have gg := gg.trans gz
  have k_n := k_n.mono gz
  have nl := grw_none (Same.refl (hide a H)) n_l
  refine ⟨_, rfl, _, rfl, _, _, rfl, rfl, a, m + 1, rfl, hp, by omega, by omega, fun d H2 x0 x1 hp g2 => ⟨_, rfl, leN rfl, ?_⟩⟩
  have gg := gg.trans g2
  have k_n := k_n.mono g2
  have e_l := g2 _ _ e_l
  intro p n_p
  generalize hz : upd _ p _ = H3
  obtain ⟨hp, gz, ne_p, e_p⟩ := laid_pen hz n_p hp
  clear hz
  have gg := gg.trans gz
  have k_n := k_n.mono gz
  have e_l := gz _ _ e_l
  refine ⟨_, _, k_n.unhide.dv, .tup (hide_some e_p).2 .nil, shaped_of (net_lay fun k hk => (nok.mw k hk).ok) (by decide), by decide, .inr ⟨_, rfl, ?_⟩⟩
  rw [eqv_tup_nil]
  have x1 : d < m + 1 := x1
  obtain ⟨e, he, hek⟩ : ∃ e : Int, (if (!(ks.map Kn.D).isEmpty) = true then (1 : Int) else 0) = e ∧ (e = 0 ∨ (e = 1 ∧ 0 < ks.length)) := by
    cases ks with
    | nil => exact ⟨0, rfl, .inl rfl⟩
    | cons k ks => exact ⟨1, rfl, .inr ⟨rfl, by simp⟩⟩
  rw [he]
  have de : d * e ≤ m ∧ 0 ≤ d * e ∧ (0 < d * e → 0 < ks.length) := by
    rcases hek with rfl | ⟨rfl, h⟩
    · rw [Int.mul_zero]; exact ⟨m0, Int.le_refl _, fun q => absurd q (by decide)⟩
    · rw [Int.mul_one]; exact ⟨by omega, x0, fun _ => h⟩
  refine ⟨_, _, rfl, rfl, Or.inl ⟨by omega, by omega⟩, d * e, rfl, by omega, by omega, ?_⟩
  refine for_range (fun i σ H' => ∃ (o4 o5 o6 o7 : Option V) (ts : List Th) (xs : List V), σ = [some (.ref a), some (.ref n), some (.int m), some (.ref l), o4, o5, o6, o7] ∧ ts.length = i ∧ (∀ t ∈ ts, t.word ∈ ks.map Kn.mark) ∧ hide a H' l = some (.lst xs) ∧ TpsAt (hide a H') xs (ts.map Th.vs) ∧ NetAt (hide a H') n ks ∧ PenAt H' a ∧ Grw a H H') ⟨_, _, _, _, [], [], rfl, rfl, (fun _ h => nomatch h), e_l, .nil, k_n, hp, gg⟩ ?_ ?_
  · rintro i σ H4 hi ⟨o4, o5, o6, o7, ts, xs, rfl, hl, hm, el, tl, k_n, hp, gg⟩
    have kpos : 0 < ks.length := de.2.2 (by omega)
    have xl := tl.length
    rw [List.length_map] at xl
    obtain ⟨ns, en, tn⟩ := id k_n
    have nsl := tn.length
    rw [List.length_map] at nsl
    refine ⟨_, rfl, _, rfl, _, rfl, n, ns, rfl, .inr (hSqT en), a, _, rfl, hp, by omega, by have := nok.len; omega, fun d1 H5 u0 u1 hp g5 => ?_⟩
    have gg := gg.trans g5
    have el := g5 _ _ el
    have k_n := k_n.mono g5
    have en := g5 _ _ en
    have tl := tl.mono g5
    have tn := tn.mono g5
    obtain ⟨v, hv, mv⟩ := atI_in (xs := ns) u0 u1
    obtain ⟨j, hj⟩ := List.mem_iff_getElem?.mp mv
    obtain ⟨c, k, rfl, _, mk, ec⟩ := tn.getM hj
    refine ⟨n, ns, _, _, rfl, rfl, hSqT en, hv, c, _, _, _, rfl, rfl, hSqT ec, at3_0 _ _ _, ?_⟩
    refine ⟨_, rfl, a, 1000, rfl, hp, posI rfl, ltI rfl, fun d2 H6 v0 v1 hp g6 => ⟨_, _, rfl, rfl, powI rfl rfl rfl, leN rfl, ?_⟩⟩
    have gg := gg.trans g6
    have el := g6 _ _ el
    have k_n := k_n.mono g6
    have tl := tl.mono g6
    intro q n_q
    generalize hz : upd _ q _ = H7
    obtain ⟨hp, gz, ne_q, e_q⟩ := laid_pen hz n_q hp
    clear hz
    have gg := gg.trans gz
    have el := gz _ _ el
    have k_n := k_n.mono gz
    have tl := tl.mono gz
    refine ⟨_, rfl, a, 3, rfl, hp, posI rfl, ltI rfl, fun d3 H8 w0 w1 hp g8 => ?_⟩
    have gg := gg.trans g8
    have el := g8 _ _ el
    have k_n := k_n.mono g8
    have e_q := g8 _ _ e_q
    have tl := tl.mono g8
    obtain ⟨u, hu, mu⟩ := pick e_q w0 w1
    obtain ⟨f1, rfl⟩ : ∃ f1 : Int, u = .int f1 := by
      simp only [List.mem_cons, List.not_mem_nil, or_false] at mu
      rcases mu with rfl | rfl | rfl
      · exact ⟨_, rfl⟩
      · exact ⟨_, rfl⟩
      · exact ⟨_, rfl⟩
    have v1 : d2 < 1000 := v1
    refine ⟨q, _, _, _, rfl, rfl, hSqL e_q, hu, _, _, rfl, rfl, Or.inl ⟨by omega, by omega⟩, ?_⟩
    refine ⟨_, rfl, a, 9, rfl, hp, posI rfl, ltI rfl, fun d4 H9 y0 y1 hp g9 => ⟨_, _, rfl, rfl, powI rfl rfl rfl, leN rfl, ?_⟩⟩
    have gg := gg.trans g9
    have el := g9 _ _ el
    have k_n := k_n.mono g9
    have tl := tl.mono g9
    intro q2 n_q2
    generalize hz : upd _ q2 _ = H10
    obtain ⟨hp, gz, ne_q2, e_q2⟩ := laid_pen hz n_q2 hp
    clear hz
    have gg := gg.trans gz
    have el := gz _ _ el
    have k_n := k_n.mono gz
    have tl := tl.mono gz
    refine ⟨_, rfl, a, 2, rfl, hp, posI rfl, ltI rfl, fun d5 H11 z0 z1 hp g11 => ?_⟩
    have gg := gg.trans g11
    have el := g11 _ _ el
    have k_n := k_n.mono g11
    have e_q2 := g11 _ _ e_q2
    have tl := tl.mono g11
    obtain ⟨u2, hu2, mu2⟩ := pick e_q2 z0 z1
    obtain ⟨f2, rfl⟩ : ∃ f2 : Int, u2 = .int f2 := by
      simp only [List.mem_cons, List.not_mem_nil, or_false] at mu2
      rcases mu2 with rfl | rfl
      · exact ⟨_, rfl⟩
      · exact ⟨_, rfl⟩
    have y1 : d4 < 9 := y1
    refine ⟨q2, _, _, _, rfl, rfl, hSqL e_q2, hu2, _, _, rfl, rfl, Or.inl ⟨by omega, by omega⟩, _, _, rfl, rfl, ?_⟩
    refine ⟨_, rfl, .inl ⟨rfl, _, hSqL el⟩, _, rfl, a, 40, rfl, hp, posI rfl, ltI rfl, fun d6 H12 _ _ hp g12 => ⟨_, rfl, _, rfl, _, rfl, leN rfl, ?_⟩⟩
    have gg := gg.trans g12
    have el := g12 _ _ el
    have k_n := k_n.mono g12
    have tl := tl.mono g12
    intro t n_t
    generalize hz : upd _ t _ = H13
    obtain ⟨hp, gz, ne_t, e_t⟩ := laid_pen hz n_t hp
    clear hz
    have gg := gg.trans gz
    have el := gz _ _ el
    have k_n := k_n.mono gz
    have tl := tl.mono gz
    have l1 := (hide_some el).1
    refine ⟨l, _, _, rfl, rfl, (hide_some el).2, small_lt (by omega), ?_⟩
    refine ⟨_, _, _, _, ts ++ [⟨d6, k.mark, d2 * f1, 1 + d4 * f2⟩], xs ++ [.ref t], rfl, by rw [List.length_append, hl]; rfl, ?_, hide_put l1, ?_, ?_, hp.put l1, grw_put gg nl⟩
    · intro t ht
      rcases List.mem_append.mp ht with h | h
      · exact hm t h
      · rw [List.mem_singleton.mp h]
        exact List.mem_map.mpr ⟨k, mk, rfl⟩
    · rw [hide_upd l1, List.map_append]
      exact TpsAt.updL el (tl.append (.cons e_t .nil))
    · rw [hide_upd l1]
      exact k_n.updL el
  · rintro σ H4 ⟨o4, o5, o6, o7, ts, xs, rfl, hl, hm, el, tl, k_n, hp, gg⟩
    exact ⟨_, rfl, hq l ts _ hm (by omega) nl ⟨xs, el, tl⟩ hp gg⟩
theorem ok_met (z_set : mg "set" = none) (z_sorted : mg "sorted" = none) (z_tuple : mg "tuple" = none) (F : Fun K "_law_met" "_law_met" s_l_met f fd) : FnOk P w K mg base CX0 1 f fd ["_law_net_here", "_law_stream_here"] spMet := by
  refine F.ok sc_l_met (fun vs H Q E h => ?_) (fun cdv A outer s H vs Q E hr h => ?_)
  · obtain ⟨n, r, ks, ts, rfl, _⟩ := h
    rfl
  obtain ⟨n, r, ks, ts, rfl, ⟨ns, en, tn⟩, ⟨xs, er, tr⟩, k60, t1000, hq⟩ := h
  refine ⟨_, (@pss_cons _ _ _ _ _ (@ps_set _ _ 2 _ _ _ _ sc_l_met.nd rfl (Or.inr rfl) (pe_comp (own := ["_law_thing"]) (CompOk.of rfl rfl (by rfl) (by rfl) (by rfl)) (pi_list (pv 1))
    (fun _ _ _ _ _ => (pg_name (i := 0) nd_l_met_68_17 rfl (Or.inl rfl) (Or.inr rfl))) (fun _ _ _ _ _ => pts_nil)
    (fun _ _ _ _ _ => (@pe_ix _ _ _ _ _ _ _ (ix_tupK K rfl) (pv 0) pe_int (fun _ _ => rfl)))) (by rfl) (by first | exact .inl rfl | exact .inr rfl))
  (@pss_cons _ _ _ _ _ (ps_setC (i := 3) sc_l_met.nd rfl rfl (own := ["_law_known"]) (CompOk.of rfl rfl (by rfl) (by rfl) (by rfl)) (pi_tup (pv 0))
    (fun _ _ _ _ _ => (pg_name (i := 0) nd_l_met_69_16 rfl (Or.inl rfl) (Or.inr rfl))) (fun _ _ _ _ _ => (pts_one (@pt_cmpR _ _ _ _ _ _ _ _ (op_in_seqK K rfl) (@pe_ix _ _ _ _ _ _ _ (ix_tupK K rfl) (pv 0) pe_int (fun _ _ => rfl)) (pv 3) (by with_unfolding_all rfl))))
    (fun _ _ _ _ _ => (@pe_ix _ _ _ _ _ _ _ (ix_tupK K rfl) (pv 0) pe_int (fun _ _ => rfl))))
  (@pss_cons _ _ _ _ _ (ps_setC (i := 4) sc_l_met.nd rfl rfl (own := ["_law_known"]) (CompOk.of rfl rfl (by rfl) (by rfl) (by rfl)) (pi_tup (pv 0))
    (fun _ _ _ _ _ => (pg_name (i := 0) nd_l_met_70_19 rfl (Or.inl rfl) (Or.inr rfl))) (fun _ _ _ _ _ => (pts_one (@pt_cmpR _ _ _ _ _ _ _ _ (op_in_seqK K rfl) (@pe_ix _ _ _ _ _ _ _ (ix_tupK K rfl) (pv 0) pe_int (fun _ _ => rfl)) (pv 3) (by with_unfolding_all rfl))))
    (fun _ _ _ _ _ => (@pe_ix _ _ _ _ _ _ _ (ix_tupK K rfl) (pv 0) pe_int (fun _ _ => rfl))))
  (@pss_one _ _ _ (@ps_ret _ _ _ _ (@pe_tup _ _ _ _ _ (@pa_cons _ _ _ _ _ (pe_callTy call_tuple_of rfl z_tuple PyProof.Rows.boot_tuple (@pa_cons _ _ _ _ _ (pe_callB (call_sortSI rfl) rfl z_sorted PyProof.Rows.boot_sorted (@pa_cons _ _ _ _ _ (pe_callTy (call_setN rfl) rfl z_set PyProof.Rows.boot_set (@pa_cons _ _ _ _ _ (pv 3) pa_nil (by rfl))) pa_nil (by rfl))) pa_nil (by rfl))) (@pa_cons _ _ _ _ _ (pe_callTy call_tuple_of rfl z_tuple PyProof.Rows.boot_tuple (@pa_cons _ _ _ _ _ (pe_callB (call_sortSI rfl) rfl z_sorted PyProof.Rows.boot_sorted (@pa_cons _ _ _ _ _ (pe_callTy (call_setN rfl) rfl z_set PyProof.Rows.boot_set (@pa_cons _ _ _ _ _ (pv 4) pa_nil (by rfl))) pa_nil (by rfl))) pa_nil (by rfl))) pa_nil (by rfl)) (by rfl)))))))), ?_⟩
  have gg : Same H H := fun _ _ h => h
  refine ⟨_, rfl, r, rfl, ⟨_, SqL.of er⟩, ?_⟩
  refine comp_rL (fun _ => true) (fun t => .str t.word) Th.vs er tr (by omega) ?_ ?_
  · rintro t c ys C mt ec h1 _
    exact ⟨Wk.refl _, _, rfl, _, _, _, _, rfl, rfl, SqT.of ec, rfl, h1 rfl⟩
  rw [filter_all, show (ts.map fun t => V.str t.word) = (ts.map Th.word).map V.str by rw [List.map_map]; rfl]
  intro q1 n_q1
  generalize hz : upd _ q1 _ = H1
  have gz := laid_same hz n_q1
  have e_q1 := laid_at hz
  clear hz
  have gg := gg.trans gz
  have en := gz _ _ en
  have tn := tn.mono gz
  refine ⟨_, rfl, n, rfl, ⟨_, SqT.of en⟩, ?_⟩
  refine comp_rT (metP ts) (fun k => .int k.row) Kn.vs en tn (by omega) ?_ ?_
  · rintro k c ys C mk ec y no
    refine ⟨Wk.refl _, _, rfl, _, _, _, _, rfl, rfl, SqT.of ec, at3_0 _ _ _, _, rfl, q1, _, rfl, .inl (SqL.of e_q1), rfl, flat_strs _, _, rfl, ?_⟩
    rw [if_neg Bool.false_ne_true, inV_strs]
    exact ite2 (fun c1 => ⟨_, rfl, _, _, _, _, rfl, rfl, SqT.of ec, at3_1 _ _ _, y c1⟩) fun c1 => no (Bool.eq_false_iff.mpr c1)
  rw [show ((ks.filter (metP ts)).map fun k => V.int k.row) = ((ks.filter (metP ts)).map Kn.row).map V.int by rw [List.map_map]; rfl]
  intro q2 n_q2
  generalize hz : upd _ q2 _ = H2
  have gz := laid_same hz n_q2
  have e_q2 := laid_at hz
  clear hz
  have gg := gg.trans gz
  have en := gz _ _ en
  have e_q1 := gz _ _ e_q1
  have tn := tn.mono gz
  refine ⟨_, rfl, n, rfl, ⟨_, SqT.of en⟩, ?_⟩
  refine comp_rT (metP ts) (fun k => .int k.col) Kn.vs en tn (by omega) ?_ ?_
  · rintro k c ys C mk ec y no
    refine ⟨Wk.refl _, _, rfl, _, _, _, _, rfl, rfl, SqT.of ec, at3_0 _ _ _, _, rfl, q1, _, rfl, .inl (SqL.of e_q1), rfl, flat_strs _, _, rfl, ?_⟩
    rw [if_neg Bool.false_ne_true, inV_strs]
    exact ite2 (fun c1 => ⟨_, rfl, _, _, _, _, rfl, rfl, SqT.of ec, at3_2 _ _ _, y c1⟩) fun c1 => no (Bool.eq_false_iff.mpr c1)
  rw [show ((ks.filter (metP ts)).map fun k => V.int k.col) = ((ks.filter (metP ts)).map Kn.col).map V.int by rw [List.map_map]; rfl]
  intro q3 n_q3
  generalize hz : upd _ q3 _ = H3
  have gz := laid_same hz n_q3
  have e_q3 := laid_at hz
  clear hz
  have gg := gg.trans gz
  have e_q2 := gz _ _ e_q2
  have b1 := metu_len Kn.row ks (metP ts)
  have b2 := metu_len Kn.col ks (metP ts)
  have b3 := List.length_filter_le (metP ts) ks
  refine ⟨_, rfl, q2, _, rfl, SqL.of e_q2, by rw [List.length_map]; omega, ?_⟩
  intro s1 n_s1
  generalize hz : upd _ s1 _ = H4
  have gz := laid_same hz n_s1
  have e_s1 := laid_at hz
  clear hz
  have gg := gg.trans gz
  have e_q3 := gz _ _ e_q3
  refine ⟨s1, _, rfl, e_s1, by omega, ?_⟩
  intro l1 n_l1
  generalize hz : upd _ l1 _ = H5
  have gz := laid_same hz n_l1
  have e_l1 := laid_at hz
  clear hz
  have gg := gg.trans gz
  have e_q3 := gz _ _ e_q3
  refine ⟨l1, _, rfl, .inl ⟨SqL.of e_l1, ?_⟩⟩
  intro t1 n_t1
  generalize hz : upd _ t1 _ = H6
  have gz := laid_same hz n_t1
  have e_t1 := laid_at hz
  clear hz
  have gg := gg.trans gz
  have e_q3 := gz _ _ e_q3
  refine ⟨_, rfl, q3, _, rfl, SqL.of e_q3, by rw [List.length_map]; omega, ?_⟩
  intro s2 n_s2
  generalize hz : upd _ s2 _ = H7
  have gz := laid_same hz n_s2
  have e_s2 := laid_at hz
  clear hz
  have gg := gg.trans gz
  have e_t1 := gz _ _ e_t1
  refine ⟨s2, _, rfl, e_s2, by omega, ?_⟩
  intro l2 n_l2
  generalize hz : upd _ l2 _ = H8
  have gz := laid_same hz n_l2
  have e_l2 := laid_at hz
  clear hz
  have gg := gg.trans gz
  have e_t1 := gz _ _ e_t1
  refine ⟨l2, _, rfl, .inl ⟨SqL.of e_l2, ?_⟩⟩
  intro t2 n_t2
  generalize hz : upd _ t2 _ = H9
  have gz := laid_same hz n_t2
  have e_t2 := laid_at hz
  clear hz
  have gg := gg.trans gz
  have e_t1 := gz _ _ e_t1
  refine ⟨leN rfl, ?_⟩
  intro c n_c
  generalize hz : upd _ c _ = H10
  have gz := laid_same hz n_c
  have e_c := laid_at hz
  clear hz
  have gg := gg.trans gz
  have e_t1 := gz _ _ e_t1
  have e_t2 := gz _ _ e_t2
  exact hq c _ gg ⟨t1, t2, e_c, e_t1, e_t2⟩
end
end K37

namespace K37
open PySem L2
def spSome : Sp := fun vs H Q _ => ∃ (a l : Addr) (ns : List Int), vs = [.ref a, .ref l] ∧ PenAt H a ∧ hide a H l = some (.lst (ns.map V.int)) ∧ ns.length ≤ 62 ∧
  ∀ (t : Addr) (ms : List Int) (H' : Hp), Asc ms → ms.length ≤ 62 → hide a H' t = some (.tup (ms.map V.int)) → PenAt H' a → Grw a H H' → Q (.ref t) H'
def spCells : Sp := fun vs H Q _ => ∃ (a n : Addr) (ks : List Kn), vs = [.ref a, .ref n] ∧ PenAt H a ∧ NetAt (hide a H) n ks ∧ NetOk ks ∧
  ∀ (c : Addr) (rs cs : List Int) (H' : Hp), CelOk rs cs → CelAt (hide a H') c rs cs → PenAt H' a → Grw a H H' → Q (.ref c) H'
section
variable {P : Program} {w : World} {K : PySem.W.Frag} {mg : Str → Option Value} {base : Heap} {f : Addr} {fd : FuncData}
theorem ok_some (h_l_draw : Has P w K mg base "_law_draw" 1 ["_law_pen_here", "_law_size"] spDraw) (z_set : mg "set" = none) (z_sorted : mg "sorted" = none) (z_tuple : mg "tuple" = none)
    (F : Fun K "_law_some" "_law_some" s_l_some f fd) : FnOk P w K mg base CX0 2 f fd ["_law_pen_here", "_law_numbers"] spSome := by
  refine F.ok sc_l_some (fun vs H Q E h => ?_) (fun cdv A outer s H vs Q E hr h => ?_)
  · obtain ⟨a, l, ns, rfl, _⟩ := h
    rfl
  obtain ⟨a, l, ns, rfl, hp, el, n62, hq⟩ := h
  refine ⟨_, (@pss_cons _ _ _ _ _ (ps_setC (i := 2) sc_l_some.nd rfl rfl (own := ["_law_number"]) (CompOk.of rfl rfl (by rfl) (by rfl) (by rfl)) (pi_list (pe_callB (call_sortSI rfl) rfl z_sorted PyProof.Rows.boot_sorted (@pa_cons _ _ _ _ _ (pe_callTy (call_setN rfl) rfl z_set PyProof.Rows.boot_set (@pa_cons _ _ _ _ _ (pv 1) pa_nil (by rfl))) pa_nil (by rfl))))
    (fun _ _ _ _ _ => (pg_name (i := 0) nd_l_some_73_17 rfl (Or.inl rfl) (Or.inr rfl))) (fun _ _ _ _ _ => (pts_one (@pt_cmpR _ _ _ _ _ _ _ _ op_gt (pe_callH h_l_draw hr (@pa_cons _ _ _ _ _ (pv 1) (@pa_cons _ _ _ _ _ pe_int pa_nil (by rfl)) (by rfl))) pe_int (nomark _))))
    (fun _ _ _ _ _ => (pv 0)))
  (@pss_one _ _ _ (@ps_ret _ _ _ _ (pe_callTy call_tuple_of rfl z_tuple PyProof.Rows.boot_tuple (@pa_cons _ _ _ _ _ (pv 2) pa_nil (by rfl)))))), ?_⟩
  have gg : Grw a H H := Same.refl _
  have u1 := uniI_len ns
  refine ⟨_, rfl, l, ns, rfl, hSqL el, by omega, ?_⟩
  intro s1 n_s1
  generalize hz : upd _ s1 _ = H1
  obtain ⟨hp, gz, ne_s1, e_s1⟩ := laid_pen hz n_s1 hp
  clear hz
  have gg := gg.trans gz
  refine ⟨s1, _, rfl, (hide_some e_s1).2, by omega, ?_⟩
  intro q n_q
  generalize hz : upd _ q _ = H2
  obtain ⟨hp, gz, ne_q, e_q⟩ := laid_pen hz n_q hp
  clear hz
  have gg := gg.trans gz
  refine ⟨q, rfl, ⟨_, hSqL e_q⟩, ?_⟩
  have ul : (srtI (uniI ns)).length ≤ 62 := by have := uni_len ns; unfold uni at this; omega
  refine comp_list (xs := (srtI (uniI ns)).map V.int) (fun i ys H' => ∃ ms : List Int, ys = ms.map V.int ∧ ms.Sublist ((uni ns).take i) ∧ hide a H' q = some (.lst ((srtI (uniI ns)).map V.int)) ∧ PenAt H' a ∧ Grw a H H') ⟨[], rfl, List.Sublist.refl _, e_q, hp, gg⟩ (fun i ys H' _ ⟨_, _, _, e, _, _⟩ => hSqL e) ?_ ?_
  · rintro i x ys H3 C hx ⟨ms, rfl, sb, eq, hp, gg⟩ hC
    rw [List.getElem?_map] at hx
    obtain ⟨y, hy, rfl⟩ := Option.map_eq_some_iff.mp hx
    have sl := sb.length_le
    rw [List.length_take] at sl
    have sl2 : (uni ns).length ≤ 62 := ul
    refine ⟨small_lt (by rw [List.length_map]; omega), Wk.refl _, _, rfl, a, 3, rfl, hp, posI rfl, ltI rfl, fun d H4 _ _ hp g4 => ⟨_, _, rfl, rfl, _, rfl, ?_⟩⟩
    have gg := gg.trans g4
    have eq := g4 _ _ eq
    refine ite2 (fun c => ⟨_, rfl, hC _ _ ⟨ms ++ [y], by rw [List.map_append]; rfl, ?_, eq, hp, gg⟩⟩) (fun c => hC _ _ ⟨ms, rfl, ?_, eq, hp, gg⟩)
    · rw [take_one (show (uni ns)[i]? = some y from hy)]
      exact sb.append (List.Sublist.refl _)
    · rw [take_one (show (uni ns)[i]? = some y from hy)]
      exact sb.trans (List.sublist_append_left _ _)
  · rintro ys H3 ⟨ms, rfl, sb, eq, hp, gg⟩
    have sl := sb.length_le
    rw [List.length_take] at sl
    have sl2 : (uni ns).length ≤ 62 := ul
    refine ⟨small_le (by rw [List.length_map]; omega), ?_⟩
    intro r n_r
    generalize hz : upd _ r _ = H4
    obtain ⟨hp, gz, ne_r, e_r⟩ := laid_pen hz n_r hp
    clear hz
    have gg := gg.trans gz
    refine ⟨_, rfl, r, _, rfl, .inl ⟨hSqL e_r, ?_⟩⟩
    intro t n_t
    generalize hz : upd _ t _ = H5
    obtain ⟨hp, gz, ne_t, e_t⟩ := laid_pen hz n_t hp
    clear hz
    have gg := gg.trans gz
    exact hq t ms _ (Asc.sub (asc_uni ns) (sb.trans (List.take_sublist _ _))) (by omega) e_t hp gg
theorem ok_cells (h_l_draw : Has P w K mg base "_law_draw" 1 ["_law_pen_here", "_law_size"] spDraw) (h_l_stream : Has P w K mg base "_law_stream" 2 ["_law_pen_here", "_law_net_here", "_law_most"] spStr) (h_l_met : Has P w K mg base "_law_met" 1 ["_law_net_here", "_law_stream_here"] spMet) (h_l_some : Has P w K mg base "_law_some" 2 ["_law_pen_here", "_law_numbers"] spSome)
    (z_list : mg "list" = none) (z_range : mg "range" = none) (z_set : mg "set" = none) (z_sorted : mg "sorted" = none) (z_tuple : mg "tuple" = none)
    (F : Fun K "_law_cells" "_law_cells" s_l_cells f fd) : FnOk P w K mg base CX0 3 f fd ["_law_pen_here", "_law_net_here"] spCells := by
  refine F.ok sc_l_cells (fun vs H Q E h => ?_) (fun cdv A outer s H vs Q E hr h => ?_)
  · obtain ⟨a, n, ks, rfl, _⟩ := h
    rfl
  obtain ⟨a, n, ks, rfl, hp, k_n, nok, hq⟩ := h
  have k60 := nok.len
  refine ⟨_, (@pss_cons _ _ _ _ _ (@ps_set _ _ 2 _ _ _ _ sc_l_cells.nd rfl (Or.inl rfl) (pe_callH h_l_draw hr (@pa_cons _ _ _ _ _ (pv 0) (@pa_cons _ _ _ _ _ pe_int pa_nil (by rfl)) (by rfl))) (by rfl) (by first | exact .inl rfl | exact .inr rfl))
  (@pss_cons _ _ _ _ _ (@ps_set _ _ 3 _ _ _ _ sc_l_cells.nd rfl (Or.inl rfl) (pe_callH h_l_met hr (@pa_cons _ _ _ _ _ (pv 1) (@pa_cons _ _ _ _ _ (pe_callH h_l_stream hr (@pa_cons _ _ _ _ _ (pv 0) (@pa_cons _ _ _ _ _ (pv 1) (@pa_cons _ _ _ _ _ (@pe_ix _ _ _ _ _ _ _ ix_list (@pe_lst _ _ _ _ (@pa_cons _ _ _ _ _ pe_int (@pa_cons _ _ _ _ _ pe_int (@pa_cons _ _ _ _ _ pe_int pa_nil (by rfl)) (by rfl)) (by rfl))) (pe_callH h_l_draw hr (@pa_cons _ _ _ _ _ (pv 0) (@pa_cons _ _ _ _ _ pe_int pa_nil (by rfl)) (by rfl))) (fun _ _ => rfl)) pa_nil (by rfl)) (by rfl)) (by rfl))) pa_nil (by rfl)) (by rfl))) (by rfl) (by first | exact .inl rfl | exact .inr rfl))
  (@pss_cons _ _ _ _ _ (@ps_if _ _ _ _ _ _ _ _ (@pt_cmpR _ _ _ _ _ _ _ _ op_eq (pv 2) pe_int (nomark _)) (@pss_one _ _ _ (@ps_set _ _ 3 _ _ _ _ sc_l_cells.nd rfl (Or.inl rfl) (pe_callH h_l_met hr (@pa_cons _ _ _ _ _ (pv 1) (@pa_cons _ _ _ _ _ (pe_comp (own := ["_law_known"]) (CompOk.of rfl rfl (by rfl) (by rfl) (by rfl)) (pi_tup (pv 1))
    (fun _ _ _ _ _ => (pg_name (i := 0) nd_l_cells_79_50 rfl (Or.inl rfl) (Or.inr rfl))) (fun _ _ _ _ _ => pts_nil)
    (fun _ _ _ _ _ => (@pe_tup _ _ _ _ _ (@pa_cons _ _ _ _ _ pe_int (@pa_cons _ _ _ _ _ (@pe_ix _ _ _ _ _ _ _ (ix_tupK K rfl) (pv 0) pe_int (fun _ _ => rfl)) (@pa_cons _ _ _ _ _ pe_int (@pa_cons _ _ _ _ _ pe_int pa_nil (by rfl)) (by rfl)) (by rfl)) (by rfl))))) pa_nil (by rfl)) (by rfl))) (by rfl) (by first | exact .inl rfl | exact .inr rfl))) pss_nil)
  (@pss_cons _ _ _ _ _ (@ps_if _ _ _ _ _ _ _ _ (@pt_cmpR _ _ _ _ _ _ _ _ op_eq (pv 2) pe_int (nomark _)) (@pss_cons _ _ _ _ _ (@ps_set _ _ 4 _ _ _ _ sc_l_cells.nd rfl (Or.inl rfl) (pe_callH h_l_draw hr (@pa_cons _ _ _ _ _ (pv 0) (@pa_cons _ _ _ _ _ pe_int pa_nil (by rfl)) (by rfl))) (by rfl) (by first | exact .inl rfl | exact .inr rfl))
  (@pss_cons _ _ _ _ _ (@ps_set _ _ 3 _ _ _ _ sc_l_cells.nd rfl (Or.inl rfl) (@pe_tup _ _ _ _ _ (@pa_cons _ _ _ _ _ (pe_callTy call_tuple_of rfl z_tuple PyProof.Rows.boot_tuple (@pa_cons _ _ _ _ _ (pe_callB (call_sortSI rfl) rfl z_sorted PyProof.Rows.boot_sorted (@pa_cons _ _ _ _ _ (pe_callTy (call_setNT rfl) rfl z_set PyProof.Rows.boot_set (@pa_cons _ _ _ _ _ (@pe_op _ _ _ _ _ _ _ _ op_catG (@pe_ix _ _ _ _ _ _ _ ix_tup (pv 3) pe_int (fun _ _ => rfl)) (@pe_tup _ _ _ _ _ (@pa_cons _ _ _ _ _ (pv 4) pa_nil (by rfl)))) pa_nil (by rfl))) pa_nil (by rfl))) pa_nil (by rfl))) (@pa_cons _ _ _ _ _ (@pe_ix _ _ _ _ _ _ _ ix_tup (pv 3) pe_int (fun _ _ => rfl)) pa_nil (by rfl)) (by rfl))) (by rfl) (by first | exact .inl rfl | exact .inr rfl))
  (@pss_one _ _ _ (@ps_if _ _ _ _ _ _ _ _ (@pt_cmpR _ _ _ _ _ _ _ _ op_eq (pe_callH h_l_draw hr (@pa_cons _ _ _ _ _ (pv 0) (@pa_cons _ _ _ _ _ pe_int pa_nil (by rfl)) (by rfl))) pe_int (nomark _)) (@pss_one _ _ _ (@ps_set _ _ 3 _ _ _ _ sc_l_cells.nd rfl (Or.inl rfl) (@pe_tup _ _ _ _ _ (@pa_cons _ _ _ _ _ (@pe_ix _ _ _ _ _ _ _ ix_tup (pv 3) pe_int (fun _ _ => rfl)) (@pa_cons _ _ _ _ _ (@pe_ix _ _ _ _ _ _ _ ix_tup (pv 3) pe_int (fun _ _ => rfl)) pa_nil (by rfl)) (by rfl))) (by rfl) (by first | exact .inl rfl | exact .inr rfl))) pss_nil)))) pss_nil)
  (@pss_cons _ _ _ _ _ (@ps_if _ _ _ _ _ _ _ _ (@pt_cmpR _ _ _ _ _ _ _ _ op_eq (pv 2) pe_int (nomark _)) (@pss_one _ _ _ (@ps_set _ _ 3 _ _ _ _ sc_l_cells.nd rfl (Or.inl rfl) (@pe_tup _ _ _ _ _ (@pa_cons _ _ _ _ _ (pe_callH h_l_some hr (@pa_cons _ _ _ _ _ (pv 0) (@pa_cons _ _ _ _ _ (pe_comp (own := ["_law_known"]) (CompOk.of rfl rfl (by rfl) (by rfl) (by rfl)) (pi_tup (pv 1))
    (fun _ _ _ _ _ => (pg_name (i := 0) nd_l_cells_86_52 rfl (Or.inl rfl) (Or.inr rfl))) (fun _ _ _ _ _ => pts_nil)
    (fun _ _ _ _ _ => (@pe_ix _ _ _ _ _ _ _ (ix_tupK K rfl) (pv 0) pe_int (fun _ _ => rfl)))) pa_nil (by rfl)) (by rfl))) (@pa_cons _ _ _ _ _ (pe_callH h_l_some hr (@pa_cons _ _ _ _ _ (pv 0) (@pa_cons _ _ _ _ _ (pe_comp (own := ["_law_known"]) (CompOk.of rfl rfl (by rfl) (by rfl) (by rfl)) (pi_tup (pv 1))
    (fun _ _ _ _ _ => (pg_name (i := 0) nd_l_cells_86_127 rfl (Or.inl rfl) (Or.inr rfl))) (fun _ _ _ _ _ => pts_nil)
    (fun _ _ _ _ _ => (@pe_ix _ _ _ _ _ _ _ (ix_tupK K rfl) (pv 0) pe_int (fun _ _ => rfl)))) pa_nil (by rfl)) (by rfl))) pa_nil (by rfl)) (by rfl))) (by rfl) (by first | exact .inl rfl | exact .inr rfl))) pss_nil)
  (@pss_cons _ _ _ _ _ (@ps_if _ _ _ _ _ _ _ _ (@pt_cmpR _ _ _ _ _ _ _ _ op_eq (pv 2) pe_int (nomark _)) (@pss_cons _ _ _ _ _ (@ps_set _ _ 5 _ _ _ _ sc_l_cells.nd rfl (Or.inl rfl) (@pe_ix _ _ _ _ _ _ _ ix_list (@pe_lst _ _ _ _ (@pa_cons _ _ _ _ _ pe_int (@pa_cons _ _ _ _ _ pe_int pa_nil (by rfl)) (by rfl))) (pe_callH h_l_draw hr (@pa_cons _ _ _ _ _ (pv 0) (@pa_cons _ _ _ _ _ pe_int pa_nil (by rfl)) (by rfl))) (fun _ _ => rfl)) (by rfl) (by first | exact .inl rfl | exact .inr rfl))
  (@pss_one _ _ _ (@ps_set _ _ 3 _ _ _ _ sc_l_cells.nd rfl (Or.inl rfl) (@pe_tup _ _ _ _ _ (@pa_cons _ _ _ _ _ (pe_callH h_l_some hr (@pa_cons _ _ _ _ _ (pv 0) (@pa_cons _ _ _ _ _ (pe_callTy (call_listR rfl) rfl z_list PyProof.Rows.boot_list (@pa_cons _ _ _ _ _ (pe_callTy call_rng rfl z_range PyProof.Rows.boot_range (@pa_cons _ _ _ _ _ (pv 5) pa_nil (by rfl))) pa_nil (by rfl))) pa_nil (by rfl)) (by rfl))) (@pa_cons _ _ _ _ _ (pe_callH h_l_some hr (@pa_cons _ _ _ _ _ (pv 0) (@pa_cons _ _ _ _ _ (pe_callTy (call_listR rfl) rfl z_list PyProof.Rows.boot_list (@pa_cons _ _ _ _ _ (pe_callTy call_rng rfl z_range PyProof.Rows.boot_range (@pa_cons _ _ _ _ _ (pv 5) pa_nil (by rfl))) pa_nil (by rfl))) pa_nil (by rfl)) (by rfl))) pa_nil (by rfl)) (by rfl))) (by rfl) (by first | exact .inl rfl | exact .inr rfl)))) pss_nil)
  (@pss_one _ _ _ (@ps_ret _ _ _ _ (pv 3))))))))), ?_⟩
  have gg : Grw a H H := Same.refl _
  refine ⟨_, rfl, a, 6, rfl, hp, posI rfl, ltI rfl, fun way H1 _ _ hp g1 => ?_⟩
  have gg := gg.trans g1
  have k_n := k_n.mono g1
  refine ⟨_, rfl, _, rfl, _, rfl, leN rfl, ?_⟩
  intro q n_q
  generalize hz : upd _ q _ = H2
  obtain ⟨hp, gz, ne_q, e_q⟩ := laid_pen hz n_q hp
  clear hz
  have gg := gg.trans gz
  have k_n := k_n.mono gz
  refine ⟨_, rfl, a, 3, rfl, hp, posI rfl, ltI rfl, fun d H3 x0 x1 hp g3 => ?_⟩
  have gg := gg.trans g3
  have k_n := k_n.mono g3
  have e_q := g3 _ _ e_q
  obtain ⟨u, hu, mu⟩ := pick e_q x0 x1
  obtain ⟨m, rfl, m0, m1⟩ : ∃ m : Int, u = .int m ∧ 0 ≤ m ∧ m ≤ 12 := by
    simp only [List.mem_cons, List.not_mem_nil, or_false] at mu
    rcases mu with rfl | rfl | rfl
    · exact ⟨_, rfl, by decide, by decide⟩
    · exact ⟨_, rfl, by decide, by decide⟩
    · exact ⟨_, rfl, by decide, by decide⟩
  refine ⟨q, _, _, _, rfl, rfl, hSqL e_q, hu, a, n, ks, m, rfl, hp, k_n, nok, m0, by omega, fun r ts H4 _ tl _ k_r hp g4 => ?_⟩
  have gg := gg.trans g4
  have k_n := k_n.mono g4
  refine ⟨n, r, ks, ts, rfl, k_n.unhide, k_r.unhide, k60, by omega, fun c H5 s5 hc => ?_⟩
  have g5 := hp.grw s5
  have hp := hp.same s5
  have gg := gg.trans g5
  have k_n := k_n.mono g5
  have k_c := hp.cel hc
  have cok : CelOk (metR ks ts) (metC ks ts) := ⟨asc_uni _, asc_uni _, by have := met_len Kn.row ks (metP ts); unfold metR; omega, by have := met_len Kn.col ks (metP ts); unfold metC; omega⟩
  have c60 : (metR ks ts).length ≤ 60 := by have := met_len Kn.row ks (metP ts); unfold metR; omega
  generalize metR ks ts = rs at hc k_c cok c60
  generalize metC ks ts = cs at hc k_c cok
  refine step_name ?_
  dsimp only
  refine seq_post (fun σ' H' => ∃ (c : Addr) (rs cs : List Int), σ' = [some (.ref a), some (.ref n), some (.int way), some (.ref c), none, none] ∧ CelOk rs cs ∧ rs.length ≤ 60 ∧ CelAt (hide a H') c rs cs ∧ NetAt (hide a H') n ks ∧ PenAt H' a ∧ Grw a H H') ?_ ?_
  · intro nx hn
    refine ⟨_, rfl, rfl, _, rfl, ite2 (fun cq => ?_) (fun cq => ?_)⟩
    · obtain ⟨ns, en, tn⟩ := id k_n
      refine ⟨_, rfl, _, rfl, n, rfl, ⟨_, hSqT en⟩, ?_⟩
      have en2 := (hide_some en).2
      refine comp_rTn (fun _ => true) (fun k : Kn => Th.vs ⟨0, k.mark, 0, 1⟩) Kn.vs en2 tn.unhide (by omega) ?_ ?_
      · rintro k c ys H6 C mk s6 ec y _
        exact ⟨Wk.refl _, _, rfl, _, _, _, _, rfl, rfl, SqT.of ec, at3_0 _ _ _, leN rfl, y rfl⟩
      intro ys H6 s6 t6 p np
      rw [filter_all] at t6
      have g6 := hp.grw (s6.trans (same_laid np (.lst ys)))
      have hp := hp.same (s6.trans (same_laid np (.lst ys)))
      have gg := gg.trans g6
      have k_n := k_n.mono g6
      have st : StAt (upd H6 p (.lst ys)) p (ks.map fun k : Kn => (⟨0, k.mark, 0, 1⟩ : Th)) := ⟨ys, upd_same, by rw [List.map_map]; exact t6.mono (same_laid np _)⟩
      refine ⟨n, p, ks, _, rfl, k_n.unhide, st, k60, by rw [List.length_map]; omega, fun c H7 s7 hc => ?_⟩
      have g7 := hp.grw s7
      have hp := hp.same s7
      have gg := gg.trans g7
      have k_n := k_n.mono g7
      refine hn _ _ ⟨c, _, _, rfl, ⟨asc_uni _, asc_uni _, ?_, ?_⟩, ?_, hp.cel hc, k_n, hp, gg⟩
      · have := met_len Kn.row ks (metP (ks.map fun k : Kn => (⟨0, k.mark, 0, 1⟩ : Th)))
        omega
      · have := met_len Kn.col ks (metP (ks.map fun k : Kn => (⟨0, k.mark, 0, 1⟩ : Th)))
        omega
      · have := met_len Kn.row ks (metP (ks.map fun k : Kn => (⟨0, k.mark, 0, 1⟩ : Th)))
        omega
    · exact hn _ _ ⟨_, _, _, rfl, cok, c60, k_c, k_n, hp, gg⟩
  rintro σ H6 ⟨c, rs, cs, rfl, cok, c60, k_c, k_n, hp, gg⟩
  refine seq_post (fun σ' H' => ∃ (c : Addr) (rs cs : List Int) (o4 : Option V), σ' = [some (.ref a), some (.ref n), some (.int way), some (.ref c), o4, none] ∧ CelOk rs cs ∧ CelAt (hide a H') c rs cs ∧ NetAt (hide a H') n ks ∧ PenAt H' a ∧ Grw a H H') ?_ ?_
  · intro nx hn
    refine ⟨_, rfl, rfl, _, rfl, ite2 (fun cq => ?_) (fun cq => ?_)⟩
    · refine ⟨_, rfl, a, 31, rfl, hp, posI rfl, ltI rfl, fun more H7 _ _ hp g7 => ?_⟩
      have gg := gg.trans g7
      have k_c := k_c.mono g7
      have k_n := k_n.mono g7
      obtain ⟨ra, cb, ec, ea, eb⟩ := id k_c
      refine ⟨_, rfl, c, _, _, _, rfl, rfl, hSqT ec, rfl, _, rfl, leN rfl, ?_⟩
      intro m1 n_m1
      generalize hz : upd _ m1 _ = H8
      obtain ⟨hp, gz, ne_m1, e_m1⟩ := laid_pen hz n_m1 hp
      clear hz
      have gg := gg.trans gz
      have k_c := k_c.mono gz
      have k_n := k_n.mono gz
      have ec := gz _ _ ec
      have ea := gz _ _ ea
      have eb := gz _ _ eb
      have rl := cok.rl
      refine ⟨ra, m1, _, _, rfl, rfl, (hide_some ea).2, (hide_some e_m1).2, by rw [List.length_map]; show rs.length + 1 ≤ _; omega, fun b H9 s9 e9 => ?_⟩
      have g9 := hp.grw s9
      have hp := hp.same s9
      have gg := gg.trans g9
      have k_c := k_c.mono g9
      have k_n := k_n.mono g9
      have ec := g9 _ _ ec
      have eb := g9 _ _ eb
      have e10 : H9 b = some (.tup ((rs ++ [more]).map V.int)) := by rw [List.map_append]; exact e9
      have u1 := uniI_len (rs ++ [more])
      rw [List.length_append] at u1
      have u2 : [more].length = 1 := rfl
      refine ⟨b, rs ++ [more], rfl, SqT.of e10, by rw [List.length_append]; omega, ?_⟩
      intro s1 n_s1
      generalize hz : upd _ s1 _ = H10
      obtain ⟨hp, gz, ne_s1, e_s1⟩ := laid_pen hz n_s1 hp
      clear hz
      have gg := gg.trans gz
      have k_c := k_c.mono gz
      have k_n := k_n.mono gz
      have ec := gz _ _ ec
      have eb := gz _ _ eb
      refine ⟨s1, _, rfl, (hide_some e_s1).2, by omega, ?_⟩
      intro l1 n_l1
      generalize hz : upd _ l1 _ = H11
      obtain ⟨hp, gz, ne_l1, e_l1⟩ := laid_pen hz n_l1 hp
      clear hz
      have gg := gg.trans gz
      have k_c := k_c.mono gz
      have k_n := k_n.mono gz
      have ec := gz _ _ ec
      have eb := gz _ _ eb
      refine ⟨l1, _, rfl, .inl ⟨hSqL e_l1, ?_⟩⟩
      intro t1 n_t1
      generalize hz : upd _ t1 _ = H12
      obtain ⟨hp, gz, ne_t1, e_t1⟩ := laid_pen hz n_t1 hp
      clear hz
      have gg := gg.trans gz
      have k_c := k_c.mono gz
      have k_n := k_n.mono gz
      have ec := gz _ _ ec
      have eb := gz _ _ eb
      refine ⟨_, rfl, c, _, _, _, rfl, rfl, hSqT ec, rfl, leN rfl, ?_⟩
      intro c2 n_c2
      generalize hz : upd _ c2 _ = H13
      obtain ⟨hp, gz, ne_c2, e_c2⟩ := laid_pen hz n_c2 hp
      clear hz
      have gg := gg.trans gz
      have k_n := k_n.mono gz
      have e_t1 := gz _ _ e_t1
      have eb := gz _ _ eb
      have k_c2 : CelAt (hide a H13) c2 (uni (rs ++ [more])) cs := ⟨t1, cb, e_c2, e_t1, eb⟩
      have cok2 : CelOk (uni (rs ++ [more])) cs := ⟨asc_uni _, cok.c, by have := uni_len (rs ++ [more]); rw [List.length_append] at this; omega, cok.cl⟩
      refine ⟨_, rfl, a, 2, rfl, hp, posI rfl, ltI rfl, fun d2 H14 _ _ hp g14 => ⟨rfl, _, rfl, ?_⟩⟩
      have gg := gg.trans g14
      have k_c2 := k_c2.mono g14
      have k_n := k_n.mono g14
      refine ite2 (fun c => ?_) (fun c => ?_)
      · obtain ⟨ra, cb, ec, ea, eb⟩ := id k_c2
        refine ⟨_, rfl, c2, _, _, _, rfl, rfl, hSqT ec, rfl, _, rfl, c2, _, _, _, rfl, rfl, hSqT ec, rfl, leN rfl, ?_⟩
        intro c3 n_c3
        generalize hz : upd _ c3 _ = H15
        obtain ⟨hp, gz, ne_c3, e_c3⟩ := laid_pen hz n_c3 hp
        clear hz
        have gg := gg.trans gz
        have k_n := k_n.mono gz
        have ea := gz _ _ ea
        have eb := gz _ _ eb
        exact hn _ _ ⟨c3, _, _, _, rfl, ⟨cok2.c, cok2.r, cok2.cl, cok2.rl⟩, ⟨cb, ra, e_c3, eb, ea⟩, k_n, hp, gg⟩
      · exact hn _ _ ⟨_, _, _, _, rfl, cok2, k_c2, k_n, hp, gg⟩
    · exact hn _ _ ⟨_, _, _, _, rfl, cok, k_c, k_n, hp, gg⟩
  rintro σ H7 ⟨c, rs, cs, o4, rfl, cok, k_c, k_n, hp, gg⟩
  refine seq_post (fun σ' H' => ∃ (c : Addr) (rs cs : List Int) (o4 : Option V), σ' = [some (.ref a), some (.ref n), some (.int way), some (.ref c), o4, none] ∧ CelOk rs cs ∧ CelAt (hide a H') c rs cs ∧ PenAt H' a ∧ Grw a H H') ?_ ?_
  · intro nx hn
    refine ⟨_, rfl, rfl, _, rfl, ite2 (fun cq => ?_) (fun cq => ?_)⟩
    · obtain ⟨ns, en, tn⟩ := id k_n
      refine ⟨_, rfl, _, rfl, n, rfl, ⟨_, hSqT en⟩, ?_⟩
      refine comp_rT (fun _ => true) (fun k : Kn => .int k.row) Kn.vs (hide_some en).2 tn.unhide (by omega) ?_ ?_
      · rintro k c ys C mk ec y _
        exact ⟨Wk.refl _, _, rfl, _, _, _, _, rfl, rfl, SqT.of ec, at3_1 _ _ _, y rfl⟩
      rw [filter_all, show (ks.map fun k => V.int k.row) = (ks.map Kn.row).map V.int by rw [List.map_map]; rfl]
      intro p1 n_p1
      generalize hz : upd _ p1 _ = H8
      obtain ⟨hp, gz, ne_p1, e_p1⟩ := laid_pen hz n_p1 hp
      clear hz
      have gg := gg.trans gz
      have k_n := k_n.mono gz
      refine ⟨a, p1, _, rfl, hp, e_p1, by rw [List.length_map]; omega, fun t1 ms1 H9 as1 al1 e_t1 hp g9 => ?_⟩
      have gg := gg.trans g9
      have k_n := k_n.mono g9
      obtain ⟨ns, en, tn⟩ := id k_n
      refine ⟨_, rfl, _, rfl, n, rfl, ⟨_, hSqT en⟩, ?_⟩
      refine comp_rT (fun _ => true) (fun k : Kn => .int k.col) Kn.vs (hide_some en).2 tn.unhide (by omega) ?_ ?_
      · rintro k c ys C mk ec y _
        exact ⟨Wk.refl _, _, rfl, _, _, _, _, rfl, rfl, SqT.of ec, at3_2 _ _ _, y rfl⟩
      rw [filter_all, show (ks.map fun k => V.int k.col) = (ks.map Kn.col).map V.int by rw [List.map_map]; rfl]
      intro p2 n_p2
      generalize hz : upd _ p2 _ = H10
      obtain ⟨hp, gz, ne_p2, e_p2⟩ := laid_pen hz n_p2 hp
      clear hz
      have gg := gg.trans gz
      have e_t1 := gz _ _ e_t1
      refine ⟨a, p2, _, rfl, hp, e_p2, by rw [List.length_map]; omega, fun t2 ms2 H11 as2 al2 e_t2 hp g11 => ⟨leN rfl, ?_⟩⟩
      have gg := gg.trans g11
      have e_t1 := g11 _ _ e_t1
      intro c3 n_c3
      generalize hz : upd _ c3 _ = H12
      obtain ⟨hp, gz, ne_c3, e_c3⟩ := laid_pen hz n_c3 hp
      clear hz
      have gg := gg.trans gz
      have e_t1 := gz _ _ e_t1
      have e_t2 := gz _ _ e_t2
      exact hn _ _ ⟨c3, ms1, ms2, _, rfl, ⟨as1, as2, al1, al2⟩, ⟨t1, t2, e_c3, e_t1, e_t2⟩, hp, gg⟩
    · exact hn _ _ ⟨_, _, _, _, rfl, cok, k_c, hp, gg⟩
  rintro σ H8 ⟨c, rs, cs, o4, rfl, cok, k_c, hp, gg⟩
  refine seq_post (fun σ' H' => ∃ (c : Addr) (rs cs : List Int) (o4 o5 : Option V), σ' = [some (.ref a), some (.ref n), some (.int way), some (.ref c), o4, o5] ∧ CelOk rs cs ∧ CelAt (hide a H') c rs cs ∧ PenAt H' a ∧ Grw a H H') ?_ ?_
  · intro nx hn
    refine ⟨_, rfl, rfl, _, rfl, ite2 (fun cq => ?_) (fun cq => ?_)⟩
    · refine ⟨leN rfl, ?_⟩
      intro q n_q
      generalize hz : upd _ q _ = H9
      obtain ⟨hp, gz, ne_q, e_q⟩ := laid_pen hz n_q hp
      clear hz
      have gg := gg.trans gz
      refine ⟨_, rfl, a, 2, rfl, hp, posI rfl, ltI rfl, fun d H10 x0 x1 hp g10 => ?_⟩
      have gg := gg.trans g10
      have e_q := g10 _ _ e_q
      obtain ⟨u, hu, mu⟩ := pick e_q x0 x1
      obtain ⟨m, rfl, m1⟩ : ∃ m : Nat, u = .int (m : Int) ∧ m ≤ 31 := by
        simp only [List.mem_cons, List.not_mem_nil, or_false] at mu
        rcases mu with rfl | rfl
        · exact ⟨3, rfl, by decide⟩
        · exact ⟨31, rfl, by decide⟩
      refine ⟨q, _, _, _, rfl, rfl, hSqL e_q, hu, ?_⟩
      have rr : ((List.range m).map fun i : Nat => V.int (i : Int)) = ((List.range m).map fun i : Nat => (i : Int)).map V.int := by rw [List.map_map]; rfl
      refine ⟨_, rfl, _, rfl, m, rfl, ?_⟩
      intro p1 n_p1
      generalize hz : upd _ p1 _ = H11
      obtain ⟨hp, gz, ne_p1, e_p1⟩ := laid_pen hz n_p1 hp
      clear hz
      have gg := gg.trans gz
      refine ⟨p1, m, rfl, (hide_some e_p1).2, by omega, ?_⟩
      rw [rr]
      intro p2 n_p2
      generalize hz : upd _ p2 _ = H12
      obtain ⟨hp, gz, ne_p2, e_p2⟩ := laid_pen hz n_p2 hp
      clear hz
      have gg := gg.trans gz
      refine ⟨a, p2, _, rfl, hp, e_p2, by rw [List.length_map, List.length_range]; omega, fun t1 ms1 H13 as1 al1 e_t1 hp g13 => ?_⟩
      have gg := gg.trans g13
      refine ⟨_, rfl, _, rfl, m, rfl, ?_⟩
      intro p3 n_p3
      generalize hz : upd _ p3 _ = H14
      obtain ⟨hp, gz, ne_p3, e_p3⟩ := laid_pen hz n_p3 hp
      clear hz
      have gg := gg.trans gz
      have e_t1 := gz _ _ e_t1
      refine ⟨p3, m, rfl, (hide_some e_p3).2, by omega, ?_⟩
      rw [rr]
      intro p4 n_p4
      generalize hz : upd _ p4 _ = H15
      obtain ⟨hp, gz, ne_p4, e_p4⟩ := laid_pen hz n_p4 hp
      clear hz
      have gg := gg.trans gz
      have e_t1 := gz _ _ e_t1
      refine ⟨a, p4, _, rfl, hp, e_p4, by rw [List.length_map, List.length_range]; omega, fun t2 ms2 H16 as2 al2 e_t2 hp g16 => ⟨leN rfl, ?_⟩⟩
      have gg := gg.trans g16
      have e_t1 := g16 _ _ e_t1
      intro c3 n_c3
      generalize hz : upd _ c3 _ = H17
      obtain ⟨hp, gz, ne_c3, e_c3⟩ := laid_pen hz n_c3 hp
      clear hz
      have gg := gg.trans gz
      have e_t1 := gz _ _ e_t1
      have e_t2 := gz _ _ e_t2
      exact hn _ _ ⟨c3, ms1, ms2, _, _, rfl, ⟨as1, as2, al1, al2⟩, ⟨t1, t2, e_c3, e_t1, e_t2⟩, hp, gg⟩
    · exact hn _ _ ⟨_, _, _, _, _, rfl, cok, k_c, hp, gg⟩
  rintro σ H9 ⟨c, rs, cs, o4, o5, rfl, cok, k_c, hp, gg⟩
  exact ⟨_, rfl, hq c rs cs _ cok k_c hp gg⟩
end
end K37

namespace K37
open PySem L2
def outR (ks : List Kn) (rs cs : List Int) (f : Kn → Int) (l : List Int) : List Int := l.filter fun x => decide (x ∉ (ks.filter (openK rs cs)).map f)
def mayL (ks : List Kn) (rs cs : List Int) : Bool := (outR ks rs cs Kn.row rs ++ outR ks rs cs Kn.col cs).isEmpty
theorem out_nil {ks : List Kn} {rs cs : List Int} {f : Kn → Int} {l : List Int} (h : Asc l) (hf : ∀ k ∈ ks, openK rs cs k = true → f k ∈ l) : uni ((ks.filter (openK rs cs)).map f) = l ↔ outR ks rs cs f l = [] := by
  unfold outR
  rw [List.filter_eq_nil_iff]
  constructor
  · intro e x hx
    rw [← e, uni_mem] at hx
    exact fun q => of_decide_eq_true q hx
  · intro q
    refine asc_eq (asc_uni _) h fun x => ?_
    rw [uni_mem]
    constructor
    · intro m
      obtain ⟨k, hk, rfl⟩ := List.mem_map.mp m
      obtain ⟨h1, h2⟩ := List.mem_filter.mp hk
      exact hf k h1 h2
    · intro m
      have := q x m
      exact Classical.byContradiction fun c => this (decide_eq_true c)
theorem may_eq {ks : List Kn} {rs cs : List Int} (h : CelOk rs cs) : mayB ks rs cs = mayL ks rs cs := by
  have h1 := out_nil (ks := ks) (rs := rs) (cs := cs) (f := Kn.row) h.r (fun k _ q => of_decide_eq_true (Bool.and_eq_true_iff.mp q).1)
  have h2 := out_nil (ks := ks) (rs := rs) (cs := cs) (f := Kn.col) h.c (fun k _ q => of_decide_eq_true (Bool.and_eq_true_iff.mp q).2)
  unfold mayB mayL
  rw [cel_eqv, show ∀ a b : List Int, (a ++ b).isEmpty = (a.isEmpty && b.isEmpty) from fun a b => by cases a <;> rfl]
  by_cases c1 : outR ks rs cs Kn.row rs = []
  · rw [decide_eq_true (h1.mpr c1), c1]
    by_cases c2 : outR ks rs cs Kn.col cs = []
    · rw [decide_eq_true (h2.mpr c2), c2]; rfl
    · rw [decide_eq_false (fun q => c2 (h2.mp q))]
      cases e : outR ks rs cs Kn.col cs with
      | nil => exact absurd e c2
      | cons _ _ => rfl
  · rw [decide_eq_false (fun q => c1 (h1.mp q)), Bool.false_and]
    cases e : outR ks rs cs Kn.row rs with
    | nil => exact absurd e c1
    | cons _ _ => rfl
def spLMay : Sp := fun vs H Q _ => ∃ (n c : Addr) (ks : List Kn) (rs cs : List Int), vs = [.ref n, .ref c] ∧ NetAt H n ks ∧ CelAt H c rs cs ∧ ks.length ≤ 60 ∧ rs.length ≤ 62 ∧ cs.length ≤ 62 ∧ ∀ (H' : Hp), Same H H' → Q (.bl (mayL ks rs cs)) H'
section
variable {P : Program} {w : World} {K : PySem.W.Frag} {mg : Str → Option Value} {base : Heap} {f : Addr} {fd : FuncData}
theorem ok_lopen (F : Fun K "_law_open" "_law_open" s_l_open f fd) : FnOk P w K mg base CX0 1 f fd ["_law_net_here", "_law_cells_here"] spKnots := by
  refine F.ok sc_l_open (fun vs H Q E h => ?_) (fun cdv A outer s H vs Q E hr h => ?_)
  · obtain ⟨n, c, ks, rs, cs, rfl, _⟩ := h
    rfl
  obtain ⟨n, c, ks, rs, cs, rfl, ⟨xs, en, tn⟩, ⟨a, b, ec, ea, eb⟩, hl, hq⟩ := h
  refine ⟨_, (@pss_one _ _ _ (@ps_ret _ _ _ _ (pe_comp (own := ["_law_known"]) (CompOk.of rfl rfl (by rfl) (by rfl) (by rfl)) (pi_tup (pv 0))
    (fun _ _ _ _ _ => (pg_name (i := 0) nd_l_open_92_11 rfl (Or.inl rfl) (Or.inr rfl))) (fun _ _ _ _ _ => (pts_one (PW.pt (@pw_and _ _ _ _ _ _ _ (@pt_cmpR _ _ _ _ _ _ _ _ (op_in_seqK K rfl) (@pe_ix _ _ _ _ _ _ _ (ix_tupK K rfl) (pv 0) pe_int (fun _ _ => rfl)) (@pe_ix _ _ _ _ _ _ _ (ix_tupK K rfl) (pv 2) pe_int (fun _ _ => rfl)) (by with_unfolding_all rfl)) (@pw_and1 _ _ _ _ (@pt_cmpR _ _ _ _ _ _ _ _ (op_in_seqK K rfl) (@pe_ix _ _ _ _ _ _ _ (ix_tupK K rfl) (pv 0) pe_int (fun _ _ => rfl)) (@pe_ix _ _ _ _ _ _ _ (ix_tupK K rfl) (pv 2) pe_int (fun _ _ => rfl)) (by with_unfolding_all rfl)))))))
    (fun _ _ _ _ _ => (pv 0))))), ?_⟩
  have xl := tn.length
  rw [List.length_map] at xl
  refine ⟨_, rfl, n, rfl, ⟨_, SqT.of en⟩, ?_⟩
  refine comp_tup (xs := xs) (fun i ys H' => H' = H ∧ TpsAt H ys (((ks.take i).filter (openK rs cs)).map Kn.vs)) ⟨rfl, .nil⟩ (fun i ys H' _ h => by rw [h.1]; exact SqT.of en) ?_ ?_
  · rintro i x ys H' C hx ⟨hH, tl⟩ hC
    rw [hH]
    clear hH
    obtain ⟨c1, k, rfl, hk, mk, e1⟩ := tn.getM hx
    have yl := tl.length
    rw [List.length_map] at yl
    have hle := List.length_filter_le (openK rs cs) (ks.take i)
    have hle2 : (ks.take i).length ≤ ks.length := by rw [List.length_take]; omega
    have no : openK rs cs k = false → C ys H := fun q => hC _ _ ⟨rfl, by rw [filter_step (openK rs cs) hk, if_neg (by rw [q]; exact Bool.false_ne_true), List.append_nil]; exact tl⟩
    have y : openK rs cs k = true → C (ys ++ [.ref c1]) H := fun q => hC _ _ ⟨rfl, by rw [filter_step (openK rs cs) hk, if_pos q, List.map_append]; exact tl.append (.cons e1 .nil)⟩
    refine ⟨small_lt (by omega), Wk.refl _, _, rfl, _, _, _, _, rfl, rfl, SqT.of e1, at3_1 _ _ _, _, rfl, c, _, _, _, rfl, rfl, SqT.of ec, rfl, a, _, rfl, .inr (SqT.of ea), rfl, flat_ints rs, _, rfl, ?_⟩
    rw [if_neg Bool.false_ne_true, inV_ints]
    refine ite2 (fun q1 => ?_) (fun q1 => ?_)
    · refine ⟨_, rfl, _, _, _, _, rfl, rfl, SqT.of e1, at3_2 _ _ _, _, rfl, c, _, _, _, rfl, rfl, SqT.of ec, rfl, b, _, rfl, .inr (SqT.of eb), rfl, flat_ints cs, _, rfl, ?_⟩
      rw [if_neg Bool.false_ne_true, inV_ints]
      exact ite2 (fun q2 => ⟨_, rfl, y (by show (_ && _) = true; rw [q1, q2]; rfl)⟩) fun q2 => no (by show (_ && _) = false; rw [Bool.eq_false_iff.mpr q2, Bool.and_false])
    · exact iteF (no (by show (_ && _) = false; rw [Bool.eq_false_iff.mpr q1, Bool.false_and]))
  · rintro ys _ ⟨rfl, tl⟩
    rw [xl, List.take_length] at tl
    have yl := tl.length
    rw [List.length_map] at yl
    have hle := List.length_filter_le (openK rs cs) ks
    exact ⟨small_le (by omega), fun q nq => hq q ys _ (same_laid nq _) upd_same (tl.mono (same_laid nq _))⟩
/-- the inner list, then: not in it -/
theorem ok_lmay (h_l_open : Has P w K mg base "_law_open" 1 ["_law_net_here", "_law_cells_here"] spKnots) (F : Fun K "_law_may" "_law_may" s_l_may f fd) : FnOk P w K mg base CX0 2 f fd ["_law_net_here", "_law_cells_here"] spLMay := by
  refine F.ok sc_l_may (fun vs H Q E h => ?_) (fun cdv A outer s H vs Q E hr h => ?_)
  · obtain ⟨n, c, ks, rs, cs, rfl, _⟩ := h
    rfl
  obtain ⟨n, c, ks, rs, cs, rfl, hn, hc, hl, rl, cl, hq⟩ := h
  refine ⟨_, (@pss_cons _ _ _ _ _ (@ps_set _ _ 2 _ _ _ _ sc_l_may.nd rfl (Or.inr rfl) (pe_callH h_l_open hr (@pa_cons _ _ _ _ _ (pv 0) (@pa_cons _ _ _ _ _ (pv 1) pa_nil (by rfl)) (by rfl))) (by rfl) (by first | exact .inl rfl | exact .inr rfl))
  (@pss_cons _ _ _ _ _ (ps_setC (i := 3) sc_l_may.nd rfl rfl (own := ["_law_row"]) (CompOk.of rfl rfl (by rfl) (by rfl) (by rfl)) (pi_tup (@pe_ix _ _ _ _ _ _ _ ix_tup (pv 1) pe_int (fun _ _ => rfl)))
    (fun _ _ _ _ _ => (pg_name (i := 0) nd_l_may_95_16 rfl (Or.inl rfl) (Or.inr rfl))) (fun _ _ _ _ _ => (pts_one (@pt_cmpR _ _ _ _ _ _ _ _ (op_notIn_seqK K rfl) (pv 0) (pe_comp (own := ["_law_known"]) (CompOk.of rfl rfl (by rfl) (by rfl) (by rfl)) (pi_listK K rfl (pv 3))
    (fun _ _ _ _ _ => (pg_name (i := 0) nd_l_may_95_80 rfl (Or.inl rfl) (Or.inr rfl))) (fun _ _ _ _ _ => pts_nil)
    (fun _ _ _ _ _ => (@pe_ix _ _ _ _ _ _ _ (ix_tupK K rfl) (pv 0) pe_int (fun _ _ => rfl)))) (by with_unfolding_all rfl))))
    (fun _ _ _ _ _ => (pv 0)))
  (@pss_one _ _ _ (@ps_ret _ _ _ _ (@pe_cmpR _ _ _ _ _ _ _ _ (op_eqD hr.units) (@pe_op _ _ _ _ _ _ _ _ op_cat (pv 3) (pe_comp (own := ["_law_column"]) (CompOk.of rfl rfl (by rfl) (by rfl) (by rfl)) (pi_tup (@pe_ix _ _ _ _ _ _ _ ix_tup (pv 1) pe_int (fun _ _ => rfl)))
    (fun _ _ _ _ _ => (pg_name (i := 0) nd_l_may_96_23 rfl (Or.inl rfl) (Or.inr rfl))) (fun _ _ _ _ _ => (pts_one (@pt_cmpR _ _ _ _ _ _ _ _ (op_notIn_seqK K rfl) (pv 0) (pe_comp (own := ["_law_known"]) (CompOk.of rfl rfl (by rfl) (by rfl) (by rfl)) (pi_listK K rfl (pv 3))
    (fun _ _ _ _ _ => (pg_name (i := 0) nd_l_may_96_96 rfl (Or.inl rfl) (Or.inr rfl))) (fun _ _ _ _ _ => pts_nil)
    (fun _ _ _ _ _ => (@pe_ix _ _ _ _ _ _ _ (ix_tupK K rfl) (pv 0) pe_int (fun _ _ => rfl)))) (by with_unfolding_all rfl))))
    (fun _ _ _ _ _ => (pv 0)))) (@pe_lst _ _ _ _ pa_nil) (nomark _)))))), ?_⟩
  refine ⟨_, rfl, _, rfl, n, c, ks, rs, cs, rfl, hn, hc, by omega, fun o xs H1 s1 eo to => ?_⟩
  obtain ⟨a, b, ec, ea, eb⟩ := hc.mono s1
  refine ⟨_, rfl, c, _, _, _, rfl, rfl, SqT.of ec, rfl, a, rfl, ⟨_, SqT.of ea⟩, ?_⟩
  have ol := List.length_filter_le (openK rs cs) ks
  refine comp_tup (xs := rs.map V.int) (fun i ys H' => Same H1 H' ∧ ys = ((rs.take i).filter fun x => decide (x ∉ (ks.filter (openK rs cs)).map Kn.row)).map V.int) ⟨Same.refl _, rfl⟩ (fun i ys H' _ h => SqT.of (h.1 _ _ ea)) ?_ ?_
  · rintro i x ys H2 C hx ⟨s2, rfl⟩ hC
    rw [List.getElem?_map] at hx
    obtain ⟨y, hy, rfl⟩ := Option.map_eq_some_iff.mp hx
    have hle := List.length_filter_le (fun x => decide (x ∉ (ks.filter (openK rs cs)).map Kn.row)) (rs.take i)
    have hle2 : (rs.take i).length ≤ rs.length := by rw [List.length_take]; omega
    refine ⟨small_lt (by rw [List.length_map]; omega), Wk.refl _, _, rfl, _, rfl, o, rfl, ⟨_, SqL.of (s2 _ _ eo)⟩, ?_⟩
    refine comp_rL (fun _ => true) (fun k => .int k.row) Kn.vs (s2 _ _ eo) (to.mono s2) (by omega) ?_ ?_
    · rintro k c ys C mk ec y _
      exact ⟨Wk.refl _, _, rfl, _, _, _, _, rfl, rfl, SqT.of ec, at3_1 _ _ _, y rfl⟩
    rw [filter_all, show ((ks.filter (openK rs cs)).map fun k => V.int k.row) = ((ks.filter (openK rs cs)).map Kn.row).map V.int by rw [List.map_map]; rfl]
    intro q nq
    have s3 := s2.trans (same_laid nq (.lst (((ks.filter (openK rs cs)).map Kn.row).map V.int)))
    refine ⟨q, _, rfl, .inl (SqL.of upd_same), rfl, flat_ints _, _, rfl, ?_⟩
    rw [if_pos rfl, inV_ints]
    refine ite2 (fun c1 => ⟨_, rfl, hC _ _ ⟨s3, ?_⟩⟩) (fun c1 => hC _ _ ⟨s3, ?_⟩)
    · rw [filter_step _ hy, if_pos (by rw [decide_not]; exact c1), List.map_append]
      rfl
    · rw [filter_step _ hy, if_neg (by rw [decide_not]; exact c1), List.append_nil]
  rintro ys H2 ⟨s2, rfl⟩
  rw [show rs.take (rs.map V.int).length = rs by rw [List.length_map, List.take_length]]
  have hle := List.length_filter_le (fun x => decide (x ∉ (ks.filter (openK rs cs)).map Kn.row)) rs
  refine ⟨small_le (by rw [List.length_map]; omega), fun l1 nl1 => ?_⟩
  have s3 := s2.trans (same_laid nl1 (.lst ((rs.filter fun x => decide (x ∉ (ks.filter (openK rs cs)).map Kn.row)).map V.int)))
  have el1 : upd H2 l1 (.lst ((rs.filter fun x => decide (x ∉ (ks.filter (openK rs cs)).map Kn.row)).map V.int)) l1 = some (.lst ((rs.filter fun x => decide (x ∉ (ks.filter (openK rs cs)).map Kn.row)).map V.int)) := upd_same
  generalize upd H2 l1 (.lst ((rs.filter fun x => decide (x ∉ (ks.filter (openK rs cs)).map Kn.row)).map V.int)) = H3 at s3 el1 ⊢
  refine ⟨_, rfl, _, rfl, c, _, _, _, rfl, rfl, SqT.of (s3 _ _ ec), rfl, b, rfl, ⟨_, SqT.of (s3 _ _ eb)⟩, ?_⟩
  refine comp_tup (xs := cs.map V.int) (fun i ys H' => Same H3 H' ∧ ys = ((cs.take i).filter fun x => decide (x ∉ (ks.filter (openK rs cs)).map Kn.col)).map V.int) ⟨Same.refl _, rfl⟩ (fun i ys H' _ h => SqT.of (h.1 _ _ (s3 _ _ eb))) ?_ ?_
  · rintro i x ys H4 C hx ⟨s4, rfl⟩ hC
    rw [List.getElem?_map] at hx
    obtain ⟨y, hy, rfl⟩ := Option.map_eq_some_iff.mp hx
    have hle := List.length_filter_le (fun x => decide (x ∉ (ks.filter (openK rs cs)).map Kn.col)) (cs.take i)
    have hle2 : (cs.take i).length ≤ cs.length := by rw [List.length_take]; omega
    have s5 := s3.trans s4
    refine ⟨small_lt (by rw [List.length_map]; omega), Wk.refl _, _, rfl, _, rfl, o, rfl, ⟨_, SqL.of (s5 _ _ eo)⟩, ?_⟩
    refine comp_rL (fun _ => true) (fun k => .int k.col) Kn.vs (s5 _ _ eo) (to.mono s5) (by omega) ?_ ?_
    · rintro k c ys C mk ec y _
      exact ⟨Wk.refl _, _, rfl, _, _, _, _, rfl, rfl, SqT.of ec, at3_2 _ _ _, y rfl⟩
    rw [filter_all, show ((ks.filter (openK rs cs)).map fun k => V.int k.col) = ((ks.filter (openK rs cs)).map Kn.col).map V.int by rw [List.map_map]; rfl]
    intro q nq
    have s6 := s4.trans (same_laid nq (.lst (((ks.filter (openK rs cs)).map Kn.col).map V.int)))
    refine ⟨q, _, rfl, .inl (SqL.of upd_same), rfl, flat_ints _, _, rfl, ?_⟩
    rw [if_pos rfl, inV_ints]
    refine ite2 (fun c1 => ⟨_, rfl, hC _ _ ⟨s6, ?_⟩⟩) (fun c1 => hC _ _ ⟨s6, ?_⟩)
    · rw [filter_step _ hy, if_pos (by rw [decide_not]; exact c1), List.map_append]
      rfl
    · rw [filter_step _ hy, if_neg (by rw [decide_not]; exact c1), List.append_nil]
  rintro ys H4 ⟨s4, rfl⟩
  rw [show cs.take (cs.map V.int).length = cs by rw [List.length_map, List.take_length]]
  have hle2 := List.length_filter_le (fun x => decide (x ∉ (ks.filter (openK rs cs)).map Kn.col)) cs
  refine ⟨small_le (by rw [List.length_map]; omega), fun l2 nl2 => ?_⟩
  have s5 := s4.trans (same_laid nl2 (.lst ((cs.filter fun x => decide (x ∉ (ks.filter (openK rs cs)).map Kn.col)).map V.int)))
  refine ⟨l1, l2, _, _, rfl, rfl, s5 _ _ el1, upd_same, by rw [List.length_map, List.length_map]; exact small_le (by omega), fun p np => ⟨leN rfl, fun q nq => ?_⟩⟩
  rw [← List.map_append] at nq ⊢
  have n12 : p ≠ q := fun e => by rw [← e, upd_same] at nq; cases nq
  refine ⟨_, _, .lst (show upd _ q _ p = some (.lst _) by rw [upd_ne n12]; exact upd_same) (dvs_ints _), .lst upd_same .nil, shaped_of (lay_ints _) (by decide), by decide, ?_⟩
  rw [eqv_nil, show ∀ l : List Int, (l.map PyData.int).isEmpty = l.isEmpty from fun l => by cases l <;> rfl]
  exact hq _ (s1.trans (s3.trans (s5.trans ((same_laid np _).trans (same_laid nq _)))))
def spTold : Sp := fun vs H Q _ => ∃ (n c : Addr) (ks : List Kn) (rs cs : List Int), vs = [.ref n, .ref c] ∧ NetAt H n ks ∧ CelAt H c rs cs ∧ NetOk ks ∧ CelOk rs cs ∧ ∀ (H' : Hp), Same H H' → Q (.bl true) H'
theorem kit_bb {K : PySem.W.Frag} : PySem.W.kitOne K (.type "bool") (.type "bool") = some true := kit_t (by decide +kernel)
theorem kit_ll {K : PySem.W.Frag} : PySem.W.kitOne K (.type "list") (.type "list") = some true := kit_t (by decide +kernel)
theorem mark_lay {ks : List Kn} (h : ∀ k ∈ ks, PyData.strOk k.mark = true) : (PyData.list ((ks.map Kn.mark).map PyData.str)).canLay0 = true ∧ (PyData.list ((ks.map Kn.mark).map PyData.str)).depth ≤ 1 := by
  obtain ⟨a, b⟩ := layAll (ds := (ks.map Kn.mark).map PyData.str) (n := 0) fun d hd => by
    obtain ⟨z, hz, rfl⟩ := List.mem_map.mp hd
    obtain ⟨k, hk, rfl⟩ := List.mem_map.mp hz
    simp [PyData.canLay0, PyData.depth, h k hk]
  simp only [PyData.canLay0, PyData.depth]
  exact ⟨a, by omega⟩
theorem ok_told (h_l_open : Has P w K mg base "_law_open" 1 ["_law_net_here", "_law_cells_here"] spKnots) (h_l_may : Has P w K mg base "_law_may" 2 ["_law_net_here", "_law_cells_here"] spLMay) (h_open_marks : Has P w K mg base "open_marks" 2 ["net", "cells"] spOpen) (h_may_be : Has P w K mg base "may_be" 3 ["net", "cells"] spMay)
    (z_isinstance : mg "isinstance" = none) (z_list : mg "list" = none) (z_bool : mg "bool" = none) (F : Fun K "_law_told" "_law_told" s_l_told f fd) : FnOk P w K mg base CX0 4 f fd ["_law_net_here", "_law_cells_here"] spTold := by
  refine F.ok sc_l_told (fun vs H Q E h => ?_) (fun cdv A outer s H vs Q E hr h => ?_)
  · obtain ⟨n, c, ks, rs, cs, rfl, _⟩ := h
    rfl
  obtain ⟨n, c, ks, rs, cs, rfl, hn, hc, nok, cok, hq⟩ := h
  have k60 := nok.len
  have ol := List.length_filter_le (openK rs cs) ks
  refine ⟨_, (@pss_cons _ _ _ _ _ (ps_setC (i := 2) sc_l_told.nd rfl rfl (own := ["_law_known"]) (CompOk.of rfl rfl (by rfl) (by rfl) (by rfl)) (pi_list (pe_callH h_l_open hr (@pa_cons _ _ _ _ _ (pv 0) (@pa_cons _ _ _ _ _ (pv 1) pa_nil (by rfl)) (by rfl))))
    (fun _ _ _ _ _ => (pg_name (i := 0) nd_l_told_98_15 rfl (Or.inl rfl) (Or.inr rfl))) (fun _ _ _ _ _ => pts_nil)
    (fun _ _ _ _ _ => (@pe_ix _ _ _ _ _ _ _ (ix_tupK K rfl) (pv 0) pe_int (fun _ _ => rfl))))
  (@pss_cons _ _ _ _ _ (@ps_set _ _ 3 _ _ _ _ sc_l_told.nd rfl (Or.inl rfl) (pe_callH h_open_marks hr (@pa_cons _ _ _ _ _ (pv 0) (@pa_cons _ _ _ _ _ (pv 1) pa_nil (by rfl)) (by rfl))) (by rfl) (by first | exact .inl rfl | exact .inr rfl))
  (@pss_cons _ _ _ _ _ (@ps_set _ _ 4 _ _ _ _ sc_l_told.nd rfl (Or.inl rfl) (pe_callH h_may_be hr (@pa_cons _ _ _ _ _ (pv 0) (@pa_cons _ _ _ _ _ (pv 1) pa_nil (by rfl)) (by rfl))) (by rfl) (by first | exact .inl rfl | exact .inr rfl))
  (@pss_cons _ _ _ _ _ (@ps_if _ _ _ _ _ _ _ _ (PW.pt (@pw_or _ _ _ _ _ _ _ (@pt_not _ _ _ _ (pt_val (pe_callB call_is rfl z_isinstance PyProof.Rows.boot_isinstance (@pa_cons _ _ _ _ _ (pv 4) (@pa_cons _ _ _ _ _ (pe_bltn (v := .ty "bool") rfl z_bool PyProof.Rows.boot_bool rfl) pa_nil (by rfl)) (by rfl))))) (@pw_or1 _ _ _ _ (@pt_cmpR _ _ _ _ _ _ _ _ op_ne (pv 4) (pe_callH h_l_may hr (@pa_cons _ _ _ _ _ (pv 0) (@pa_cons _ _ _ _ _ (pv 1) pa_nil (by rfl)) (by rfl))) (nomark _))))) (@pss_one _ _ _ (@ps_ret _ _ _ _ pe_bl)) pss_nil)
  (@pss_cons _ _ _ _ _ (@ps_if _ _ _ _ _ _ _ _ (PW.pt (@pw_or _ _ _ _ _ _ _ (@pt_not _ _ _ _ (pt_val (pe_callB call_is rfl z_isinstance PyProof.Rows.boot_isinstance (@pa_cons _ _ _ _ _ (pv 3) (@pa_cons _ _ _ _ _ (pe_bltn (v := .ty "list") rfl z_list PyProof.Rows.boot_list rfl) pa_nil (by rfl)) (by rfl))))) (@pw_or1 _ _ _ _ (@pt_cmpR _ _ _ _ _ _ _ _ (op_neD hr.units) (pv 3) (pv 2) (nomark _))))) (@pss_one _ _ _ (@ps_ret _ _ _ _ pe_bl)) pss_nil)
  (@pss_cons _ _ _ _ _ (ps_expr (pe_bm PySem.F.plainAttrs_list PySem.F.slot_list_append PySem.F.type_list_append mt_append (pv 3) (@pa_cons _ _ _ _ _ pe_str pa_nil (by rfl))))
  (@pss_one _ _ _ (@ps_ret _ _ _ _ (@pe_cmpR _ _ _ _ _ _ _ _ (op_eqD hr.units) (pe_callH h_open_marks hr (@pa_cons _ _ _ _ _ (pv 0) (@pa_cons _ _ _ _ _ (pv 1) pa_nil (by rfl)) (by rfl))) (pv 2) (nomark _)))))))))), ?_⟩
  refine ⟨_, rfl, _, rfl, n, c, ks, rs, cs, rfl, hn, hc, by omega, fun o xs H1 s1 eo to => ⟨o, rfl, ⟨_, SqL.of eo⟩, ?_⟩⟩
  refine comp_rL (fun _ => true) (fun k => .str k.mark) Kn.vs eo to (by omega) ?_ ?_
  · rintro k c ys C mk ec y _
    exact ⟨Wk.refl _, _, rfl, _, _, _, _, rfl, rfl, SqT.of ec, at3_0 _ _ _, y rfl⟩
  rw [filter_all, show ((ks.filter (openK rs cs)).map fun k => V.str k.mark) = ((ks.filter (openK rs cs)).map Kn.mark).map V.str by rw [List.map_map]; rfl]
  have gg := s1
  have hn := hn.mono s1
  have hc := hc.mono s1
  intro d n_d
  generalize hz : upd _ d _ = H2
  have gz := laid_same hz n_d
  have e_d := laid_at hz
  clear hz
  have gg := gg.trans gz
  have hn := hn.mono gz
  have hc := hc.mono gz
  refine ⟨_, rfl, _, rfl, n, c, ks, rs, cs, rfl, hn, hc, by omega, fun l H3 s3 fl el => ?_⟩
  have fr := gg.free fl
  have gg := gg.trans s3
  have hn := hn.mono s3
  have hc := hc.mono s3
  have ed := s3 _ _ e_d
  rw [show ((ks.filter (openK rs cs)).map fun k => V.str k.mark) = ((ks.filter (openK rs cs)).map Kn.mark).map V.str by rw [List.map_map]; rfl] at el
  refine ⟨_, rfl, _, rfl, n, c, ks, rs, cs, rfl, hn, hc, by omega, fun H4 s4 => ?_⟩
  have gg := gg.trans s4
  have hn := hn.mono s4
  have hc := hc.mono s4
  have ed := s4 _ _ ed
  have el := s4 _ _ el
  refine ⟨_, rfl, _, _, "bool", _, rfl, TyOf.bl _, kit_bb, _, rfl, iteF ?_⟩
  refine ⟨_, rfl, _, rfl, _, rfl, n, c, ks, rs, cs, rfl, hn, hc, by omega, cok.rl, cok.cl, fun H5 s5 => ?_⟩
  rw [← may_eq cok]
  refine ⟨rfl, _, rfl, ?_⟩
  rw [show (!decide (V.bl (mayB ks rs cs) = V.bl (mayB ks rs cs))) = false by simp]
  refine iteF ?_
  have gg := gg.trans s5
  have hn := hn.mono s5
  have hc := hc.mono s5
  have ed := s5 _ _ ed
  have el := s5 _ _ el
  refine ⟨_, rfl, _, _, "list", _, rfl, TyOf.lst el, kit_ll, _, rfl, iteF ?_⟩
  have lay := mark_lay (ks := ks.filter (openK rs cs)) fun k hk => (nok.mw k (List.mem_filter.mp hk).1).ok
  refine ⟨_, rfl, _, rfl, _, _, .lst el (strs_dvs _), .lst ed (strs_dvs _), shaped_of lay (by decide), shaped_of lay (by decide), _, rfl, ?_⟩
  rw [eqv_self lay]
  refine iteF ?_
  have nd : d ≠ l := fun e => by rw [e, fl] at e_d; cases e_d
  refine ⟨_, rfl, .inl ⟨rfl, _, SqL.of el⟩, l, _, .str "zz", rfl, rfl, el, small_lt (by rw [List.length_map, List.length_map]; omega), ?_⟩
  refine ⟨_, rfl, _, rfl, n, c, ks, rs, cs, rfl, hn.updL el, hc.updL el, by omega, fun l2 H6 s6 _ el2 => ?_⟩
  rw [show ((ks.filter (openK rs cs)).map fun k => V.str k.mark) = ((ks.filter (openK rs cs)).map Kn.mark).map V.str by rw [List.map_map]; rfl] at el2
  have ed2 := s6 d (.lst (((ks.filter (openK rs cs)).map Kn.mark).map V.str)) (by rw [upd_ne nd]; exact ed)
  refine ⟨_, rfl, _, _, .lst el2 (strs_dvs _), .lst ed2 (strs_dvs _), shaped_of lay (by decide), shaped_of lay (by decide), ?_⟩
  rw [eqv_self lay]
  exact hq _ ((same_fresh gg fr).trans s6)
end
end K37

namespace K37
open PySem L2
def spLaw (K : PySem.W.Frag) : Sp := fun vs H Q _ => ∃ (a : Addr) (ns : List Int), vs = [.ref a] ∧ SqL K H a (ns.map V.int) ∧ ns.length ≤ 63 ∧ ∀ H', Q (.bl true) H'
section
variable {P : Program} {w : World} {K : PySem.W.Frag} {mg : Str → Option Value} {base : Heap} {f : Addr} {fd : FuncData}
theorem ok_law (h_l_pen : Has P w K mg base "_law_pen" 1 ["_law_script", "_law_k"] (spPen K)) (h_l_net : Has P w K mg base "_law_net" 3 ["_law_pen_here"] spNet) (h_l_cells : Has P w K mg base "_law_cells" 3 ["_law_pen_here", "_law_net_here"] spCells)
    (h_l_told : Has P w K mg base "_law_told" 4 ["_law_net_here", "_law_cells_here"] spTold) (h_open_marks : Has P w K mg base "open_marks" 2 ["net", "cells"] spOpen) (h_may_be : Has P w K mg base "may_be" 3 ["net", "cells"] spMay) (z_range : mg "range" = none)
    (F : Fun K "law" "law" s_law f fd) : FnOk P w K mg base CX0 5 f fd ["_law_script"] (spLaw K) := by
  refine F.ok sc_law (fun vs H Q E h => ?_) (fun cdv A outer s H vs Q E hr h => ?_)
  · obtain ⟨a, ns, rfl, _⟩ := h
    rfl
  obtain ⟨s0, ns, rfl, hs, hl, hq⟩ := h
  refine ⟨_, (@pss_cons _ _ _ _ _ (@ps_set _ _ 1 _ _ _ _ sc_law.nd rfl (Or.inr rfl) (pe_callH h_l_net hr (@pa_cons _ _ _ _ _ (pe_callH h_l_pen hr (@pa_cons _ _ _ _ _ (pv 0) (@pa_cons _ _ _ _ _ pe_int pa_nil (by rfl)) (by rfl))) pa_nil (by rfl))) (by rfl) (by first | exact .inl rfl | exact .inr rfl))
  (@pss_cons _ _ _ _ _ (ps_setC (i := 2) sc_law.nd rfl rfl (own := ["_law_k"]) (CompOk.of rfl rfl (by rfl) (by rfl) (by rfl)) (pi_range1 rfl z_range (@pa_cons _ _ _ _ _ pe_int pa_nil (by rfl)))
    (fun _ _ _ _ _ => (pg_name (i := 0) nd_law_109_21 rfl (Or.inl rfl) (Or.inr rfl))) (fun _ _ _ _ _ => pts_nil)
    (fun _ _ _ _ _ => (pe_callH h_l_cells hr (@pa_cons _ _ _ _ _ (pe_callH h_l_pen hr (@pa_cons _ _ _ _ _ (pv 1) (@pa_cons _ _ _ _ _ (@pe_op _ _ _ _ _ _ _ _ op_add pe_int (pv 0)) pa_nil (by rfl)) (by rfl))) (@pa_cons _ _ _ _ _ (pv 2) pa_nil (by rfl)) (by rfl)))))
  (@pss_cons _ _ _ _ _ (ps_expr (pe_bm PySem.F.plainAttrs_list PySem.F.slot_list_append PySem.F.type_list_append mt_append (pv 2) (@pa_cons _ _ _ _ _ (@pe_tup _ _ _ _ _ (@pa_cons _ _ _ _ _ (@pe_tup _ _ _ _ _ pa_nil) (@pa_cons _ _ _ _ _ (@pe_tup _ _ _ _ _ pa_nil) pa_nil (by rfl)) (by rfl))) pa_nil (by rfl))))
  (@pss_cons _ _ _ _ _ (ps_for PassesOwn.never rfl (pi_list (pv 2)) (pg_name (i := 3) sc_law.nd rfl (Or.inl rfl))
  (@pss_one _ _ _ (@ps_if _ _ _ _ _ _ _ _ (@pt_not _ _ _ _ (pt_val (pe_callH h_l_told hr (@pa_cons _ _ _ _ _ (pv 1) (@pa_cons _ _ _ _ _ (pv 3) pa_nil (by rfl)) (by rfl))))) (@pss_one _ _ _ (@ps_ret _ _ _ _ pe_bl)) pss_nil)))
  (@pss_one _ _ _ (@ps_ret _ _ _ _ (@pe_and _ _ _ _ _ _ _ (pe_callH h_l_told hr (@pa_cons _ _ _ _ _ (pv 1) (@pa_cons _ _ _ _ _ (@pe_ix _ _ _ _ _ _ _ ix_list (pv 2) pe_int (fun _ _ => rfl)) pa_nil (by rfl)) (by rfl))) (@pe_and _ _ _ _ _ _ _ (@pe_cmpR _ _ _ _ _ _ _ _ op_isT (pe_callH h_may_be hr (@pa_cons _ _ _ _ _ (@pe_tup _ _ _ _ _ pa_nil) (@pa_cons _ _ _ _ _ (@pe_tup _ _ _ _ _ (@pa_cons _ _ _ _ _ (@pe_tup _ _ _ _ _ pa_nil) (@pa_cons _ _ _ _ _ (@pe_tup _ _ _ _ _ pa_nil) pa_nil (by rfl)) (by rfl))) pa_nil (by rfl)) (by rfl))) pe_bl (nomark _)) (@pe_one _ _ _ _ _ (@pe_cmpR _ _ _ _ _ _ _ _ (op_eqD hr.units) (pe_callH h_open_marks hr (@pa_cons _ _ _ _ _ (@pe_tup _ _ _ _ _ pa_nil) (@pa_cons _ _ _ _ _ (@pe_ix _ _ _ _ _ _ _ ix_list (pv 2) pe_int (fun _ _ => rfl)) pa_nil (by rfl)) (by rfl))) (@pe_lst _ _ _ _ pa_nil) (nomark _))))))))))), ?_⟩
  refine ⟨_, rfl, s0, ns, 0, rfl, hs, leI rfl, fun p H1 np s1 hp => ⟨p, rfl, hp, fun n ks H2 nok kn hp g2 => ?_⟩⟩
  have s2 := same_pen s1 np g2
  have hs := Sq_same s2 hs
  have kn := kn.unhide
  refine ⟨6, rfl, leI rfl, ltI rfl, ?_⟩
  refine comp_range (fun i ys H' => Same H2 H' ∧ ∃ cels : List (List Int × List Int), cels.length = i ∧ (∀ c ∈ cels, CelOk c.1 c.2) ∧ CelsAt H' ys cels) ⟨Same.refl _, [], rfl, (fun _ h => nomatch h), .nil⟩ ?_ ?_
  · rintro i ys H3 C hi ⟨s3, cels, cl, cok, ct⟩ hC
    have yl := ct.length
    refine ⟨small_lt (by omega), Wk.refl _, _, rfl, _, rfl, _, _, rfl, rfl, s0, ns, _, rfl, Sq_same s3 hs, by omega, fun p H4 np s4 hp => ⟨_, rfl, p, n, ks, rfl, hp, hp.net (kn.mono (s3.trans s4)), nok, fun c rs cs H5 ck kc hp g5 => ?_⟩⟩
    have s5 := same_pen s4 np g5
    refine hC _ _ ⟨s3.trans s5, cels ++ [(rs, cs)], by rw [List.length_append, cl]; rfl, ?_, (ct.mono s5).append (.cons kc.unhide .nil)⟩
    intro c hc
    rcases List.mem_append.mp hc with h | h
    · exact cok c h
    · rw [List.mem_singleton.mp h]; exact ck
  rintro ys H3 ⟨s3, cels, cl, cok, ct⟩
  have yl := ct.length
  refine ⟨small_le (by omega), ?_⟩
  have gg : Same H3 H3 := Same.refl _
  have kn := kn.mono s3
  intro l n_l
  generalize hz : upd _ l _ = H4
  have gz := laid_same hz n_l
  have e_l := laid_at hz
  clear hz
  have gg := gg.trans gz
  have kn := kn.mono gz
  have ct := ct.mono gz
  refine ⟨_, rfl, .inl ⟨rfl, _, SqL.of e_l⟩, leN rfl, ?_⟩
  intro t1 n_t1
  generalize hz : upd _ t1 _ = H5
  have gz := laid_same hz n_t1
  have e_t1 := laid_at hz
  clear hz
  have gg := gg.trans gz
  have e_l := gz _ _ e_l
  have kn := kn.mono gz
  have ct := ct.mono gz
  refine ⟨leN rfl, ?_⟩
  intro t2 n_t2
  generalize hz : upd _ t2 _ = H6
  have gz := laid_same hz n_t2
  have e_t2 := laid_at hz
  clear hz
  have gg := gg.trans gz
  have e_l := gz _ _ e_l
  have e_t1 := gz _ _ e_t1
  have kn := kn.mono gz
  have ct := ct.mono gz
  refine ⟨leN rfl, ?_⟩
  intro t3 n_t3
  generalize hz : upd _ t3 _ = H7
  have gz := laid_same hz n_t3
  have e_t3 := laid_at hz
  clear hz
  have gg := gg.trans gz
  have e_l := gz _ _ e_l
  have e_t1 := gz _ _ e_t1
  have e_t2 := gz _ _ e_t2
  have kn := kn.mono gz
  have ct := ct.mono gz
  refine ⟨l, _, _, rfl, rfl, e_l, small_lt (by omega), ?_⟩
  have kn := kn.updL (o := .lst (ys ++ [.ref t3])) e_l
  have ct := (ct.append (CelsAt.cons (c := ([], [])) ⟨t1, t2, e_t3, e_t1, e_t2⟩ .nil)).updL (o := .lst (ys ++ [.ref t3])) e_l
  have cok : ∀ c ∈ cels ++ [([], [])], CelOk c.1 c.2 := fun c hc => by
    rcases List.mem_append.mp hc with h | h
    · exact cok c h
    · rw [List.mem_singleton.mp h]; exact ⟨.nil, .nil, by decide, by decide⟩
  have cl : (cels ++ [([], [])]).length = 7 := by rw [List.length_append, cl]; rfl
  have el : upd H7 l (.lst (ys ++ [.ref t3])) l = some (.lst (ys ++ [.ref t3])) := upd_same
  generalize upd H7 l (.lst (ys ++ [.ref t3])) = H8 at kn ct el ⊢
  generalize cels ++ [([], [])] = cels at ct cok cl
  generalize ys ++ [V.ref t3] = ys at ct el
  refine ⟨_, rfl, l, rfl, ⟨_, SqL.of el⟩, ?_⟩
  refine for_list (xs := ys) (fun i σ H' => ∃ o3 : Option V, σ = [some (.ref s0), some (.ref n), some (.ref l), o3] ∧ Same H8 H') ⟨_, rfl, Same.refl _⟩ (fun i σ H' _ ⟨_, _, s⟩ => SqL.of (s _ _ el)) ?_ ?_
  · rintro i x σ H9 hx ⟨o3, rfl, s9⟩
    obtain ⟨c, b, rfl, mb, kc⟩ := ct.get hx
    refine ⟨_, rfl, _, rfl, n, c, ks, _, _, rfl, kn.mono s9, kc.mono s9, nok, cok b mb, fun H10 s10 => ?_⟩
    exact ⟨_, rfl, iteF ⟨_, rfl, s9.trans s10⟩⟩
  rintro σ H9 ⟨o3, rfl, s9⟩
  have ct := ct.mono s9
  have kn := kn.mono s9
  have el := s9 _ _ el
  obtain ⟨c0, b0, hc0, mb0, kc0⟩ := ct.atI (i := 0) (by decide) (by omega)
  obtain ⟨c1, b1, hc1, mb1, kc1⟩ := ct.atI (i := 1) (by decide) (by omega)
  refine ⟨_, rfl, _, rfl, l, _, _, _, rfl, rfl, SqL.of el, hc0, n, c0, ks, _, _, rfl, kn, kc0, nok, cok b0 mb0, fun H10 s10 => ?_⟩
  have el := s10 _ _ el
  have kc1 := kc1.mono s10
  refine ⟨_, rfl, iteT ?_⟩
  have gg : Same H10 H10 := Same.refl _
  refine ⟨leN rfl, ?_⟩
  intro t4 n_t4
  generalize hz : upd _ t4 _ = H11
  have gz := laid_same hz n_t4
  have e_t4 := laid_at hz
  clear hz
  have gg := gg.trans gz
  have el := gz _ _ el
  have kc1 := kc1.mono gz
  refine ⟨leN rfl, ?_⟩
  intro t5 n_t5
  generalize hz : upd _ t5 _ = H12
  have gz := laid_same hz n_t5
  have e_t5 := laid_at hz
  clear hz
  have gg := gg.trans gz
  have el := gz _ _ el
  have e_t4 := gz _ _ e_t4
  have kc1 := kc1.mono gz
  refine ⟨leN rfl, ?_⟩
  intro t6 n_t6
  generalize hz : upd _ t6 _ = H13
  have gz := laid_same hz n_t6
  have e_t6 := laid_at hz
  clear hz
  have gg := gg.trans gz
  have el := gz _ _ el
  have e_t4 := gz _ _ e_t4
  have e_t5 := gz _ _ e_t5
  have kc1 := kc1.mono gz
  refine ⟨leN rfl, ?_⟩
  intro t7 n_t7
  generalize hz : upd _ t7 _ = H14
  have gz := laid_same hz n_t7
  have e_t7 := laid_at hz
  clear hz
  have gg := gg.trans gz
  have el := gz _ _ el
  have e_t4 := gz _ _ e_t4
  have e_t5 := gz _ _ e_t5
  have e_t6 := gz _ _ e_t6
  have kc1 := kc1.mono gz
  refine ⟨t4, t7, [], [], [], rfl, ⟨[], e_t4, .nil⟩, ⟨t5, t6, e_t7, e_t5, e_t6⟩, by decide, fun H15 s15 => ⟨_, rfl, rfl, _, rfl, ?_⟩⟩
  rw [show mayB [] [] [] = true from (may_eq ⟨.nil, .nil, by decide, by decide⟩).trans rfl]
  refine iteT ⟨leN rfl, ?_⟩
  have el := s15 _ _ el
  have kc1 := kc1.mono s15
  have gg : Same H15 H15 := Same.refl _
  intro t8 n_t8
  generalize hz : upd _ t8 _ = H16
  have gz := laid_same hz n_t8
  have e_t8 := laid_at hz
  clear hz
  have gg := gg.trans gz
  have el := gz _ _ el
  have kc1 := kc1.mono gz
  refine ⟨_, rfl, l, _, _, _, rfl, rfl, SqL.of el, hc1, t8, c1, [], _, _, rfl, ⟨[], e_t8, .nil⟩, kc1, by decide, fun l2 H17 s17 _ el2 => ⟨leN rfl, ?_⟩⟩
  have gg : Same H17 H17 := Same.refl _
  intro t9 n_t9
  generalize hz : upd _ t9 _ = H18
  have gz := laid_same hz n_t9
  have e_t9 := laid_at hz
  clear hz
  have gg := gg.trans gz
  have el2 := gz _ _ el2
  refine ⟨_, _, .lst el2 .nil, .lst e_t9 .nil, by decide, by decide, ?_⟩
  exact hq _
end
end K37

namespace K37
open PySem L2
theorem all_mk {l : PySem.W.OpenLaw} {w : World} {K : PySem.W.Frag} {h : Heap} {mg : Str → Option Value} {fa f0 f1 f2 f3 f4 f5 f6 f7 f8 f9 f10 f11 f12 f13 f14 f15 f16 : Addr} (X : K.In h) (G : h.Ns mainGlobals mg) (hfa : mg "law" = some (.ref fa))
    {od0 an0 od1 an1 od2 an2 od3 an3 od4 an4 od5 an5 od6 an6 od7 an7 od8 an8 od9 an9 od10 an10 od11 an11 od12 an12 od13 an13 od14 an14 od15 an15 od16 an16 : Option Addr} {sl0 sl1 sl2 sl3 sl4 sl5 sl6 sl7 sl8 sl9 sl10 sl11 sl12 sl13 sl14 sl15 sl16 : Array (Option Value)} {oc0 kV0 dc0 pm0 cd0 ct0 oc1 kV1 dc1 pm1 cd1 ct1 oc2 kV2 dc2 pm2 cd2 ct2 oc3 kV3 dc3 pm3 cd3 ct3 oc4 kV4 dc4 pm4 cd4 ct4 oc5 kV5 dc5 pm5 cd5 ct5 oc6 kV6 dc6 pm6 cd6 ct6 oc7 kV7 dc7 pm7 cd7 ct7 oc8 kV8 dc8 pm8 cd8 ct8 oc9 kV9 dc9 pm9 cd9 ct9 oc10 kV10 dc10 pm10 cd10 ct10 oc11 kV11 dc11 pm11 cd11 ct11 oc12 kV12 dc12 pm12 cd12 ct12 oc13 kV13 dc13 pm13 cd13 ct13 oc14 kV14 dc14 pm14 cd14 ct14 oc15 kV15 dc15 pm15 cd15 ct15 oc16 kV16 dc16 pm16 cd16 ct16 : Value}
    (a0 : PySem.W.nsIn K mainGlobals "put_together" = some (some (.ref f0))) (l0 : K.lookup f0 = some ⟨oc0, od0, .func (PySem.W.fnOf "put_together" "put_together" (defArgs s_put_together) (defBody s_put_together) (defScope s_put_together) .none kV0 dc0 pm0 an0 cd0 ct0), sl0⟩) (c0 : PySem.W.codeIn K cd0 "put_together" = true) (k0 : PySem.W.keepIn K (.ref f0) = true)
    (a1 : PySem.W.nsIn K mainGlobals "cells_by" = some (some (.ref f1))) (l1 : K.lookup f1 = some ⟨oc1, od1, .func (PySem.W.fnOf "cells_by" "cells_by" (defArgs s_cells_by) (defBody s_cells_by) (defScope s_cells_by) .none kV1 dc1 pm1 an1 cd1 ct1), sl1⟩) (c1 : PySem.W.codeIn K cd1 "cells_by" = true) (k1 : PySem.W.keepIn K (.ref f1) = true)
    (a2 : PySem.W.nsIn K mainGlobals "open_knots" = some (some (.ref f2))) (l2 : K.lookup f2 = some ⟨oc2, od2, .func (PySem.W.fnOf "open_knots" "open_knots" (defArgs s_open_knots) (defBody s_open_knots) (defScope s_open_knots) .none kV2 dc2 pm2 an2 cd2 ct2), sl2⟩) (c2 : PySem.W.codeIn K cd2 "open_knots" = true) (k2 : PySem.W.keepIn K (.ref f2) = true)
    (a3 : PySem.W.nsIn K mainGlobals "open_marks" = some (some (.ref f3))) (l3 : K.lookup f3 = some ⟨oc3, od3, .func (PySem.W.fnOf "open_marks" "open_marks" (defArgs s_open_marks) (defBody s_open_marks) (defScope s_open_marks) .none kV3 dc3 pm3 an3 cd3 ct3), sl3⟩) (c3 : PySem.W.codeIn K cd3 "open_marks" = true) (k3 : PySem.W.keepIn K (.ref f3) = true)
    (a4 : PySem.W.nsIn K mainGlobals "may_be" = some (some (.ref f4))) (l4 : K.lookup f4 = some ⟨oc4, od4, .func (PySem.W.fnOf "may_be" "may_be" (defArgs s_may_be) (defBody s_may_be) (defScope s_may_be) .none kV4 dc4 pm4 an4 cd4 ct4), sl4⟩) (c4 : PySem.W.codeIn K cd4 "may_be" = true) (k4 : PySem.W.keepIn K (.ref f4) = true)
    (a5 : PySem.W.nsIn K mainGlobals "_law_pen" = some (some (.ref f5))) (l5 : K.lookup f5 = some ⟨oc5, od5, .func (PySem.W.fnOf "_law_pen" "_law_pen" (defArgs s_l_pen) (defBody s_l_pen) (defScope s_l_pen) .none kV5 dc5 pm5 an5 cd5 ct5), sl5⟩) (c5 : PySem.W.codeIn K cd5 "_law_pen" = true) (k5 : PySem.W.keepIn K (.ref f5) = true)
    (a6 : PySem.W.nsIn K mainGlobals "_law_draw" = some (some (.ref f6))) (l6 : K.lookup f6 = some ⟨oc6, od6, .func (PySem.W.fnOf "_law_draw" "_law_draw" (defArgs s_l_draw) (defBody s_l_draw) (defScope s_l_draw) .none kV6 dc6 pm6 an6 cd6 ct6), sl6⟩) (c6 : PySem.W.codeIn K cd6 "_law_draw" = true) (k6 : PySem.W.keepIn K (.ref f6) = true)
    (a7 : PySem.W.nsIn K mainGlobals "_law_names" = some (some (.ref f7))) (l7 : K.lookup f7 = some ⟨oc7, od7, .func (PySem.W.fnOf "_law_names" "_law_names" (defArgs s_l_names) (defBody s_l_names) (defScope s_l_names) .none kV7 dc7 pm7 an7 cd7 ct7), sl7⟩) (c7 : PySem.W.codeIn K cd7 "_law_names" = true) (k7 : PySem.W.keepIn K (.ref f7) = true)
    (a8 : PySem.W.nsIn K mainGlobals "_law_net" = some (some (.ref f8))) (l8 : K.lookup f8 = some ⟨oc8, od8, .func (PySem.W.fnOf "_law_net" "_law_net" (defArgs s_l_net) (defBody s_l_net) (defScope s_l_net) .none kV8 dc8 pm8 an8 cd8 ct8), sl8⟩) (c8 : PySem.W.codeIn K cd8 "_law_net" = true) (k8 : PySem.W.keepIn K (.ref f8) = true)
    (a9 : PySem.W.nsIn K mainGlobals "_law_stream" = some (some (.ref f9))) (l9 : K.lookup f9 = some ⟨oc9, od9, .func (PySem.W.fnOf "_law_stream" "_law_stream" (defArgs s_l_stream) (defBody s_l_stream) (defScope s_l_stream) .none kV9 dc9 pm9 an9 cd9 ct9), sl9⟩) (c9 : PySem.W.codeIn K cd9 "_law_stream" = true) (k9 : PySem.W.keepIn K (.ref f9) = true)
    (a10 : PySem.W.nsIn K mainGlobals "_law_met" = some (some (.ref f10))) (l10 : K.lookup f10 = some ⟨oc10, od10, .func (PySem.W.fnOf "_law_met" "_law_met" (defArgs s_l_met) (defBody s_l_met) (defScope s_l_met) .none kV10 dc10 pm10 an10 cd10 ct10), sl10⟩) (c10 : PySem.W.codeIn K cd10 "_law_met" = true) (k10 : PySem.W.keepIn K (.ref f10) = true)
    (a11 : PySem.W.nsIn K mainGlobals "_law_some" = some (some (.ref f11))) (l11 : K.lookup f11 = some ⟨oc11, od11, .func (PySem.W.fnOf "_law_some" "_law_some" (defArgs s_l_some) (defBody s_l_some) (defScope s_l_some) .none kV11 dc11 pm11 an11 cd11 ct11), sl11⟩) (c11 : PySem.W.codeIn K cd11 "_law_some" = true) (k11 : PySem.W.keepIn K (.ref f11) = true)
    (a12 : PySem.W.nsIn K mainGlobals "_law_cells" = some (some (.ref f12))) (l12 : K.lookup f12 = some ⟨oc12, od12, .func (PySem.W.fnOf "_law_cells" "_law_cells" (defArgs s_l_cells) (defBody s_l_cells) (defScope s_l_cells) .none kV12 dc12 pm12 an12 cd12 ct12), sl12⟩) (c12 : PySem.W.codeIn K cd12 "_law_cells" = true) (k12 : PySem.W.keepIn K (.ref f12) = true)
    (a13 : PySem.W.nsIn K mainGlobals "_law_open" = some (some (.ref f13))) (l13 : K.lookup f13 = some ⟨oc13, od13, .func (PySem.W.fnOf "_law_open" "_law_open" (defArgs s_l_open) (defBody s_l_open) (defScope s_l_open) .none kV13 dc13 pm13 an13 cd13 ct13), sl13⟩) (c13 : PySem.W.codeIn K cd13 "_law_open" = true) (k13 : PySem.W.keepIn K (.ref f13) = true)
    (a14 : PySem.W.nsIn K mainGlobals "_law_may" = some (some (.ref f14))) (l14 : K.lookup f14 = some ⟨oc14, od14, .func (PySem.W.fnOf "_law_may" "_law_may" (defArgs s_l_may) (defBody s_l_may) (defScope s_l_may) .none kV14 dc14 pm14 an14 cd14 ct14), sl14⟩) (c14 : PySem.W.codeIn K cd14 "_law_may" = true) (k14 : PySem.W.keepIn K (.ref f14) = true)
    (a15 : PySem.W.nsIn K mainGlobals "_law_told" = some (some (.ref f15))) (l15 : K.lookup f15 = some ⟨oc15, od15, .func (PySem.W.fnOf "_law_told" "_law_told" (defArgs s_l_told) (defBody s_l_told) (defScope s_l_told) .none kV15 dc15 pm15 an15 cd15 ct15), sl15⟩) (c15 : PySem.W.codeIn K cd15 "_law_told" = true) (k15 : PySem.W.keepIn K (.ref f15) = true)
    (a16 : PySem.W.nsIn K mainGlobals "law" = some (some (.ref f16))) (l16 : K.lookup f16 = some ⟨oc16, od16, .func (PySem.W.fnOf "law" "law" (defArgs s_law) (defBody s_law) (defScope s_law) .none kV16 dc16 pm16 an16 cd16 ct16), sl16⟩) (c16 : PySem.W.codeIn K cd16 "law" = true) (k16 : PySem.W.keepIn K (.ref f16) = true)
    (y_len : PySem.W.nsIn K mainGlobals "len" = some none)
    (y_isinstance : PySem.W.nsIn K mainGlobals "isinstance" = some none)
    (y_range : PySem.W.nsIn K mainGlobals "range" = some none)
    (y_bool : PySem.W.nsIn K mainGlobals "bool" = some none)
    (y_int : PySem.W.nsIn K mainGlobals "int" = some none)
    (y_sorted : PySem.W.nsIn K mainGlobals "sorted" = some none)
    (y_tuple : PySem.W.nsIn K mainGlobals "tuple" = some none)
    (y_set : PySem.W.nsIn K mainGlobals "set" = some none)
    (y_list : PySem.W.nsIn K mainGlobals "list" = some none)
    : ∃ fd : FuncData, (∀ (s : Shared) (v : Value), BindsTo s fd ⟨[v], []⟩ [("_law_script", v)]) ∧ ∀ base : Heap, K.In base → base.Ns mainGlobals mg → FnOk l.prog w K mg base CX0 5 fa fd ["_law_script"] (spLaw K) := by
  have e := hfa.symm.trans (PySem.W.mg_of X G a16)
  cases e
  have F0 := fun_mk (st := s_put_together) l0 c0 k0
  have b0 := F0.binds (ps := ["numbers"]) fun _ _ _ _ _ _ us hl => match us, hl with | [_], _ => rfl
  have m0 := PySem.W.mg_of X G a0
  have F1 := fun_mk (st := s_cells_by) l1 c1 k1
  have b1 := F1.binds (ps := ["places"]) fun _ _ _ _ _ _ us hl => match us, hl with | [_], _ => rfl
  have m1 := PySem.W.mg_of X G a1
  have F2 := fun_mk (st := s_open_knots) l2 c2 k2
  have b2 := F2.binds (ps := ["net", "cells"]) fun _ _ _ _ _ _ us hl => match us, hl with | [_, _], _ => rfl
  have m2 := PySem.W.mg_of X G a2
  have F3 := fun_mk (st := s_open_marks) l3 c3 k3
  have b3 := F3.binds (ps := ["net", "cells"]) fun _ _ _ _ _ _ us hl => match us, hl with | [_, _], _ => rfl
  have m3 := PySem.W.mg_of X G a3
  have F4 := fun_mk (st := s_may_be) l4 c4 k4
  have b4 := F4.binds (ps := ["net", "cells"]) fun _ _ _ _ _ _ us hl => match us, hl with | [_, _], _ => rfl
  have m4 := PySem.W.mg_of X G a4
  have F5 := fun_mk (st := s_l_pen) l5 c5 k5
  have b5 := F5.binds (ps := ["_law_script", "_law_k"]) fun _ _ _ _ _ _ us hl => match us, hl with | [_, _], _ => rfl
  have m5 := PySem.W.mg_of X G a5
  have F6 := fun_mk (st := s_l_draw) l6 c6 k6
  have b6 := F6.binds (ps := ["_law_pen_here", "_law_size"]) fun _ _ _ _ _ _ us hl => match us, hl with | [_, _], _ => rfl
  have m6 := PySem.W.mg_of X G a6
  have F7 := fun_mk (st := s_l_names) l7 c7 k7
  have b7 := F7.binds (ps := ["_law_pen_here", "_law_many"]) fun _ _ _ _ _ _ us hl => match us, hl with | [_, _], _ => rfl
  have m7 := PySem.W.mg_of X G a7
  have F8 := fun_mk (st := s_l_net) l8 c8 k8
  have b8 := F8.binds (ps := ["_law_pen_here"]) fun _ _ _ _ _ _ us hl => match us, hl with | [_], _ => rfl
  have m8 := PySem.W.mg_of X G a8
  have F9 := fun_mk (st := s_l_stream) l9 c9 k9
  have b9 := F9.binds (ps := ["_law_pen_here", "_law_net_here", "_law_most"]) fun _ _ _ _ _ _ us hl => match us, hl with | [_, _, _], _ => rfl
  have m9 := PySem.W.mg_of X G a9
  have F10 := fun_mk (st := s_l_met) l10 c10 k10
  have b10 := F10.binds (ps := ["_law_net_here", "_law_stream_here"]) fun _ _ _ _ _ _ us hl => match us, hl with | [_, _], _ => rfl
  have m10 := PySem.W.mg_of X G a10
  have F11 := fun_mk (st := s_l_some) l11 c11 k11
  have b11 := F11.binds (ps := ["_law_pen_here", "_law_numbers"]) fun _ _ _ _ _ _ us hl => match us, hl with | [_, _], _ => rfl
  have m11 := PySem.W.mg_of X G a11
  have F12 := fun_mk (st := s_l_cells) l12 c12 k12
  have b12 := F12.binds (ps := ["_law_pen_here", "_law_net_here"]) fun _ _ _ _ _ _ us hl => match us, hl with | [_, _], _ => rfl
  have m12 := PySem.W.mg_of X G a12
  have F13 := fun_mk (st := s_l_open) l13 c13 k13
  have b13 := F13.binds (ps := ["_law_net_here", "_law_cells_here"]) fun _ _ _ _ _ _ us hl => match us, hl with | [_, _], _ => rfl
  have m13 := PySem.W.mg_of X G a13
  have F14 := fun_mk (st := s_l_may) l14 c14 k14
  have b14 := F14.binds (ps := ["_law_net_here", "_law_cells_here"]) fun _ _ _ _ _ _ us hl => match us, hl with | [_, _], _ => rfl
  have m14 := PySem.W.mg_of X G a14
  have F15 := fun_mk (st := s_l_told) l15 c15 k15
  have b15 := F15.binds (ps := ["_law_net_here", "_law_cells_here"]) fun _ _ _ _ _ _ us hl => match us, hl with | [_, _], _ => rfl
  have m15 := PySem.W.mg_of X G a15
  have F16 := fun_mk (st := s_law) l16 c16 k16
  have z_len := PySem.W.mg_none_of X G y_len
  have z_isinstance := PySem.W.mg_none_of X G y_isinstance
  have z_range := PySem.W.mg_none_of X G y_range
  have z_bool := PySem.W.mg_none_of X G y_bool
  have z_int := PySem.W.mg_none_of X G y_int
  have z_sorted := PySem.W.mg_none_of X G y_sorted
  have z_tuple := PySem.W.mg_none_of X G y_tuple
  have z_set := PySem.W.mg_none_of X G y_set
  have z_list := PySem.W.mg_none_of X G y_list
  refine ⟨PySem.W.fnOf "law" "law" (defArgs s_law) (defBody s_law) (defScope s_law) .none kV16 dc16 pm16 an16 cd16 ct16, fun s v => .of_eq rfl, fun base kb nb => ?_⟩
  have h_draw := Has.of (ok_draw (P := l.prog) (w := w) (mg := mg) (base := base) F6) b6 F6.kp m6
  have h_pen := Has.of (ok_pen (P := l.prog) (w := w) (mg := mg) (base := base) F5 z_len) b5 F5.kp m5
  have h_put := Has.of (ok_put (P := l.prog) (w := w) (mg := mg) (base := base) z_set z_sorted z_tuple F0) b0 F0.kp m0
  have h_by := Has.of (ok_by h_put F1) b1 F1.kp m1
  have h_knots := Has.of (ok_knots (P := l.prog) (w := w) (mg := mg) (base := base) F2) b2 F2.kp m2
  have h_open := Has.of (ok_open h_knots F3) b3 F3.kp m3
  have h_may := Has.of (ok_may h_knots h_by F4) b4 F4.kp m4
  have h_names := Has.of (ok_names h_draw z_range z_set z_sorted F7) b7 F7.kp m7
  have h_net := Has.of (ok_net h_draw h_names z_tuple F8) b8 F8.kp m8
  have h_str := Has.of (ok_str h_draw z_len z_int z_range F9) b9 F9.kp m9
  have h_met := Has.of (ok_met (P := l.prog) (w := w) (mg := mg) (base := base) z_set z_sorted z_tuple F10) b10 F10.kp m10
  have h_some := Has.of (ok_some h_draw z_set z_sorted z_tuple F11) b11 F11.kp m11
  have h_cells := Has.of (ok_cells h_draw h_str h_met h_some z_list z_range z_set z_sorted z_tuple F12) b12 F12.kp m12
  have h_lopen := Has.of (ok_lopen (P := l.prog) (w := w) (mg := mg) (base := base) F13) b13 F13.kp m13
  have h_lmay := Has.of (ok_lmay h_lopen F14) b14 F14.kp m14
  have h_told := Has.of (ok_told h_lopen h_lmay h_open h_may z_isinstance z_list z_bool F15) b15 F15.kp m15
  exact ok_law h_pen h_net h_cells h_told h_open h_may z_range F16
theorem walk {l : PySem.W.OpenLaw} {q : Program} {loose : List Str} {XP : (Str → Option Value) → Heap → Prop} {YP : World → Heap → Prop} {d : DefRec} {K : Params → PySem.W.Frag} (hn : l.most = some 63) (hdf : d.params.defaults = [])
    (hY : ∀ (w : World) (h : Heap), YP w h → (K w.params).In h)
    (F : ∀ (w : World) (mg : Str → Option Value) (fa : Addr) (h : Heap), (K w.params).In h → h.Ns mainGlobals mg → mg d.name = some (.ref fa) →
      ∃ fd : FuncData, (∀ (s : Shared) (u : Value), BindsTo s fd ⟨[u], []⟩ [("_law_script", u)]) ∧ ∀ base : Heap, (K w.params).In base → base.Ns mainGlobals mg → FnOk l.prog w (K w.params) mg base CX0 5 fa fd ["_law_script"] (spLaw (K w.params))) :
    PySem.W.WalkO q loose XP YP l.row.toRowW d [] (fun f vs => PySem.call f vs) :=
  L2.walk_of (n := 63) (k := 5) (x := "_law_script") (CX := fun _ => CX0) (sp := fun w => spLaw (K w.params)) hn (by decide) hdf ⟨rfl, by decide, by decide⟩ hY F (fun _ _ a ns hl _ hS => ⟨a, ns, rfl, hS, hl, fun _ => rfl⟩) fun _ _ _ _ _ z => z
end K37
open PySem PySem.W PyProof.Rows
set_option maxRecDepth 100000 in
set_option maxHeartbeats 0 in
theorem PySem.Challenge.cw_sumshare_k37_open_marks_holds : PySem.Challenge.rw_sumshare_k37_open_marks.Holds := by
  w_on; o_law; k_head; (case hw => w_witness2)
  k_fill
  refine K37.walk (l := PySem.Challenge.rw_sumshare_k37_open_marks) rfl rfl (fun w h Y => PySem.W.kIn_of Y) ?F
  case F =>
    intro w mg fa h KX G hmg
    refine' K37.all_mk KX G hmg ?a0 ?l0 ?c0 ?k0 ?a1 ?l1 ?c1 ?k1 ?a2 ?l2 ?c2 ?k2 ?a3 ?l3 ?c3 ?k3 ?a4 ?l4 ?c4 ?k4 ?a5 ?l5 ?c5 ?k5 ?a6 ?l6 ?c6 ?k6 ?a7 ?l7 ?c7 ?k7 ?a8 ?l8 ?c8 ?k8 ?a9 ?l9 ?c9 ?k9 ?a10 ?l10 ?c10 ?k10 ?a11 ?l11 ?c11 ?k11 ?a12 ?l12 ?c12 ?k12 ?a13 ?l13 ?c13 ?k13 ?a14 ?l14 ?c14 ?k14 ?a15 ?l15 ?c15 ?k15 ?a16 ?l16 ?c16 ?k16 ?y_len ?y_isinstance ?y_range ?y_bool ?y_int ?y_sorted ?y_tuple ?y_set ?y_list
    (case a0 => k_is); (case l0 => k_is); (case c0 => k_is); (case k0 => k_is)
    (case a1 => k_is); (case l1 => k_is); (case c1 => k_is); (case k1 => k_is)
    (case a2 => k_is); (case l2 => k_is); (case c2 => k_is); (case k2 => k_is)
    (case a3 => k_is); (case l3 => k_is); (case c3 => k_is); (case k3 => k_is)
    (case a4 => k_is); (case l4 => k_is); (case c4 => k_is); (case k4 => k_is)
    (case a5 => k_is); (case l5 => k_is); (case c5 => k_is); (case k5 => k_is)
    (case a6 => k_is); (case l6 => k_is); (case c6 => k_is); (case k6 => k_is)
    (case a7 => k_is); (case l7 => k_is); (case c7 => k_is); (case k7 => k_is)
    (case a8 => k_is); (case l8 => k_is); (case c8 => k_is); (case k8 => k_is)
    (case a9 => k_is); (case l9 => k_is); (case c9 => k_is); (case k9 => k_is)
    (case a10 => k_is); (case l10 => k_is); (case c10 => k_is); (case k10 => k_is)
    (case a11 => k_is); (case l11 => k_is); (case c11 => k_is); (case k11 => k_is)
    (case a12 => k_is); (case l12 => k_is); (case c12 => k_is); (case k12 => k_is)
    (case a13 => k_is); (case l13 => k_is); (case c13 => k_is); (case k13 => k_is)
    (case a14 => k_is); (case l14 => k_is); (case c14 => k_is); (case k14 => k_is)
    (case a15 => k_is); (case l15 => k_is); (case c15 => k_is); (case k15 => k_is)
    (case a16 => k_is); (case l16 => k_is); (case c16 => k_is); (case k16 => k_is)
    (case y_len => k_is)
    (case y_isinstance => k_is)
    (case y_range => k_is)
    (case y_bool => k_is)
    (case y_int => k_is)
    (case y_sorted => k_is)
    (case y_tuple => k_is)
    (case y_set => k_is)
    (case y_list => k_is)
